/-
  Does a value fit a kind: the document's walks; Fits, why a value can't be written.
-/
import Derived.Test.YtgcimeldofbgkaaSC
import Derived.Test.YtgcimeldofbgkaaQD
namespace Go.Proofs.Ytgcimeldofbgkaa
open Go.RowKit
set_option maxRecDepth 1000000
set_option maxHeartbeats 1000000

theorem holds32 (n : Int) (h0 : 0 ≤ n) (h1 : n < 18446744073709551616) : ∃ b c : Bool, decide (-2147483648 ≤ wrap64 n) = b ∧ decide (wrap64 n < 2147483648) = c ∧ (b && c) = decide (n < 2147483648 ∨ 18446744071562067968 ≤ n) := by
  refine ⟨_, _, rfl, rfl, ?_⟩
  rw [← Bool.decide_and, decide_eq_decide]
  unfold wrap64
  omega
theorem holdsE (n : Int) (h0 : 0 ≤ n) (h1 : n < 18446744073709551616) : ∃ b c : Bool, decide (0 ≤ wrap64 n) = b ∧ decide (wrap64 n < 2147483648) = c ∧ (b && c) = decide (n ≤ 2147483647) := by
  refine ⟨_, _, rfl, rfl, ?_⟩
  rw [← Bool.decide_and, decide_eq_decide]
  unfold wrap64
  omega
theorem lt_two (n : Int) : decide (n < 2) = decide (n ≤ 1) := by rw [decide_eq_decide]; omega
theorem lt_32 (n : Int) : decide (n < 4294967296) = decide (n ≤ 4294967295) := by rw [decide_eq_decide]; omega
theorem holdsR (k n : Int) (w : World) (h0 : 0 ≤ n) (h1 : n < 18446744073709551616) : Calls Try.prog 29 #[.int .i64 k, .int .u64 n] w fun e w' => e = .returned (.bool (khold k n)) ∧ w = w' := by
  rcases kinds k with rfl | rfl | rfl | rfl | rfl | rfl | rfl | rfl | rfl | rfl | rfl | rfl | rfl | rfl | rfl | rfl | rfl | h | h
  next => go_enter Try.func29, Try.ntmps29; go_wp2; go_ret; exact ⟨ret_bool (lt_two n), rfl⟩
  next =>
    obtain ⟨b, c, hb, hc, hd⟩ := holds32 n h0 h1
    have H := hid hd
    clear hd
    cases b <;> cases c
    all_goals (go_enter Try.func29, Try.ntmps29; go_wp2; go_ret; exact ⟨ret_bool H.out, rfl⟩)
  next => go_enter Try.func29, Try.ntmps29; go_wp2; go_ret; exact ⟨rfl, rfl⟩
  next => go_enter Try.func29, Try.ntmps29; go_wp2; go_ret; exact ⟨ret_bool (lt_32 n), rfl⟩
  next => go_enter Try.func29, Try.ntmps29; go_wp2; go_ret; exact ⟨rfl, rfl⟩
  next =>
    obtain ⟨b, c, hb, hc, hd⟩ := holds32 n h0 h1
    have H := hid hd
    clear hd
    cases b <;> cases c
    all_goals (go_enter Try.func29, Try.ntmps29; go_wp2; go_ret; exact ⟨ret_bool H.out, rfl⟩)
  next => go_enter Try.func29, Try.ntmps29; go_wp2; go_ret; exact ⟨rfl, rfl⟩
  next => go_enter Try.func29, Try.ntmps29; go_wp2; go_ret; exact ⟨ret_bool (lt_32 n), rfl⟩
  next => go_enter Try.func29, Try.ntmps29; go_wp2; go_ret; exact ⟨rfl, rfl⟩
  next =>
    obtain ⟨b, c, hb, hc, hd⟩ := holds32 n h0 h1
    have H := hid hd
    clear hd
    cases b <;> cases c
    all_goals (go_enter Try.func29, Try.ntmps29; go_wp2; go_ret; exact ⟨ret_bool H.out, rfl⟩)
  next => go_enter Try.func29, Try.ntmps29; go_wp2; go_ret; exact ⟨rfl, rfl⟩
  next => go_enter Try.func29, Try.ntmps29; go_wp2; go_ret; exact ⟨ret_bool (lt_32 n), rfl⟩
  next => go_enter Try.func29, Try.ntmps29; go_wp2; go_ret; exact ⟨rfl, rfl⟩
  next => go_enter Try.func29, Try.ntmps29; go_wp2; go_ret; exact ⟨rfl, rfl⟩
  next => go_enter Try.func29, Try.ntmps29; go_wp2; go_ret; exact ⟨rfl, rfl⟩
  next =>
    obtain ⟨b, c, hb, hc, hd⟩ := holdsE n h0 h1
    have H := hid hd
    clear hd
    cases b <;> cases c
    all_goals (go_enter Try.func29, Try.ntmps29; go_wp2; go_ret; exact ⟨ret_bool H.out, rfl⟩)
  next => go_enter Try.func29, Try.ntmps29; go_wp2; go_ret; exact ⟨rfl, rfl⟩
  · obtain ⟨e1, e2, e3, e4, e5, e6, e7, e8, e9, e10, e11, e12, e13, e14, e15, e16, e17⟩ := noKind (.inl h)
    have H : Hid (true = khold k n) := hid (by unfold khold; rw [if_neg (by omega), if_neg (by omega), if_neg (by omega), if_neg (by omega)])
    clear h
    go_enter Try.func29, Try.ntmps29
    go_wp2
    go_ret
    exact ⟨ret_bool H.out, rfl⟩
  · obtain ⟨e1, e2, e3, e4, e5, e6, e7, e8, e9, e10, e11, e12, e13, e14, e15, e16, e17⟩ := noKind (.inr h)
    have H : Hid (true = khold k n) := hid (by unfold khold; rw [if_neg (by omega), if_neg (by omega), if_neg (by omega), if_neg (by omega)])
    clear h
    go_enter Try.func29, Try.ntmps29
    go_wp2
    go_ret
    exact ⟨ret_bool H.out, rfl⟩

/-- A value: its number, its bytes, how many messages. -/
structure Val (w : World) (v : Value) (n : Int) (xs : List Int) (lm : Nat) : Prop where
  shape : ∃ a len cap am cm, v = .agg #[.int .u64 n, .slice a len cap, .slice am lm cm] ∧ Reads w a len cap xs
  lo : 0 ≤ n
  hi : n < 18446744073709551616
  few : lm ≤ 9223372036854775807
theorem Val.kept {w w' : World} {v : Value} {n : Int} {xs : List Int} {lm : Nat} (h : Val w v n xs lm) (hb : Below w.heap.size w w') : Val w' v n xs lm := by
  obtain ⟨a, len, cap, am, cm, h1, h2⟩ := h.shape
  exact ⟨⟨a, len, cap, am, cm, h1, reads_kept h2 hb⟩, h.lo, h.hi, h.few⟩

theorem vfit_one {k n : Int} {lb lm : Nat} (hv : vfit k n lb lm = true) : kone k = true := by
  unfold vfit at hv
  rcases kinds k with rfl | rfl | rfl | rfl | rfl | rfl | rfl | rfl | rfl | rfl | rfl | rfl | rfl | rfl | rfl | rfl | rfl | h | h
  iterate 16 (next => rfl)
  · simp [nfit, knum] at hv
  · rw [Bool.and_eq_true, if_neg (by omega)] at hv
    unfold nfit at hv
    rw [knum_no (.inl h)] at hv
    simp at hv
  · rw [Bool.and_eq_true, if_neg (by omega)] at hv
    unfold nfit at hv
    rw [knum_no (.inr h)] at hv
    simp at hv
theorem vfit_m {k n : Int} {lb lm : Nat} (h : lm ≠ 0) : vfit k n lb lm = false := by simp [vfit, h]
theorem vfit_14 {n : Int} {lb : Nat} : vfit 14 n lb 0 = (n == 0) := by simp [vfit]; rfl
theorem vfit_15 {n : Int} {lb : Nat} : vfit 15 n lb 0 = (n == 0) := by simp [vfit]; rfl
theorem vfit_b {k n : Int} {lb : Nat} (h : lb ≠ 0) (h1 : k ≠ 14) (h2 : k ≠ 15) : vfit k n lb 0 = false := by simp [vfit, h, h1, h2]
theorem vfit_n {k n : Int} (h1 : k ≠ 14) (h2 : k ≠ 15) : vfit k n 0 0 = nfit k n := by simp [vfit, h1, h2]
theorem nfit_h {k n : Int} (h : 1 ≤ k) (h1 : k ≤ 16) (h2 : k ≠ 14) (h3 : k ≠ 15) : nfit k n = khold k n := by
  have e : knum k = true := by unfold knum; simp; omega
  unfold nfit; rw [e]; rfl
theorem vfit_k {k n : Int} {lb lm : Nat} (h : k < 1 ∨ 16 < k) : vfit k n lb lm = false := by
  have e : knum k = false := by unfold knum; simp; omega
  unfold vfit nfit
  rw [if_neg (by omega), e]
  simp
end Go.Proofs.Ytgcimeldofbgkaa
