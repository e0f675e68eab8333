/-
  Does a value fit a kind? The program's walks and the document's.
  The model's decoding of a string's bytes, held against the widths of chapter 2.
  Walks over the program's counting of characters: count, Valid.
  Values of a kind.
  A symbol of a number.
-/
import Derived.Test.YtnfdlnelfnigdaaGreatDoorCAQ
import Derived.Test.YtnfdlnelfnigdaaGreatDoorCTA
import Derived.Laws.RangeAny
import Derived.Test.YtnfdlnelfnigdaaGreatDoorCTY0
namespace Go.Proofs.YtnfdlnelfnigdaaGreatDoor
open Go.RowKit
set_option maxRecDepth 1000000
set_option linter.unusedVariables false
set_option linter.unusedSimpArgs false
set_option maxHeartbeats 1000000
def wid (n : Int) : Int := if n < 2147483648 then n else n + 18446744069414584320
def khold (k n : Int) : Bool := if k = 1 then decide (n ≤ 1) else if k = 2 ∨ k = 6 ∨ k = 10 then decide (n < 2147483648 ∨ 18446744071562067968 ≤ n) else if k = 4 ∨ k = 8 ∨ k = 12 then decide (n ≤ 4294967295) else if k = 16 then decide (n ≤ 2147483647) else true
def nfit (k n : Int) : Bool := knum k && khold k n
def vfit (k n : Int) (lb lm : Nat) : Bool := decide (lm = 0) && (if k = 14 ∨ k = 15 then decide (n = 0) else decide (lb = 0) && nfit k n)
theorem widenedW (n : Int) (w : World) (h0 : 0 ≤ n) (h1 : n < 4294967296) : Calls Tryz.prog 213 #[.int .u32 n] w fun e w' => e = .returned (.int .u64 (wid n)) ∧ w = w' := by
  go_enter Tryz.func213, Tryz.ntmps213
  go_wp2
  go_ret
  refine ⟨ret_int ?_, rfl⟩
  unfold wid
  rw [IntKind.wrap_u64]
  unfold wrap32
  split <;> omega
theorem widens (n : Int) (h0 : 0 ≤ n) (h1 : n < 18446744073709551616) : (n == wid (n % 4294967296)) = decide (n < 2147483648 ∨ 18446744071562067968 ≤ n) := by
  unfold wid
  rw [show (n == if n % 4294967296 < 2147483648 then n % 4294967296 else n % 4294967296 + 18446744069414584320) = decide (n = if n % 4294967296 < 2147483648 then n % 4294967296 else n % 4294967296 + 18446744069414584320) from rfl]
  rw [decide_eq_decide]
  split <;> omega
theorem numberFitsW (k n : Int) (w : World) (h0 : 0 ≤ n) (h1 : n < 18446744073709551616) : Calls Tryz.prog 194 #[.int .i64 k, .int .u64 n] w fun e w' => e = .returned (.bool (nfit k n)) ∧ w = w' := by
  have HN : Hid (∀ (k : Int) (w : World), Calls Tryz.prog 133 #[.int .i64 k] w fun e w' => e = .returned (.bool (knum k)) ∧ w = w') := hid numericW
  have HW := hid (widens n h0 h1)
  rcases kinds k with rfl | rfl | rfl | rfl | rfl | rfl | rfl | rfl | rfl | rfl | rfl | rfl | rfl | rfl | rfl | rfl | rfl | h | h
  iterate 17 (next => go_enter Tryz.func194, Tryz.ntmps194; go_wp2_with (first | (go_at_call 133; refine (HN.out _ _).mono ?_; rintro e w' ⟨rfl, rfl⟩) | (go_at_call 213; refine (widenedW _ _ (by omega) (by omega)).mono ?_; rintro e w' ⟨rfl, rfl⟩)); go_ret; first | exact ⟨rfl, rfl⟩ | exact ⟨ret_bool HW.out, rfl⟩)
  · obtain ⟨e1, e2, e3, e4, e5, e6, e7, e8, e9, e10, e11, e12, e13, e14, e15, e16, e17⟩ := noKind (.inl h)
    have H : Hid (knum k = nfit k n) := hid (by unfold nfit; rw [knum_no (.inl h)]; rfl)
    clear h
    go_enter Tryz.func194, Tryz.ntmps194
    go_wp2_with (go_at_call 133; refine (HN.out _ _).mono ?_; rintro e w' ⟨rfl, rfl⟩)
    go_ret
    exact ⟨ret_bool H.out, rfl⟩
  · obtain ⟨e1, e2, e3, e4, e5, e6, e7, e8, e9, e10, e11, e12, e13, e14, e15, e16, e17⟩ := noKind (.inr h)
    have H : Hid (knum k = nfit k n) := hid (by unfold nfit; rw [knum_no (.inr h)]; rfl)
    clear h
    go_enter Tryz.func194, Tryz.ntmps194
    go_wp2_with (go_at_call 133; refine (HN.out _ _).mono ?_; rintro e w' ⟨rfl, rfl⟩)
    go_ret
    exact ⟨ret_bool H.out, rfl⟩
theorem holds32 (n : Int) (h0 : 0 ≤ n) (h1 : n < 18446744073709551616) : ∃ b c : Bool, decide (-2147483648 ≤ wrap64 n) = b ∧ decide (wrap64 n < 2147483648) = c ∧ (b && c) = decide (n < 2147483648 ∨ 18446744071562067968 ≤ n) := by
  refine ⟨_, _, rfl, rfl, ?_⟩
  rw [← Bool.decide_and, decide_eq_decide]
  unfold wrap64
  omega
theorem holdsE (n : Int) (h0 : 0 ≤ n) (h1 : n < 18446744073709551616) : ∃ b c : Bool, decide (0 ≤ wrap64 n) = b ∧ decide (wrap64 n < 2147483648) = c ∧ (b && c) = decide (n ≤ 2147483647) := by
  refine ⟨_, _, rfl, rfl, ?_⟩
  rw [← Bool.decide_and, decide_eq_decide]
  unfold wrap64
  omega
theorem lt_two (n : Int) : decide (n < 2) = decide (n ≤ 1) := by rw [decide_eq_decide]; omega
theorem lt_32 (n : Int) : decide (n < 4294967296) = decide (n ≤ 4294967295) := by rw [decide_eq_decide]; omega
theorem holdsR (k n : Int) (w : World) (h0 : 0 ≤ n) (h1 : n < 18446744073709551616) : Calls Tryz.prog 121 #[.int .i64 k, .int .u64 n] w fun e w' => e = .returned (.bool (khold k n)) ∧ w = w' := by
  rcases kinds k with rfl | rfl | rfl | rfl | rfl | rfl | rfl | rfl | rfl | rfl | rfl | rfl | rfl | rfl | rfl | rfl | rfl | h | h
  next => go_enter Tryz.func121, Tryz.ntmps121; go_wp2; go_ret; exact ⟨ret_bool (lt_two n), rfl⟩
  next =>
    obtain ⟨b, c, hb, hc, hd⟩ := holds32 n h0 h1
    have H := hid hd
    clear hd
    cases b <;> cases c
    all_goals (go_enter Tryz.func121, Tryz.ntmps121; go_wp2; go_ret; exact ⟨ret_bool H.out, rfl⟩)
  next => go_enter Tryz.func121, Tryz.ntmps121; go_wp2; go_ret; exact ⟨rfl, rfl⟩
  next => go_enter Tryz.func121, Tryz.ntmps121; go_wp2; go_ret; exact ⟨ret_bool (lt_32 n), rfl⟩
  next => go_enter Tryz.func121, Tryz.ntmps121; go_wp2; go_ret; exact ⟨rfl, rfl⟩
  next =>
    obtain ⟨b, c, hb, hc, hd⟩ := holds32 n h0 h1
    have H := hid hd
    clear hd
    cases b <;> cases c
    all_goals (go_enter Tryz.func121, Tryz.ntmps121; go_wp2; go_ret; exact ⟨ret_bool H.out, rfl⟩)
  next => go_enter Tryz.func121, Tryz.ntmps121; go_wp2; go_ret; exact ⟨rfl, rfl⟩
  next => go_enter Tryz.func121, Tryz.ntmps121; go_wp2; go_ret; exact ⟨ret_bool (lt_32 n), rfl⟩
  next => go_enter Tryz.func121, Tryz.ntmps121; go_wp2; go_ret; exact ⟨rfl, rfl⟩
  next =>
    obtain ⟨b, c, hb, hc, hd⟩ := holds32 n h0 h1
    have H := hid hd
    clear hd
    cases b <;> cases c
    all_goals (go_enter Tryz.func121, Tryz.ntmps121; go_wp2; go_ret; exact ⟨ret_bool H.out, rfl⟩)
  next => go_enter Tryz.func121, Tryz.ntmps121; go_wp2; go_ret; exact ⟨rfl, rfl⟩
  next => go_enter Tryz.func121, Tryz.ntmps121; go_wp2; go_ret; exact ⟨ret_bool (lt_32 n), rfl⟩
  next => go_enter Tryz.func121, Tryz.ntmps121; go_wp2; go_ret; exact ⟨rfl, rfl⟩
  next => go_enter Tryz.func121, Tryz.ntmps121; go_wp2; go_ret; exact ⟨rfl, rfl⟩
  next => go_enter Tryz.func121, Tryz.ntmps121; go_wp2; go_ret; exact ⟨rfl, rfl⟩
  next =>
    obtain ⟨b, c, hb, hc, hd⟩ := holdsE n h0 h1
    have H := hid hd
    clear hd
    cases b <;> cases c
    all_goals (go_enter Tryz.func121, Tryz.ntmps121; go_wp2; go_ret; exact ⟨ret_bool H.out, rfl⟩)
  next => go_enter Tryz.func121, Tryz.ntmps121; go_wp2; go_ret; exact ⟨rfl, rfl⟩
  · obtain ⟨e1, e2, e3, e4, e5, e6, e7, e8, e9, e10, e11, e12, e13, e14, e15, e16, e17⟩ := noKind (.inl h)
    have H : Hid (true = khold k n) := hid (by unfold khold; rw [if_neg (by omega), if_neg (by omega), if_neg (by omega), if_neg (by omega)])
    clear h
    go_enter Tryz.func121, Tryz.ntmps121
    go_wp2
    go_ret
    exact ⟨ret_bool H.out, rfl⟩
  · obtain ⟨e1, e2, e3, e4, e5, e6, e7, e8, e9, e10, e11, e12, e13, e14, e15, e16, e17⟩ := noKind (.inr h)
    have H : Hid (true = khold k n) := hid (by unfold khold; rw [if_neg (by omega), if_neg (by omega), if_neg (by omega), if_neg (by omega)])
    clear h
    go_enter Tryz.func121, Tryz.ntmps121
    go_wp2
    go_ret
    exact ⟨ret_bool H.out, rfl⟩
theorem vfit_m {k n : Int} {lb lm : Nat} (h : lm ≠ 0) : vfit k n lb lm = false := by simp [vfit, h]
theorem vfit_14 {n : Int} {lb : Nat} : vfit 14 n lb 0 = (n == 0) := by simp [vfit]; rfl
theorem vfit_15 {n : Int} {lb : Nat} : vfit 15 n lb 0 = (n == 0) := by simp [vfit]; rfl
theorem vfit_b {k n : Int} {lb : Nat} (h : lb ≠ 0) (h1 : k ≠ 14) (h2 : k ≠ 15) : vfit k n lb 0 = false := by simp [vfit, h, h1, h2]
theorem vfit_n {k n : Int} (h1 : k ≠ 14) (h2 : k ≠ 15) : vfit k n 0 0 = nfit k n := by simp [vfit, h1, h2]
theorem nfit_h {k n : Int} (h : 1 ≤ k) (h1 : k ≤ 16) (h2 : k ≠ 14) (h3 : k ≠ 15) : nfit k n = khold k n := by
  have e : knum k = true := by unfold knum; simp; omega
  unfold nfit; rw [e]; rfl
theorem vfit_k {k n : Int} {lb lm : Nat} (h : k < 1 ∨ 16 < k) : vfit k n lb lm = false := by
  have e : knum k = false := by unfold knum; simp; omega
  unfold vfit nfit
  rw [if_neg (by omega), e]
  simp
section
variable (k n : Int) (a am : Option Addr) (len cap lm cm : Nat) (w : World)
theorem fitsW (h0 : 0 ≤ n) (h1 : n < 18446744073709551616) (hl : len ≤ 9223372036854775807) (hm : lm ≤ 9223372036854775807) : Calls Tryz.prog 174 #[.int .i64 k, .agg #[.int .u64 n, .slice a len cap, .slice am lm cm]] w fun e w' => e = .returned (.bool (vfit k n len lm)) ∧ Below w.heap.size w w' := by
  by_cases hm0 : lm = 0
  · subst hm0
    by_cases h14 : k = 14
    · subst h14
      rw [vfit_14]
      go_enter Tryz.func174, Tryz.ntmps174
      go_wp2
      go_ret
      exact ⟨rfl, below_alloc _⟩
    by_cases h15 : k = 15
    · subst h15
      rw [vfit_15]
      go_enter Tryz.func174, Tryz.ntmps174
      go_wp2
      go_ret
      exact ⟨rfl, below_alloc _⟩
    have e14 : (k == 14) = false := by simpa using h14
    have e15 : (k == 15) = false := by simpa using h15
    by_cases hb : len = 0
    · subst hb
      rw [vfit_n h14 h15]
      clear h14 h15
      go_enter Tryz.func174, Tryz.ntmps174
      go_wp2_with (go_at_call 194; refine (numberFitsW k n _ h0 h1).mono ?_; rintro e w' ⟨rfl, rfl⟩)
      go_ret
      exact ⟨rfl, below_alloc _⟩
    · rw [vfit_b hb h14 h15]
      have eb : ((len : Int) == 0) = false := by simpa using hb
      clear h14 h15 hb
      go_enter Tryz.func174, Tryz.ntmps174
      go_wp2
      go_ret
      exact ⟨rfl, below_alloc _⟩
  · rw [vfit_m hm0]
    have em : 0 < (lm : Int) := by omega
    clear hm0
    go_enter Tryz.func174, Tryz.ntmps174
    go_wp2
    go_ret
    exact ⟨rfl, below_alloc _⟩
theorem fitsR (h0 : 0 ≤ n) (h1 : n < 18446744073709551616) (hl : len ≤ 9223372036854775807) (hm : lm ≤ 9223372036854775807) : Calls Tryz.prog 81 #[.int .i64 k, .agg #[.int .u64 n, .slice a len cap, .slice am lm cm]] w fun e w' => e = .returned (.bool (vfit k n len lm)) ∧ Below w.heap.size w w' := by
  by_cases hk1 : k < 1
  · rw [vfit_k (.inl hk1)]
    go_enter Tryz.func81, Tryz.ntmps81
    go_wp2
    go_ret
    exact ⟨rfl, below_alloc _⟩
  by_cases hk2 : 16 < k
  · rw [vfit_k (.inr hk2)]
    go_enter Tryz.func81, Tryz.ntmps81
    go_wp2
    go_ret
    exact ⟨rfl, below_alloc _⟩
  by_cases hm0 : lm = 0
  · subst hm0
    by_cases h14 : k = 14
    · subst h14
      rw [vfit_14]
      go_enter Tryz.func81, Tryz.ntmps81
      go_wp2
      go_ret
      exact ⟨rfl, below_alloc _⟩
    by_cases h15 : k = 15
    · subst h15
      rw [vfit_15]
      go_enter Tryz.func81, Tryz.ntmps81
      go_wp2
      go_ret
      exact ⟨rfl, below_alloc _⟩
    have e14 : (k == 14) = false := by simpa using h14
    have e15 : (k == 15) = false := by simpa using h15
    by_cases hb : len = 0
    · subst hb
      rw [vfit_n h14 h15, nfit_h (by omega) (by omega) h14 h15]
      clear h14 h15
      go_enter Tryz.func81, Tryz.ntmps81
      go_wp2_with (go_at_call 121; refine (holdsR k n _ h0 h1).mono ?_; rintro e w' ⟨rfl, rfl⟩)
      go_ret
      exact ⟨rfl, below_alloc _⟩
    · rw [vfit_b hb h14 h15]
      have eb : ((len : Int) == 0) = false := by simpa using hb
      clear h14 h15 hb
      go_enter Tryz.func81, Tryz.ntmps81
      go_wp2
      go_ret
      exact ⟨rfl, below_alloc _⟩
  · rw [vfit_m hm0]
    have em : 0 < (lm : Int) := by omega
    clear hm0
    go_enter Tryz.func81, Tryz.ntmps81
    go_wp2
    go_ret
    exact ⟨rfl, below_alloc _⟩
end
/-- The three bytes of the character FFFD stand ahead. -/
def pre (l : List Int) : Prop := l.take 3 = [239, 191, 189]
section
variable {s : ByteArray} {pos : Nat}
theorem dec_none (h : 128 ≤ (s.get! pos).toNat) (hc : (s.get! pos).toNat < 192 ∨ 248 ≤ (s.get! pos).toNat) : Utf8.decode s pos = (65533, 1) := by
  have h1 : ¬ (s.get! pos).toNat < 128 := by omega
  have h2 : ¬ (s.get! pos).toNat / 32 = 6 := by omega
  have h3 : ¬ (s.get! pos).toNat / 16 = 14 := by omega
  have h4 : ¬ (s.get! pos).toNat / 8 = 30 := by omega
  simp only [Utf8.decode, Nat.add_zero, h1, if_false, Utf8.runeError]
  simp [h2, h3, h4]
theorem dec_two (h0 : 192 ≤ (s.get! pos).toNat) (h : (s.get! pos).toNat < 224) :
    Utf8.decode s pos = if (pos + 1 < s.size ∧ (s.get! (pos + 1)).toNat / 64 = 2) ∧ 128 ≤ (s.get! pos).toNat % 32 * 64 + (s.get! (pos + 1)).toNat % 64 then ((s.get! pos).toNat % 32 * 64 + (s.get! (pos + 1)).toNat % 64, 2) else (65533, 1) := by
  have h1 : ¬ (s.get! pos).toNat < 128 := by omega
  have h2 : (s.get! pos).toNat / 32 = 6 := by omega
  have h3 : ¬ (s.get! pos).toNat / 16 = 14 := by omega
  have h4 : ¬ (s.get! pos).toNat / 8 = 30 := by omega
  simp only [Utf8.decode, Nat.add_zero, h1, if_false, Utf8.runeError]
  by_cases k1 : pos + 1 < s.size ∧ (s.get! (pos + 1)).toNat / 64 = 2
  · simp [h2, k1]
  · simp only [k1, false_and, if_false]
    simp only [not_and] at k1
    by_cases k2 : pos + 1 < s.size
    · simp [h3, h4, k2, k1 k2]
    · simp [k2]
theorem dec_three (h0 : 224 ≤ (s.get! pos).toNat) (h : (s.get! pos).toNat < 240) :
    Utf8.decode s pos = if ((pos + 1 < s.size ∧ (s.get! (pos + 1)).toNat / 64 = 2) ∧ (pos + 2 < s.size ∧ (s.get! (pos + 2)).toNat / 64 = 2)) ∧ (2048 ≤ (s.get! pos).toNat % 16 * 4096 + (s.get! (pos + 1)).toNat % 64 * 64 + (s.get! (pos + 2)).toNat % 64 ∧ Utf8.valid ((s.get! pos).toNat % 16 * 4096 + (s.get! (pos + 1)).toNat % 64 * 64 + (s.get! (pos + 2)).toNat % 64 : Nat) = true) then ((s.get! pos).toNat % 16 * 4096 + (s.get! (pos + 1)).toNat % 64 * 64 + (s.get! (pos + 2)).toNat % 64, 3) else (65533, 1) := by
  have h1 : ¬ (s.get! pos).toNat < 128 := by omega
  have h2 : ¬ (s.get! pos).toNat / 32 = 6 := by omega
  have h3 : (s.get! pos).toNat / 16 = 14 := by omega
  have h4 : ¬ (s.get! pos).toNat / 8 = 30 := by omega
  simp only [Utf8.decode, Nat.add_zero, h1, if_false, Utf8.runeError]
  by_cases k1 : (pos + 1 < s.size ∧ (s.get! (pos + 1)).toNat / 64 = 2) ∧ (pos + 2 < s.size ∧ (s.get! (pos + 2)).toNat / 64 = 2)
  · obtain ⟨⟨a, b⟩, c, d⟩ := k1
    simp only [a, b, c, d, h3]
    simp [h2]
  · have e : ((s.get! pos).toNat / 16 == 14 && (decide (pos + 1 < s.size) && (s.get! (pos + 1)).toNat / 64 == 2) && (decide (pos + 2 < s.size) && (s.get! (pos + 2)).toNat / 64 == 2)) = false := by
      rw [Bool.eq_false_iff]
      intro hh
      simp only [Bool.and_eq_true, decide_eq_true_eq, beq_iff_eq] at hh
      exact k1 ⟨hh.1.2, hh.2⟩
    simp only [e]
    simp [h2, h4]
    intro a b c d
    exact absurd ⟨⟨a, b⟩, c, d⟩ k1
theorem dec_four (h0 : 240 ≤ (s.get! pos).toNat) (h : (s.get! pos).toNat < 248) :
    Utf8.decode s pos = if ((pos + 1 < s.size ∧ (s.get! (pos + 1)).toNat / 64 = 2) ∧ (pos + 2 < s.size ∧ (s.get! (pos + 2)).toNat / 64 = 2) ∧ (pos + 3 < s.size ∧ (s.get! (pos + 3)).toNat / 64 = 2)) ∧ (65536 ≤ (s.get! pos).toNat % 8 * 262144 + (s.get! (pos + 1)).toNat % 64 * 4096 + (s.get! (pos + 2)).toNat % 64 * 64 + (s.get! (pos + 3)).toNat % 64 ∧ Utf8.valid ((s.get! pos).toNat % 8 * 262144 + (s.get! (pos + 1)).toNat % 64 * 4096 + (s.get! (pos + 2)).toNat % 64 * 64 + (s.get! (pos + 3)).toNat % 64 : Nat) = true) then ((s.get! pos).toNat % 8 * 262144 + (s.get! (pos + 1)).toNat % 64 * 4096 + (s.get! (pos + 2)).toNat % 64 * 64 + (s.get! (pos + 3)).toNat % 64, 4) else (65533, 1) := by
  have h1 : ¬ (s.get! pos).toNat < 128 := by omega
  have h2 : ¬ (s.get! pos).toNat / 32 = 6 := by omega
  have h3 : ¬ (s.get! pos).toNat / 16 = 14 := by omega
  have h4 : (s.get! pos).toNat / 8 = 30 := by omega
  simp only [Utf8.decode, Nat.add_zero, h1, if_false, Utf8.runeError]
  by_cases k1 : (pos + 1 < s.size ∧ (s.get! (pos + 1)).toNat / 64 = 2) ∧ (pos + 2 < s.size ∧ (s.get! (pos + 2)).toNat / 64 = 2) ∧ (pos + 3 < s.size ∧ (s.get! (pos + 3)).toNat / 64 = 2)
  · obtain ⟨⟨a, b⟩, ⟨c, d⟩, e, f⟩ := k1
    simp only [a, b, c, d, e, f, h4]
    simp [h2, h3]
  · have e : ((s.get! pos).toNat / 8 == 30 && (decide (pos + 1 < s.size) && (s.get! (pos + 1)).toNat / 64 == 2) && (decide (pos + 2 < s.size) && (s.get! (pos + 2)).toNat / 64 == 2) && (decide (pos + 3 < s.size) && (s.get! (pos + 3)).toNat / 64 == 2)) = false := by
      rw [Bool.eq_false_iff]
      intro hh
      simp only [Bool.and_eq_true, decide_eq_true_eq, beq_iff_eq] at hh
      exact k1 ⟨hh.1.1.2, hh.1.2, hh.2⟩
    simp only [e]
    simp [h2, h3]
    intro a b c d e f
    exact absurd ⟨⟨a, b⟩, ⟨c, d⟩, e, f⟩ k1
end
theorem get_num {xs : List Int} (hb : ∀ x ∈ xs, 0 ≤ x ∧ x ≤ 255) (j : Nat) : (((strOfNums xs).get! j).toNat : Int) = xs.getD j 0 := by
  by_cases h : j < xs.length
  · have h' : j < (strOfNums xs).size := by rw [strOfNums_size]; exact h
    have e := get_at (strOfNums xs) j h'
    rw [Nat.add_zero] at e
    rw [e]
    have e2 : (strOfNums xs)[j]'h' = UInt8.ofNat (xs[j]).toNat := by
      show (strOfNums xs).data[j] = _
      simp [strOfNums]
    have := hb xs[j] (List.getElem_mem h)
    rw [e2]
    simp [h]
    omega
  · have e : (strOfNums xs).get! j = 0 := by
      have h' : ¬ j < (strOfNums xs).data.size := by simpa [strOfNums] using h
      simp only [ByteArray.get!]
      rw [getElem!_neg (strOfNums xs).data j h']
      rfl
    rw [e]
    simp [h]
theorem valid_nat (n : Nat) : Utf8.valid (n : Int) = true ↔ n ≤ 1114111 ∧ ¬ (55296 ≤ n ∧ n ≤ 57343) := by
  simp only [Utf8.valid, Bool.or_eq_true, Bool.and_eq_true, decide_eq_true_eq]
  omega
theorem okV_iff (v low : Int) : okV v low = true ↔ low ≤ v ∧ v ≤ 1114111 ∧ ¬ (55296 ≤ v ∧ v ≤ 57343) := by unfold okV; exact decide_eq_true_iff
theorem out_none {D : Nat × Nat} {l : List Int} {k : Nat} (hk : k = 0) (hD : D = (65533, 1)) (hp : ¬ pre l) : (k = 0 → D = (65533, 1) ∧ ¬ pre l) ∧ (k ≠ 0 → D.2 = k ∧ (D.1 = 65533 → pre l)) := ⟨fun _ => ⟨hD, hp⟩, fun h => absurd hk h⟩
theorem out_some {D : Nat × Nat} {l : List Int} {k n v : Nat} (hk : k = n) (hn : n ≠ 0) (hD : D = (v, n)) (hp : v = 65533 → pre l) : (k = 0 → D = (65533, 1) ∧ ¬ pre l) ∧ (k ≠ 0 → D.2 = k ∧ (D.1 = 65533 → pre l)) := by
  subst hk hD
  exact ⟨fun h => absurd h hn, fun _ => ⟨rfl, hp⟩⟩
/-- What ranging over a string tells at a place, by the width of the character that stands there. -/
theorem dec_chr {xs : List Int} (hb : ∀ x ∈ xs, 0 ≤ x ∧ x ≤ 255) {pos : Nat} (h : pos < xs.length) :
    (chr (xs.drop pos) = 0 → Utf8.decode (strOfNums xs) pos = (65533, 1) ∧ ¬ pre (xs.drop pos)) ∧
    (chr (xs.drop pos) ≠ 0 → (Utf8.decode (strOfNums xs) pos).2 = chr (xs.drop pos) ∧ ((Utf8.decode (strOfNums xs) pos).1 = 65533 → pre (xs.drop pos))) := by
  have g : ∀ k, (((strOfNums xs).get! (pos + k)).toNat : Int) = (xs.drop pos).getD k 0 := fun k => by rw [get_num hb]; simp
  have sz : ∀ k, pos + k < (strOfNums xs).size ↔ k < (xs.drop pos).length := fun k => by rw [strOfNums_size]; simp; omega
  have hb' : ∀ x ∈ xs.drop pos, 0 ≤ x ∧ x ≤ 255 := fun x hx => hb x (List.mem_of_mem_drop hx)
  have hne : xs.drop pos ≠ [] := by simp; omega
  generalize xs.drop pos = l at *
  have g0 := g 0; have g1 := g 1; have g2 := g 2; have g3 := g 3
  have z1 := sz 1; have z2 := sz 2; have z3 := sz 3
  clear g sz
  rw [Nat.add_zero] at g0
  obtain ⟨c, r, rfl⟩ : ∃ c r, l = c :: r := by cases l with
    | nil => exact absurd rfl hne
    | cons c r => exact ⟨c, r, rfl⟩
  have hc := hb' c (by simp)
  simp only [List.getD_cons_zero, List.getD_cons_succ] at g0 g1 g2 g3
  simp only [List.length_cons] at z1 z2 z3
  rw [chr_cons]
  by_cases c1 : c < 128
  · have hs : szF c = 1 := by simp [szF, c1]
    have e : Utf8.decode (strOfNums xs) pos = (((strOfNums xs).get! pos).toNat, 1) := by
      simp only [Utf8.decode, Nat.add_zero]
      rw [if_pos (by omega)]
    have hok : okV (ctF r (szF c - 1) (v0F c)) (lowF c) = true := by
      rw [hs, okV_iff]; simp [v0F, lowF, c1, ctF]; omega
    rw [hok, hs, e]
    exact ⟨fun h => by simp at h, fun _ => ⟨rfl, fun h => by simp at h; omega⟩⟩
  by_cases c2 : c < 192 ∨ 248 ≤ c
  · have hs : szF c = 0 := by unfold szF; (repeat' split) <;> omega
    rw [hs, dec_none (by omega) (by omega)]
    refine ⟨fun _ => ⟨rfl, fun h => ?_⟩, fun h => by simp at h⟩
    unfold pre at h
    simp at h
    omega
  by_cases c3 : c < 224
  · have hs : szF c = 2 := by unfold szF; (repeat' split) <;> omega
    have hv : v0F c = c - 192 := by simp [v0F, c1, c3]
    have hl : lowF c = 128 := by simp [lowF, c1, c3]
    have hp : ¬ pre (c :: r) := fun h => by unfold pre at h; simp at h; omega
    rw [dec_two (by omega) (by omega), hs, hv, hl]
    cases r with
    | nil =>
      have e : okV (ctF [] (2 - 1) (c - 192)) 128 = false := by simp [ctF, okV]
      exact out_none (by rw [e]; rfl) (if_neg (fun h => by have := z1.1 h.1.1; simp at this)) hp
    | cons d r =>
      have hd := hb' d (by simp)
      simp only [List.getD_cons_zero] at g1
      by_cases hbad : d < 128 ∨ 192 ≤ d
      · have e : okV (ctF (d :: r) (2 - 1) (c - 192)) 128 = false := by simp [ctF, hbad, okV]
        exact out_none (by rw [e]; rfl) (if_neg (fun h => by omega)) hp
      · have e : ctF (d :: r) (2 - 1) (c - 192) = (c - 192) * 64 + d - 128 := by simp [ctF, hbad]
        rw [e]
        have hz : pos + 1 < (strOfNums xs).size := z1.2 (by simp)
        by_cases hok : okV ((c - 192) * 64 + d - 128) 128 = true
        · have hok' := (okV_iff _ _).1 hok
          exact out_some (by rw [hok]; rfl) (by decide) (if_pos ⟨⟨hz, by omega⟩, by omega⟩) (fun h => by omega)
        · have hok' := fun h => hok ((okV_iff _ _).2 h)
          exact out_none (by rw [if_neg (by decide), if_neg hok]) (if_neg (fun h => hok' (by omega))) hp
  by_cases c4 : c < 240
  · have hs : szF c = 3 := by unfold szF; (repeat' split) <;> omega
    have hv : v0F c = c - 224 := by simp [v0F, c1, c3, c4]
    have hl : lowF c = 2048 := by simp [lowF, c1, c3, c4]
    rw [dec_three (by omega) (by omega), hs, hv, hl]
    cases r with
    | nil =>
      have hp : ¬ pre [c] := fun h => by unfold pre at h; simp at h
      have e : okV (ctF [] (3 - 1) (c - 224)) 2048 = false := by simp [ctF, okV]
      exact out_none (by rw [e]; rfl) (if_neg (fun h => by have := z1.1 h.1.1.1; simp at this)) hp
    | cons d r =>
    have hd := hb' d (by simp)
    simp only [List.getD_cons_zero, List.getD_cons_succ] at g1 g2
    by_cases hbad : d < 128 ∨ 192 ≤ d
    · have hp : ¬ pre (c :: d :: r) := fun h => by unfold pre at h; simp at h; omega
      have e : okV (ctF (d :: r) (3 - 1) (c - 224)) 2048 = false := by simp [ctF, hbad, okV]
      exact out_none (by rw [e]; rfl) (if_neg (fun h => by omega)) hp
    cases r with
    | nil =>
      have hp : ¬ pre [c, d] := fun h => by unfold pre at h; simp at h
      have e : okV (ctF [d] (3 - 1) (c - 224)) 2048 = false := by simp [ctF, hbad, okV]
      exact out_none (by rw [e]; rfl) (if_neg (fun h => by have := z2.1 h.1.2.1; simp at this)) hp
    | cons x r =>
    have hx := hb' x (by simp)
    simp only [List.getD_cons_zero] at g2
    by_cases hbx : x < 128 ∨ 192 ≤ x
    · have hp : ¬ pre (c :: d :: x :: r) := fun h => by unfold pre at h; simp at h; omega
      have e : okV (ctF (d :: x :: r) (3 - 1) (c - 224)) 2048 = false := by simp [ctF, hbad, hbx, okV]
      exact out_none (by rw [e]; rfl) (if_neg (fun h => by omega)) hp
    · have e : ctF (d :: x :: r) (3 - 1) (c - 224) = ((c - 224) * 64 + d - 128) * 64 + x - 128 := by simp [ctF, hbad, hbx]
      rw [e]
      have hz : pos + 1 < (strOfNums xs).size := z1.2 (by simp)
      have hz2 : pos + 2 < (strOfNums xs).size := z2.2 (by simp)
      by_cases hok : okV (((c - 224) * 64 + d - 128) * 64 + x - 128) 2048 = true
      · have hok' := (okV_iff _ _).1 hok
        refine out_some (by rw [hok]; rfl) (by decide) (if_pos ⟨⟨⟨hz, by omega⟩, hz2, by omega⟩, by omega, (valid_nat _).2 (by omega)⟩) (fun h => ?_)
        unfold pre
        simp
        omega
      · have hok' := fun h => hok ((okV_iff _ _).2 h)
        have hp : ¬ pre (c :: d :: x :: r) := fun h => by unfold pre at h; simp at h; exact hok' (by omega)
        exact out_none (by rw [if_neg (by decide), if_neg hok]) (if_neg (fun h => hok' (by have := (valid_nat _).1 h.2.2; omega))) hp
  · have hs : szF c = 4 := by unfold szF; (repeat' split) <;> omega
    have hv : v0F c = c - 240 := by simp [v0F, c1, c3, c4]
    have hl : lowF c = 65536 := by simp [lowF, c1, c3, c4]
    have hp : ¬ pre (c :: r) := fun h => by unfold pre at h; simp at h; omega
    rw [dec_four (by omega) (by omega), hs, hv, hl]
    cases r with
    | nil =>
      have e : okV (ctF [] (4 - 1) (c - 240)) 65536 = false := by simp [ctF, okV]
      exact out_none (by rw [e]; rfl) (if_neg (fun h => by have := z1.1 h.1.1.1; simp at this)) hp
    | cons d r =>
    have hd := hb' d (by simp)
    simp only [List.getD_cons_zero, List.getD_cons_succ] at g1 g2 g3
    by_cases hbad : d < 128 ∨ 192 ≤ d
    · have e : okV (ctF (d :: r) (4 - 1) (c - 240)) 65536 = false := by simp [ctF, hbad, okV]
      exact out_none (by rw [e]; rfl) (if_neg (fun h => by omega)) hp
    cases r with
    | nil =>
      have e : okV (ctF [d] (4 - 1) (c - 240)) 65536 = false := by simp [ctF, hbad, okV]
      exact out_none (by rw [e]; rfl) (if_neg (fun h => by have := z2.1 h.1.2.1.1; simp at this)) hp
    | cons x r =>
    have hx := hb' x (by simp)
    simp only [List.getD_cons_zero, List.getD_cons_succ] at g2 g3
    by_cases hbx : x < 128 ∨ 192 ≤ x
    · have e : okV (ctF (d :: x :: r) (4 - 1) (c - 240)) 65536 = false := by simp [ctF, hbad, hbx, okV]
      exact out_none (by rw [e]; rfl) (if_neg (fun h => by omega)) hp
    cases r with
    | nil =>
      have e : okV (ctF [d, x] (4 - 1) (c - 240)) 65536 = false := by simp [ctF, hbad, hbx, okV]
      exact out_none (by rw [e]; rfl) (if_neg (fun h => by have := z3.1 h.1.2.2.1; simp at this)) hp
    | cons y r =>
    have hy := hb' y (by simp)
    simp only [List.getD_cons_zero] at g3
    by_cases hby : y < 128 ∨ 192 ≤ y
    · have e : okV (ctF (d :: x :: y :: r) (4 - 1) (c - 240)) 65536 = false := by simp [ctF, hbad, hbx, hby, okV]
      exact out_none (by rw [e]; rfl) (if_neg (fun h => by omega)) hp
    · have e : ctF (d :: x :: y :: r) (4 - 1) (c - 240) = (((c - 240) * 64 + d - 128) * 64 + x - 128) * 64 + y - 128 := by simp [ctF, hbad, hbx, hby]
      rw [e]
      have hz : pos + 1 < (strOfNums xs).size := z1.2 (by simp)
      have hz2 : pos + 2 < (strOfNums xs).size := z2.2 (by simp)
      have hz3 : pos + 3 < (strOfNums xs).size := z3.2 (by simp)
      by_cases hok : okV ((((c - 240) * 64 + d - 128) * 64 + x - 128) * 64 + y - 128) 65536 = true
      · have hok' := (okV_iff _ _).1 hok
        exact out_some (by rw [hok]; rfl) (by decide) (if_pos ⟨⟨⟨hz, by omega⟩, ⟨hz2, by omega⟩, hz3, by omega⟩, by omega, (valid_nat _).2 (by omega)⟩) (fun h => by omega)
      · have hok' := fun h => hok ((okV_iff _ _).2 h)
        exact out_none (by rw [if_neg (by decide), if_neg hok]) (if_neg (fun h => hok' (by have := (valid_nat _).1 h.2.2; omega))) hp
theorem str_list8 (xs : List Int) : (strOfNums xs).toList = xs.map fun n => UInt8.ofNat n.toNat := by
  rw [strOfNums, ByteArray.toList_mk]
theorem str_cut8 (xs : List Int) (a b : Nat) : (strOfNums xs).extract a b = strOfNums ((xs.take b).drop a) := by
  apply ByteArray.ext
  apply Array.ext'
  simp [strOfNums, ByteArray.data_extract, List.map_drop, List.map_take, List.drop_take]
theorem str_eq8 {xs ys : List Int} (hx : ∀ x ∈ xs, 0 ≤ x ∧ x ≤ 255) (hy : ∀ x ∈ ys, 0 ≤ x ∧ x ≤ 255) : ((strOfNums xs).toList == (strOfNums ys).toList) = decide (xs = ys) := by
  by_cases h : xs = ys
  · subst h; simp
  · have : (strOfNums xs).toList ≠ (strOfNums ys).toList := fun e => h (strOfNums_inj xs ys hx hy (by
      apply ByteArray.ext; apply Array.ext'
      rw [str_list8, str_list8] at e
      simpa [strOfNums] using e))
    simp [h, this]
def preB (l : List Int) : Bool := decide (l.take 3 = [239, 191, 189])
theorem preB_iff (l : List Int) : preB l = true ↔ pre l := by simp [preB, pre]
theorem prefixS (l : List Int) (w : World) (hl : l.length ≤ 9223372036854775807) (hb : ∀ x ∈ l, 0 ≤ x ∧ x ≤ 255) : Calls Tryz.prog 224 #[.string (strOfNums l), .string ⟨#[239, 191, 189]⟩] w fun e w' => e = .returned (.bool (preB l)) ∧ w = w' := by
  have hs := strOfNums_size l
  have h1 : Hid ((((strOfNums l).extract 0 3).toList == [239, 191, 189]) = preB l) := by
    show _ = _
    rw [str_cut8, List.drop_zero, show ([239, 191, 189] : List UInt8) = (strOfNums [239, 191, 189]).toList by rw [str_list8]; rfl, str_eq8 (fun x hx => hb x (List.mem_of_mem_take hx)) (by simp)]
    rfl
  have h2 : Hid ((l.length : Int) < 3 → preB l = false) := fun h => by
    unfold preB
    simp
    intro e
    have := congrArg List.length e
    simp at this
    omega
  go_enter Tryz.func224, Tryz.ntmps224
  go_wp2
  · go_ret
    exact ⟨ret_bool h1.out, rfl⟩
  · go_ret
    exact ⟨ret_bool (h2.out ‹_›).symm, rfl⟩
theorem prefixW (l : List Int) (w : World) (hl : l.length ≤ 9223372036854775807) (hb : ∀ x ∈ l, 0 ≤ x ∧ x ≤ 255) : Calls Tryz.prog 215 #[.string (strOfNums l), .string ⟨#[239, 191, 189]⟩] w fun e w' => e = .returned (.bool (preB l)) ∧ w = w' := by
  go_enter Tryz.func215, Tryz.ntmps215
  go_wp2_with (go_at_call 224; refine (prefixS l _ hl hb).mono ?_; rintro e w' ⟨rfl, rfl⟩)
  go_ret
  exact ⟨rfl, rfl⟩
/-- One step of the counting. -/
theorem rn_step {xs : List Int} {pos f : Nat} {n : Int} (h : pos < xs.length) (hc : chr (xs.drop pos) ≠ 0) : rnF (f + 1) (xs.drop pos) n = rnF f (xs.drop (pos + chr (xs.drop pos))) (n + 1) := by
  rw [rnF, if_neg (by simp; omega), if_neg hc, List.drop_drop]
theorem rn_bad {xs : List Int} {pos f : Nat} {n : Int} (h : pos < xs.length) (hc : chr (xs.drop pos) = 0) : rnF (f + 1) (xs.drop pos) n = -1 := by
  rw [rnF, if_neg (by simp; omega), if_pos hc]
theorem rn_end {xs : List Int} {pos f : Nat} {n : Int} (h : ¬ pos < xs.length) : rnF f (xs.drop pos) n = n := by
  rw [List.drop_eq_nil_of_le (by omega), rnF_nil]
set_option maxRecDepth 1000000 in
set_option maxHeartbeats 1000000 in
theorem countM (Z : Nat → Prop) (a : Option Addr) (cap : Nat) (xs : List Int) (w : World) (h : ByE w Z (.slice a xs.length cap) xs) :
    Calls Tryz.prog 197 #[.slice a xs.length cap] w fun e w' => e = .returned (.tuple #[.int .i64 (max (rn xs) 0), .bool (decide (0 ≤ rn xs))]) ∧ ∃ pos, w' = w.iter (strOfNums xs) pos := by
  have hcv := by_conv h
  have hb := h.2.1
  have hmax : xs.length ≤ 9223372036854775807 := by have := h.2.2; omega
  have hsz := strOfNums_size xs
  clear h
  go_enter Tryz.func197, Tryz.ntmps197
  go_wp2
  go_loopw [2] (fun n w' => ∃ (pos b : Nat) (acc : Int), w' = w.iter (strOfNums xs) pos ∧ n = .int .i64 acc ∧ 0 ≤ acc ∧ acc ≤ pos ∧ pos ≤ xs.length ∧ Hid (rnF b (xs.drop pos) acc = rn xs) ∧ xs.length ≤ pos + b) (fun _ w' => xs.length - w'.iterPos w.heap.size)
  case atStart => exact ⟨0, xs.length, 0, rfl, rfl, by omega, by omega, by omega, by rw [List.drop_zero]; rfl, by omega⟩
  case round =>
    obtain ⟨pos, b, acc, rfl, rfl, ha0, hap, hpl, HR, hbb⟩ := hrel
    by_cases hp : pos < xs.length
    · have hps : pos < (strOfNums xs).size := by rw [hsz]; exact hp
      have hnx : ∀ ty, (Instr.next (.pointer (some ⟨w.heap.size, 0, none⟩)) true ty).run Tryz.prog (w.iter (strOfNums xs) pos) = _ := fun ty => run_next_any w (strOfNums xs) pos ty hps
      obtain ⟨d1, d2⟩ := dec_chr hb hp
      have HC : Hid (chr (xs.drop pos) ≤ xs.length - pos) := hid (by
        have := chr_len (l := xs.drop pos) (fun x hx => hb x (List.mem_of_mem_drop hx))
        simpa using this)
      have hcut : (strOfNums xs).extract pos xs.length = strOfNums (xs.drop pos) := by rw [str_cut8, List.take_length]
      have hdl : (xs.drop pos).length ≤ 9223372036854775807 := by simp; omega
      have hdb : ∀ x ∈ xs.drop pos, 0 ≤ x ∧ x ≤ 255 := fun x hx => hb x (List.mem_of_mem_drop hx)
      obtain ⟨b, rfl⟩ : ∃ b', b = b' + 1 := ⟨b - 1, by omega⟩
      by_cases hc : chr (xs.drop pos) = 0
      · obtain ⟨e1, e2⟩ := d1 hc
        have HM : Hid (rn xs = -1) := by show _ = _; rw [← HR.out, rn_bad hp hc]
        rw [e1] at hnx
        have hpre : preB (xs.drop pos) = false := by rw [Bool.eq_false_iff]; exact fun h => e2 ((preB_iff _).1 h)
        have Hdl := hid hdl
        have Hdb := hid hdb
        clear d1 d2 HR e1 e2 HC hdl hdb
        go_wp2_with (go_at_call 215; refine (prefixW (xs.drop pos) _ Hdl.out Hdb.out).mono ?_; rintro e w' ⟨rfl, rfl⟩)
        try rw [Exit.noGoto_ret]
        go_ret2
        exact ⟨by rw [HM.out]; rfl, _, rfl⟩
      · obtain ⟨e1, e2⟩ := d2 hc
        have HS : Hid (rnF b (xs.drop (pos + chr (xs.drop pos))) (acc + 1) = rn xs) := by show _ = _; rw [← HR.out, rn_step hp hc]
        rw [e1] at hnx
        clear d1 d2 HR e1
        by_cases hr : ((Utf8.decode (strOfNums xs) pos).1 : Int) = 65533
        · have hpre : preB (xs.drop pos) = true := (preB_iff _).2 (e2 (by omega))
          rw [hr] at hnx
          have Hdl := hid hdl
          have Hdb := hid hdb
          have Hc := hid hc
          clear e2 hr hdl hdb hc
          go_wp2_with (go_at_call 215; refine (prefixW (xs.drop pos) _ Hdl.out Hdb.out).mono ?_; rintro e w' ⟨rfl, rfl⟩)
          have := HC.out
          have := Hc.out
          exact ⟨⟨pos + chr (xs.drop pos), b, acc + 1, rfl, by go_num, by omega, by omega, by omega, HS, by omega⟩, by rw [World.iterPos_iter, World.iterPos_iter]; omega⟩
        · have hr' : (((Utf8.decode (strOfNums xs) pos).1 : Int) == 65533) = false := by simpa using hr
          have Hc := hid hc
          generalize ((Utf8.decode (strOfNums xs) pos).1 : Int) = rr at *
          clear e2 hr hdl hdb hc
          go_wp2
          have := HC.out
          have := Hc.out
          exact ⟨⟨pos + chr (xs.drop pos), b, acc + 1, rfl, by go_num, by omega, by omega, by omega, HS, by omega⟩, by rw [World.iterPos_iter, World.iterPos_iter]; omega⟩
    · have hnx : ∀ ty, (Instr.next (.pointer (some ⟨w.heap.size, 0, none⟩)) true ty).run Tryz.prog (w.iter (strOfNums xs) pos) = _ := fun ty => run_next_end w (strOfNums xs) pos ty (by rw [hsz]; exact hp)
      have HE : Hid (acc = rn xs) := by show _ = _; rw [← HR.out, rn_end hp]
      clear HR
      go_wp2
      go_ret2
      have := HE.out
      exact ⟨by subst this; simp [ha0, Int.max_eq_left ha0], _, rfl⟩
theorem validM (Z : Nat → Prop) (a : Option Addr) (cap : Nat) (xs : List Int) (w : World) (h : ByE w Z (.slice a xs.length cap) xs) :
    Calls Tryz.prog 176 #[.slice a xs.length cap] w fun e w' => e = .returned (.bool (decide (0 ≤ rn xs))) ∧ Below w.heap.size w w' := by
  have H := hid h
  clear h
  go_enter Tryz.func176, Tryz.ntmps176
  go_wp2_with (go_at_call 197; refine (countM Z a cap xs _ H.out).mono ?_; rintro e w' ⟨rfl, pos, rfl⟩)
  go_ret
  exact ⟨rfl, below_alloc _⟩
/-- A value of a kind that is no Enum's and no Message's. -/
def scalarB (k : Int) (v : CV CM) : Bool := vfit k v.n v.b.length v.ms.length && (!(k == 14) || decide (0 ≤ rn v.b))
theorem isScalarM (w : World) (Z : Nat → Prop) (d : Nat) (k : Int) (cs : List Value) (v : CV CM) (h : ValE w Z (MsgE w Z d) cs v) : Calls Tryz.prog 144 #[.int .i64 k, .agg cs.toArray] w fun e w' => e = .returned (.bool (scalarB k v)) ∧ Below w.heap.size w w' := by
  obtain ⟨ba, bc, ma, mc, rfl, g1, -, l1, l2, hu⟩ := val_open h
  have HF := hid fun W => fitsW k v.n ba ma v.b.length bc v.ms.length mc W hu.1 hu.2 (by omega) (by omega)
  have HV := hid fun W (hW : Below w.heap.size w W) => validM Z ba bc v.b W (g1.kept hW)
  have HX : Hid (scalarB k v = (vfit k v.n v.b.length v.ms.length && (!(k == 14) || decide (0 ≤ rn v.b)))) := hid rfl
  clear h g1 hu
  generalize decide (0 ≤ rn v.b) = q at *
  cases hq : vfit k v.n v.b.length v.ms.length with
  | false =>
    rw [hq] at HX HF
    go_enter Tryz.func144, Tryz.ntmps144
    go_wp2_with fail
    refine (HF.out _).mono ?_
    rintro e w1 ⟨rfl, hb1⟩
    have B1 : Blk w1 w.heap.size 26 #[.int .u64 v.n, .slice ba v.b.length bc, .slice ma v.ms.length mc] := (Blk.new _ _ _).kept hb1
    have hbz : Hid (Below w.heap.size w w1) := hid (bl_then (by exact blBy) hb1)
    clear hb1 HF
    have x1 := B1.cellF
    have z1 := B1.lt
    go_wp2
    go_ret
    exact ⟨ret_bool HX.out.symm, hbz.out⟩
  | true =>
    rw [hq, Bool.true_and] at HX
    rw [hq] at HF
    by_cases h14 : k = 14
    · subst h14
      have HX2 : Hid (scalarB 14 v = q) := hid (by rw [HX.out]; simp)
      go_enter Tryz.func144, Tryz.ntmps144
      go_wp2_with fail
      refine (HF.out _).mono ?_
      rintro e w1 ⟨rfl, hb1⟩
      have B1 : Blk w1 w.heap.size 26 #[.int .u64 v.n, .slice ba v.b.length bc, .slice ma v.ms.length mc] := (Blk.new _ _ _).kept hb1
      have hbz : Hid (Below w.heap.size w w1) := hid (bl_then (by exact blBy) hb1)
      clear hb1 HF
      have x1 := B1.cellF
      have z1 := B1.lt
      go_wp2_with (refine (HV.out _ hbz.out).mono ?_; rintro e w2 ⟨rfl, hb2⟩; have hb2' := hid hb2; clear hb2)
      go_ret
      exact ⟨ret_bool HX2.out.symm, bl_then hbz.out hb2'.out⟩
    · have kn : (k != 14) = true := by simpa using h14
      have kq : (k == 14) = false := by simpa using h14
      have HX2 : Hid (scalarB k v = true) := hid (by rw [HX.out, kq]; rfl)
      go_enter Tryz.func144, Tryz.ntmps144
      go_wp2_with fail
      refine (HF.out _).mono ?_
      rintro e w1 ⟨rfl, hb1⟩
      have B1 : Blk w1 w.heap.size 26 #[.int .u64 v.n, .slice ba v.b.length bc, .slice ma v.ms.length mc] := (Blk.new _ _ _).kept hb1
      have hbz : Hid (Below w.heap.size w w1) := hid (bl_then (by exact blBy) hb1)
      clear hb1 HF
      have x1 := B1.cellF
      have z1 := B1.lt
      go_wp2
      go_ret
      exact ⟨ret_bool HX2.out.symm, hbz.out⟩
def symN (n : Int) (s : SY) : Bool := s.num % 18446744073709551616 == n
theorem symFn (w : World) (s : SY) (p : Nat) (n : Int) (hp : Blk w p 22 #[.int .u64 n]) : Calls Tryz.prog 196 #[.agg #[.string (strOfNums s.name), .int .i64 s.num], .pointer (some ⟨p, 0, none⟩)] w fun e w' => e = .returned (.bool (symN n s)) ∧ Below w.heap.size w w' := by
  have HX : Hid ((IntKind.u64.wrap s.num == n) = symN n s) := hid (by unfold symN; rw [IntKind.wrap_u64])
  have x1 := hp.cellF
  have z1 := hp.lt
  go_enter Tryz.func196, Tryz.ntmps196
  go_wp2
  go_ret
  exact ⟨ret_bool HX.out, by exact blBy⟩
theorem cfSym (args : Array Value) (W : World) : (callFunc 196 args).run Tryz.prog W = .ok (.enter 196 args) W := cf_enter Tryz.func196 (by kernel_rfl) (by kernel_rfl) args W
theorem idxSym (w : World) (xs : List SY) (a : Option Addr) (c : Nat) (h : RowS w AnyZ 2 (.slice a xs.length c) xs.length (xs.flatMap cSY)) (p : Nat) (n : Int) (hp : Blk w p 22 #[.int .u64 n]) : Calls Tryz.prog 223 #[.slice a xs.length c, .func (.func 196) #[] #[.pointer (some ⟨p, 0, none⟩)]] w fun e w' => e = .returned (.int .i64 (fnd (symN n) xs 0)) ∧ Below w.heap.size w w' := by
  obtain ⟨_, _, e1, l1⟩ := rowS_sl h
  clear e1
  have m1 : (xs.length : Int) ≤ 9223372036854775807 := by omega
  have H1 := hid h
  have HP := hid hp
  have hcf := cfSym
  clear h hp
  go_enter Tryz.func223, Tryz.ntmps223
  go_wp2
  go_loopw [8] (fun r wr => ∃ j : Nat, r = .int .i64 j ∧ j ≤ xs.length ∧ Hid (fnd (symN n) xs 0 = fnd (symN n) (xs.drop j) j) ∧ Hid (Below w.heap.size w wr)) (fun r wr => xs.length - numAt wr r)
  case atStart => exact ⟨0, rfl, by omega, hid rfl, hid (Below.refl _ _)⟩
  case round =>
    obtain ⟨j, rfl, hj, hf, hb⟩ := hrel
    by_cases hlt : j < xs.length
    · have h2 : (j : Int) < (xs.length : Int) := by omega
      obtain ⟨b1, o1, rfl, hb1, c0, c1⟩ := rowY (H1.out.kept hb.out) hlt
      have HST := hid (fnd_at (p := symN n) hlt)
      generalize xs[j] = s at *
      go_wp2_with fail
      refine (symFn _ s p n (HP.out.kept (by have := hb.out; exact blBy))).mono ?_
      rintro e w1 ⟨rfl, hb1⟩
      have HB1 : Hid (Below w.heap.size w w1) := hid (bl_then (by have := hb.out; exact blBy) hb1)
      clear hb1
      cases hq : symN n s with
      | true =>
        go_wp2
        go_ret
        exact ⟨ret_int (by rw [hf.out, HST.out, hq]; simp), HB1.out⟩
      | false =>
        go_wp2
        exact ⟨⟨j + 1, by simp, by omega, hid (by rw [hf.out, HST.out, hq]; simp), HB1⟩, by simp [numAt]; omega⟩
    · have h2 : ¬ (j : Int) < (xs.length : Int) := by omega
      have HE : Hid (fnd (symN n) xs 0 = -1) := hid (by rw [hf.out, List.drop_of_length_le (by omega)]; rfl)
      go_wp2
      go_ret
      exact ⟨ret_int (by rw [HE.out]), hb.out⟩
theorem find_any8 {α : Type} (p : α → Bool) : ∀ l : List α, (l.find? p).isSome = l.any p
  | [] => rfl
  | x :: r => by
    rw [List.find?_cons, List.any_cons]
    cases h : p x with
    | true => rfl
    | false => exact find_any8 p r
/-- What firstOf answers. -/
def tSY (o : Option SY) : Value := match o with
  | some s => .tuple #[.agg #[.string (strOfNums s.name), .int .i64 s.num], .bool true]
  | none => .tuple #[.agg #[.string ⟨#[]⟩, .int .i64 0], .bool false]
theorem firstSy (w : World) (xs : List SY) (a : Option Addr) (c : Nat) (h : RowS w AnyZ 2 (.slice a xs.length c) xs.length (xs.flatMap cSY)) (fv : Value) (P : SY → Bool)
    (hidx : ∀ W, Below w.heap.size w W → Calls Tryz.prog 223 #[.slice a xs.length c, fv] W fun e w' => e = .returned (.int .i64 (fnd P xs 0)) ∧ Below W.heap.size W w') : Calls Tryz.prog 214 #[.slice a xs.length c, fv] w fun e w' => e = .returned (tSY (xs.find? P)) ∧ Below w.heap.size w w' := by
  obtain ⟨_, _, e1, l1⟩ := rowS_sl h
  clear e1
  have m1 : (xs.length : Int) ≤ 9223372036854775807 := by omega
  have HI := hid hidx
  rcases fnd_find P xs 0 with ⟨hq, hf⟩ | ⟨j, hj, hq, hf⟩
  · rw [fnd_ge P xs 0 hq] at HI
    rw [hf]
    clear h hidx hq hf
    go_enter Tryz.func214, Tryz.ntmps214
    go_wp2_with fail
    refine (HI.out _ (by first | exact Below.refl _ _ | exact blBy)).mono ?_
    rintro e w1 ⟨rfl, hb1⟩
    have hb : Hid (Below w.heap.size w w1) := hid (bl_then (by exact blBy) hb1)
    have Br : Blk w1 w.heap.size 75 #[.string ⟨#[]⟩, .int .i64 0] := (Blk.new _ _ _).kept hb1
    have xr := Br.cellF
    have yr := Br.frz
    have zr := Br.lt
    clear hb1
    go_wp2
    exact bodyPost_ret (v := .tuple #[.agg #[.string ⟨#[]⟩, .int .i64 0], .bool false]) (by simp [results, Tryz.results214, go_sem, xr, zr, yr]) rfl ⟨rfl, by have := hb.out; exact blBy⟩
  · rw [hq] at HI
    rw [hf]
    simp only [Nat.zero_add] at HI
    have HY := hid fun W (hW : Below w.heap.size w W) => rowY (h.kept hW) hj
    have r1 : ((j : Int) < 0) = False := eq_false (by omega)
    have r2 : (j : Int) < (xs.length : Int) := by omega
    clear h hidx hq hf
    generalize xs[j] = s at *
    go_enter Tryz.func214, Tryz.ntmps214
    go_wp2_with fail
    refine (HI.out _ (by first | exact Below.refl _ _ | exact blBy)).mono ?_
    rintro e w1 ⟨rfl, hb1⟩
    have hb : Hid (Below w.heap.size w w1) := hid (bl_then (by exact blBy) hb1)
    obtain ⟨b, o, rfl, hbl, c0, c1⟩ := HY.out _ hb.out
    have Br : Blk w1 w.heap.size 75 #[.string ⟨#[]⟩, .int .i64 0] := (Blk.new _ _ _).kept hb1
    have xr := Br.cellF
    have yr := Br.frz
    have zr := Br.lt
    clear hb1
    go_wp2
    exact bodyPost_ret (v := .tuple #[.agg #[.string (strOfNums s.name), .int .i64 s.num], .bool true]) (by simp [results, Tryz.results214, go_sem, xr, zr, yr]) rfl ⟨rfl, by have := hb.out; exact blBy⟩
theorem symT (w : World) (nm : List Int) (en : Bool) (a1 : Option Addr) (n1 c1 : Nat) (a2 : Option Addr) (n2 c2 : Nat) (a4 : Option Addr) (n4 c4 : Nat) (xs : List SY) (a : Option Addr) (c : Nat) (h : RowS w AnyZ 2 (.slice a xs.length c) xs.length (xs.flatMap cSY)) (p : Nat) (n : Int) (hp : Blk w p 22 #[.int .u64 n]) : Calls Tryz.prog 195 #[.agg #[.string (strOfNums nm), .bool en, .slice a1 n1 c1, .slice a2 n2 c2, .slice a xs.length c, .slice a4 n4 c4], .func (.func 196) #[] #[.pointer (some ⟨p, 0, none⟩)]] w fun e w' => e = .returned (tSY (xs.find? (symN n))) ∧ Below w.heap.size w w' := by
  have HI := hid fun W (hW : Below w.heap.size w W) => firstSy W xs a c (h.kept hW) (.func (.func 196) #[] #[.pointer (some ⟨p, 0, none⟩)]) (symN n) (fun W2 hW2 => idxSym W2 xs a c ((h.kept hW).kept hW2) p n ((hp.kept hW).kept hW2))
  clear h hp
  generalize xs.find? (symN n) = r at *
  go_enter Tryz.func195, Tryz.ntmps195
  go_wp2_with fail
  refine (HI.out _ (by exact blBy)).mono ?_
  rintro e w2 ⟨rfl, hb2⟩
  have hb2' : Hid (Below w.heap.size w w2) := hid (bl_then (by exact blBy) hb2)
  have Br : Blk w2 (w.heap.size + 1) 75 #[.string ⟨#[]⟩, .int .i64 0] := (Blk.newAt (by simp)).kept hb2
  have xr := Br.cellF
  have yr := Br.frz
  have zr := Br.lt
  clear hb2
  cases r with
  | none =>
    unfold tSY
    go_wp2
    exact bodyPost_ret (v := .tuple #[.agg #[.string ⟨#[]⟩, .int .i64 0], .bool false]) (by simp [results, Tryz.results195, go_sem, xr, zr, yr]) rfl ⟨rfl, by have := hb2'.out; exact blBy⟩
  | some s =>
    unfold tSY
    go_wp2
    exact bodyPost_ret (v := .tuple #[.agg #[.string (strOfNums s.name), .int .i64 s.num], .bool true]) (by simp [results, Tryz.results195, go_sem, xr, zr, yr]) rfl ⟨rfl, by have := hb2'.out; exact blBy⟩
theorem hasSymbolT (w : World) (y : TV) (hy : TyR w y) (n : Int) : Calls Tryz.prog 175 #[.agg (cTV y).toArray, .int .u64 n] w fun e w' => e = .returned (.bool (y.t.ss.any (symN n))) ∧ Below w.heap.size w w' := by
  obtain ⟨a1, c1, a2, c2, a3, c3, a4, c4, e1, e2, e3, e4⟩ := shT_of hy
  have ec : cTV y = [.string (strOfNums y.t.name), .bool y.t.enum, .slice a1 y.t.fs.length c1, .slice a2 y.t.os.length c2, .slice a3 y.t.ss.length c3, .slice a4 y.t.rs.length c4] := by unfold cTV; rw [e1, e2, e3, e4]
  have HSY := hid fun W (hW : Below w.heap.size w W) => (show RowS W AnyZ 2 (.slice a3 y.t.ss.length c3) y.t.ss.length (y.t.ss.flatMap cSY) by rw [← e3]; exact (hy.kept hW).s)
  have HX : Hid ((y.t.ss.find? (symN n)).isSome = y.t.ss.any (symN n)) := hid (by rw [find_any8])
  rw [ec]
  clear hy e1 e2 e3 e4 ec
  go_enter Tryz.func175, Tryz.ntmps175
  go_wp2_with fail
  refine (symT _ y.t.name y.t.enum a1 y.t.fs.length c1 a2 y.t.os.length c2 a4 y.t.rs.length c4 y.t.ss a3 c3 (HSY.out _ (by exact blBy)) _ n (by first | exact Blk.newAt (by simp) | exact (Blk.new _ _ _).kept (below_alloc _) | exact Blk.new _ _ _)).mono ?_
  rintro e w2 ⟨rfl, hb2⟩
  have hb2' : Hid (Below w.heap.size w w2) := hid (bl_then (by exact blBy) hb2)
  clear hb2
  cases hq : y.t.ss.find? (symN n) with
  | none =>
    rw [hq] at HX
    unfold tSY
    go_wp2
    go_ret
    exact ⟨ret_bool HX.out, by have := hb2'.out; exact blBy⟩
  | some s =>
    rw [hq] at HX
    unfold tSY
    go_wp2
    go_ret
    exact ⟨ret_bool HX.out, by have := hb2'.out; exact blBy⟩
end Go.Proofs.YtnfdlnelfnigdaaGreatDoor
