/-
  Compare: the document's walk.
-/
import Derived.Test.YtgcimeldofbgkaaSQ
namespace Go.Proofs.Ytgcimeldofbgkaa
open Go.RowKit
set_option maxRecDepth 1000000
set_option maxHeartbeats 4000000

/-- The highest bit turned. -/
def flip (n : Int) : Int := if n < 9223372036854775808 then n + 9223372036854775808 else n - 9223372036854775808
theorem flip_xor (n : Int) (h0 : 0 ≤ n) (h1 : n < 18446744073709551616) : bits .xor .u64 n 9223372036854775808 = flip n := by
  obtain ⟨m, rfl⟩ := Int.eq_ofNat_of_zero_le h0
  have hm : m < 18446744073709551616 := by omega
  rw [show (9223372036854775808 : Int) = ((9223372036854775808 : Nat) : Int) from rfl, bits_xor_u64_nat _ _ (by omega) (by decide)]
  have hd : (m ^^^ 9223372036854775808) / 2 ^ 63 = (m / 2 ^ 63) ^^^ (9223372036854775808 / 2 ^ 63) := Nat.xor_div_two_pow
  have hr : (m ^^^ 9223372036854775808) % 2 ^ 63 = (m % 2 ^ 63) ^^^ (9223372036854775808 % 2 ^ 63) := Nat.xor_mod_two_pow
  have e1 : 9223372036854775808 / 2 ^ 63 = 1 := by decide
  have e2 : 9223372036854775808 % 2 ^ 63 = 0 := by decide
  rw [e1] at hd
  rw [e2, Nat.xor_zero] at hr
  have hb : m / 2 ^ 63 = 0 ∨ m / 2 ^ 63 = 1 := by omega
  unfold flip
  rcases hb with hb | hb
  · rw [hb] at hd
    rw [show (0 ^^^ 1 : Nat) = 1 from rfl] at hd
    rw [if_pos (by omega)]
    omega
  · rw [hb] at hd
    rw [show (1 ^^^ 1 : Nat) = 0 from rfl] at hd
    rw [if_neg (by omega)]
    omega
theorem flip_cmp {a b : Int} (ha : 0 ≤ a ∧ a < 18446744073709551616) (hb : 0 ≤ b ∧ b < 18446744073709551616) : cmpI (flip a) (flip b) = cmpI (sgn a) (sgn b) := by
  unfold cmpI flip sgn
  (repeat' split) <;> omega
section
variable (k n1 n2 : Int) (a1 a2 p1 p2 : Option Addr) (l1 c1 l2 c2 m1 m2 q1 q2 : Nat) (xs ys : List Int) (w : World)
theorem refCmp14 (hr1 : Reads w a1 l1 c1 xs) (hr2 : Reads w a2 l2 c2 ys) :
    Calls Try.prog 26 #[.int .i64 14, .agg #[.int .u64 n1, .slice a1 l1 c1, .slice p1 m1 q1], .agg #[.int .u64 n2, .slice a2 l2 c2, .slice p2 m2 q2]] w fun e w' => e = .returned (.int .i64 (cmpX xs ys)) ∧ Below w.heap.size w w' := by
  have e1 := conv (w := (w.alloc (.cells #[.int .u64 n1, .slice a1 l1 c1, .slice p1 m1 q1] 26)).alloc (.cells #[.int .u64 n2, .slice a2 l2 c2, .slice p2 m2 q2] 26)) (reads_kept hr1 (below_two _ _))
  have e2 := conv (w := (w.alloc (.cells #[.int .u64 n1, .slice a1 l1 c1, .slice p1 m1 q1] 26)).alloc (.cells #[.int .u64 n2, .slice a2 l2 c2, .slice p2 m2 q2] 26)) (reads_kept hr2 (below_two _ _))
  have hl := less_str (bd_mem hr1.bd) (bd_mem hr2.bd)
  have he := str_eq (bd_mem hr1.bd) (bd_mem hr2.bd)
  clear hr1 hr2
  rcases cmpX_val xs ys with hc | hc | hc
  · rw [hc] at hl ⊢
    have hl2 : Op.bytesLess (strOfNums xs).toList (strOfNums ys).toList = true := by rw [hl]; rfl
    clear hl he hc
    go_enter Try.func26, Try.ntmps26
    go_wp2
    go_ret
    exact ⟨rfl, below_two _ _⟩
  · rw [hc] at hl ⊢
    have hl2 : Op.bytesLess (strOfNums xs).toList (strOfNums ys).toList = false := by rw [hl]; rfl
    have he2 : ((strOfNums xs).toList == (strOfNums ys).toList) = true := by rw [he]; simpa using (cmpX_eq xs ys).1 hc
    clear hl he hc
    go_enter Try.func26, Try.ntmps26
    go_wp2
    go_ret
    exact ⟨rfl, below_two _ _⟩
  · have hne : xs ≠ ys := fun e => by rw [(cmpX_eq xs ys).2 e] at hc; cases hc
    rw [hc] at hl ⊢
    have hl2 : Op.bytesLess (strOfNums xs).toList (strOfNums ys).toList = false := by rw [hl]; rfl
    have he2 : ((strOfNums xs).toList == (strOfNums ys).toList) = false := by rw [he]; simpa using hne
    clear hl he hc hne
    go_enter Try.func26, Try.ntmps26
    go_wp2
    go_ret
    exact ⟨rfl, below_two _ _⟩
theorem refCmpN (h14 : (k == 14) = false) (x y : Int) (b : Bool) (hb : (kneg k || decide (k = 16)) = b) (hx : b = false → x = n1 ∧ y = n2) (hf : b = true → bits .xor .u64 n1 9223372036854775808 = x ∧ bits .xor .u64 n2 9223372036854775808 = y) :
    Calls Try.prog 26 #[.int .i64 k, .agg #[.int .u64 n1, .slice a1 l1 c1, .slice p1 m1 q1], .agg #[.int .u64 n2, .slice a2 l2 c2, .slice p2 m2 q2]] w fun e w' => e = .returned (.int .i64 (cmpI x y)) ∧ Below w.heap.size w w' := by
  have HS := hid (fun W => signedR k W)
  rw [hb] at HS
  clear hb
  have hc : (cmpI x y = -1 ∧ x < y) ∨ (cmpI x y = 1 ∧ ¬ x < y ∧ y < x) ∨ (cmpI x y = 0 ∧ ¬ x < y ∧ ¬ y < x) := by unfold cmpI; by_cases h : x < y <;> by_cases h2 : y < x <;> simp [h, h2]
  cases b with
  | false =>
    obtain ⟨rfl, rfl⟩ := hx rfl
    clear hx hf
    rcases hc with ⟨hc, h1⟩ | ⟨hc, h1, h2⟩ | ⟨hc, h1, h2⟩
    all_goals
      rw [hc]
      clear hc
      go_enter Try.func26, Try.ntmps26
      go_wp2_with (go_at_call 53; refine (HS.out _).mono ?_; rintro e w' ⟨rfl, rfl⟩)
      go_ret
      exact ⟨rfl, below_two _ _⟩
  | true =>
    obtain ⟨hfx, hfy⟩ := hf rfl
    clear hx hf
    rcases hc with ⟨hc, h1⟩ | ⟨hc, h1, h2⟩ | ⟨hc, h1, h2⟩
    all_goals
      rw [hc]
      clear hc
      go_enter Try.func26, Try.ntmps26
      go_wp2_with (go_at_call 53; refine (HS.out _).mono ?_; rintro e w' ⟨rfl, rfl⟩)
      go_ret
      exact ⟨rfl, below_two _ _⟩
theorem compareR (hk : kkey k = true) (h10 : 0 ≤ n1) (h11 : n1 < 18446744073709551616) (h20 : 0 ≤ n2) (h21 : n2 < 18446744073709551616) (hr1 : Reads w a1 l1 c1 xs) (hr2 : Reads w a2 l2 c2 ys) :
    Calls Try.prog 26 #[.int .i64 k, .agg #[.int .u64 n1, .slice a1 l1 c1, .slice p1 m1 q1], .agg #[.int .u64 n2, .slice a2 l2 c2, .slice p2 m2 q2]] w fun e w' => e = .returned (.int .i64 (cmpV k n1 n2 xs ys)) ∧ Below w.heap.size w w' := by
  unfold cmpV
  by_cases h14 : k = 14
  · subst h14
    rw [if_pos rfl]
    exact refCmp14 n1 n2 a1 a2 p1 p2 l1 c1 l2 c2 m1 m2 q1 q2 xs ys w hr1 hr2
  · rw [if_neg h14]
    have h16 : decide (k = 16) = false := by unfold kkey at hk; simp at hk; simp; omega
    cases hn : kneg k with
    | true =>
      rw [if_pos rfl, ← flip_cmp ⟨h10, h11⟩ ⟨h20, h21⟩]
      exact refCmpN k n1 n2 a1 a2 p1 p2 l1 c1 l2 c2 m1 m2 q1 q2 w (by simpa using h14) _ _ true (by rw [hn]; rfl) (fun h => by cases h) (fun _ => ⟨flip_xor n1 h10 h11, flip_xor n2 h20 h21⟩)
    | false =>
      rw [if_neg (by simp)]
      exact refCmpN k n1 n2 a1 a2 p1 p2 l1 c1 l2 c2 m1 m2 q1 q2 w (by simpa using h14) _ _ false (by rw [hn, h16]; rfl) (fun _ => ⟨rfl, rfl⟩) (fun h => by cases h)
end
end Go.Proofs.Ytgcimeldofbgkaa
