/-
  Plain mathematics for the layer wire: the digits of a varint, reading them, zigzag; nothing of the program.
-/
import Derived.Lib.VarintBits
import Derived.Lib.Zigzag
import Derived.RowKit
import Derived.Laws.BytesArg
import Derived.Test.YtgcimeldofbgkaaG
namespace Go.Proofs.Ytgcimeldofbgkaa
open Go.RowKit

/-- The digits of a number, at most f + 1 of them. -/
def pvF : Nat → Int → List Int
  | 0, n => [n]
  | f + 1, n => if n < 128 then [n] else (n % 128 + 128) :: pvF f (n / 128)
def pv (n : Int) : List Int := pvF 9 n

/-- Reading: what is left, which byte it is, what is read so far, the place. -/
def gvF : List Int → Nat → Int → Int → Int × Int × Int
  | [], _, _, _ => (0, 0, 3)
  | c :: r, k, X, at0 => if k = 9 ∧ 1 < c then (0, 0, 4) else if c < 128 then (X + c * 2 ^ (7 * k), at0 + k + 1, 0) else gvF r (k + 1) (X + (c - 128) * 2 ^ (7 * k)) at0
def gv (xs : List Int) (at0 : Nat) : Int × Int × Int := gvF (xs.drop at0) 0 0 at0

def zigF (n : Int) : Int := if 0 ≤ n then 2 * n else -2 * n - 1
def zagF (u : Int) : Int := if u % 2 = 0 then u / 2 else -(u / 2) - 1

theorem pvF_small (f : Nat) {n : Int} (h : n < 128) : pvF f n = [n] := by cases f <;> simp [pvF, h]
theorem pvF_big (f : Nat) {n : Int} (h : ¬ n < 128) : pvF (f + 1) n = (n % 128 + 128) :: pvF f (n / 128) := by simp [pvF, h]
theorem div_lt (f : Nat) {n : Int} (h : n < 128 ^ (f + 1)) : n / 128 < 128 ^ f := Int.ediv_lt_of_lt_mul (by decide) (by rwa [← Int.pow_succ])
theorem lt_ten {n : Int} (h : n < 18446744073709551616) : n < 128 ^ (9 + 1) := by
  have e : (128 : Int) ^ (9 + 1) = 1180591620717411303424 := by decide
  rw [e]; omega
theorem pvF_bd : ∀ (f : Nat) (n : Int), 0 ≤ n → n < 128 ^ (f + 1) → ∀ x ∈ pvF f n, 0 ≤ x ∧ x ≤ 255
  | 0, n, h0, h1, x, hx => by simp [pvF] at hx; subst hx; simp at h1; omega
  | f + 1, n, h0, h1, x, hx => by
    by_cases h : n < 128
    · rw [pvF_small _ h] at hx; simp at hx; subst hx; omega
    · rw [pvF_big _ h] at hx
      rcases List.mem_cons.1 hx with rfl | hx
      · omega
      · exact pvF_bd f _ (by omega) (div_lt _ h1) x hx
theorem pvF_len : ∀ (f : Nat) (n : Int), 1 ≤ (pvF f n).length ∧ (pvF f n).length ≤ f + 1
  | 0, n => by simp [pvF]
  | f + 1, n => by
    by_cases h : n < 128
    · rw [pvF_small _ h]; simp
    · rw [pvF_big _ h]; have := pvF_len f (n / 128); simp; omega
theorem pv_bd {n : Int} (h0 : 0 ≤ n) (h1 : n < 18446744073709551616) : ∀ x ∈ pv n, 0 ≤ x ∧ x ≤ 255 := pvF_bd 9 n h0 (lt_ten h1)
theorem pv_len (n : Int) : 1 ≤ (pv n).length ∧ (pv n).length ≤ 10 := pvF_len 9 n

/-- How many bytes are still to be counted. -/
def cntF (f : Nat) (N : Int) : Int := if N = 0 then 0 else ((pvF f N).length : Int)
theorem cnt_start (n : Int) (h0 : 0 ≤ n) : 1 + cntF 8 (n / 128) = ((pv n).length : Int) := by
  unfold cntF pv
  by_cases h : n < 128
  · rw [pvF_small 9 h, if_pos (by omega)]; rfl
  · rw [pvF_big 8 h, if_neg (by omega)]; simp; omega
theorem cnt_step (f : Nat) (N : Int) (h0 : 0 < N) (h1 : N < 128 ^ (f + 1)) : ∃ g, N / 128 < 128 ^ (g + 1) ∧ 1 + cntF g (N / 128) = cntF f N := by
  unfold cntF
  rw [if_neg (show ¬ N = 0 by omega)]
  by_cases h : N < 128
  · refine ⟨0, by simp; omega, ?_⟩
    rw [pvF_small f h, if_pos (by omega)]
    rfl
  · cases f with
    | zero => simp at h1; omega
    | succ g => exact ⟨g, div_lt _ h1, by rw [pvF_big g h, if_neg (by omega)]; simp; omega⟩
theorem cnt_zero (f : Nat) : cntF f 0 = 0 := by simp [cntF]
theorem cnt_nonneg (f : Nat) (N : Int) : 0 ≤ cntF f N := by unfold cntF; split <;> omega

theorem and127 (n : Int) (h₀ : 0 ≤ n) (h₁ : n < 18446744073709551616) : bits .and .u64 n 127 = n % 128 := bits_mask .u64 64 (by decide) wraps_u64 7 (by decide) n h₀ (by omega)
theorem or128 (n : Int) (h₀ : 0 ≤ n) (h₁ : n < 128) : bits .or .u64 n 128 = n + 128 := u64_orv7 n 128 h₀ h₁ (by decide) (by decide) (by decide)
theorem digit (n : Int) (h₀ : 0 ≤ n) (h₁ : n < 18446744073709551616) : bits .or .u64 (bits .and .u64 n 127) 128 = n % 128 + 128 := by
  rw [and127 n h₀ h₁, or128 _ (by omega) (by omega)]

theorem xor_max (x : Int) (h0 : 0 ≤ x) (h1 : x < 18446744073709551616) : bits .xor .u64 IntKind.u64.max x = 18446744073709551615 - x := by
  obtain ⟨n, rfl⟩ := Int.eq_ofNat_of_zero_le h0
  have e2 : IntKind.u64.max = ((2 ^ 64 - 1 : Nat) : Int) := by decide
  rw [e2, bits_xor_u64_nat _ _ (by decide) (by omega), Lib.xor_ones64 _ (by omega)]
  omega
theorem zig_neg (n : Int) (h0 : -9223372036854775808 ≤ n) (h1 : n < 0) : bits .xor .u64 IntKind.u64.max (IntKind.u64.wrap (IntKind.u64.wrap n * 2)) = zigF n := by
  rw [xor_max _ (by rw [IntKind.wrap_u64]; omega) (by rw [IntKind.wrap_u64]; omega), IntKind.wrap_u64, IntKind.wrap_u64, zigF, if_neg (by omega)]; omega
theorem zag_odd (u : Int) (h0 : 0 ≤ u) (h1 : u < 18446744073709551616) (h2 : u % 2 = 1) : wrap64 (bits .xor .u64 IntKind.u64.max (u / 2)) = zagF u := by
  rw [xor_max _ (by omega) (by omega), zagF, if_neg (by omega)]; unfold wrap64; omega

/-- One byte more, by 'or'. -/
theorem or_step (k : Nat) (hk : k ≤ 9) (X c : Int) (hX0 : 0 ≤ X) (hX : X < 2 ^ (7 * k)) (hc0 : 0 ≤ c) (hc : c < 128) (h9 : k = 9 → c ≤ 1) :
    c * 2 ^ (7 * k) < 18446744073709551616 ∧ 0 ≤ c * 2 ^ (7 * k) ∧ bits .or .u64 X (c * 2 ^ (7 * k)) = X + c * 2 ^ (7 * k) := by
  have e : (18446744073709551616 : Int) = 2 ^ 64 := by decide
  have hlt : c * 2 ^ (7 * k) < 18446744073709551616 := by
    match k, hk with
    | 0, _ => simp; omega
    | 1, _ => simp; omega
    | 2, _ => simp; omega
    | 3, _ => simp; omega
    | 4, _ => simp; omega
    | 5, _ => simp; omega
    | 6, _ => simp; omega
    | 7, _ => simp; omega
    | 8, _ => simp; omega
    | 9, _ => have := h9 rfl; simp; omega
  have hp : (0 : Int) < 2 ^ (7 * k) := Int.pow_pos (by decide)
  have h0 : 0 ≤ c * 2 ^ (7 * k) := Int.mul_nonneg hc0 (Int.le_of_lt hp)
  refine ⟨hlt, h0, bits_join_low .u64 64 (by decide) wraps_u64 (7 * k) X _ hX0 hX ?_ h0 (Int.mul_emod_left _ _) (e ▸ hlt)⟩
  have hn : (2 : Nat) ^ (7 * k) ≤ 2 ^ 64 := Nat.pow_le_pow_right (by decide) (by omega)
  exact Int.lt_of_lt_of_le hX (by exact_mod_cast hn)
theorem step_lt (k : Nat) (X c : Int) (hX : X < 2 ^ (7 * k)) (hc : c < 128) : X + c * 2 ^ (7 * k) < 2 ^ (7 * (k + 1)) := by
  have e : (2 : Int) ^ (7 * (k + 1)) = 128 * 2 ^ (7 * k) := by rw [show 7 * (k + 1) = 7 * k + 7 by omega, Int.pow_add]; omega
  have hp : (0 : Int) < 2 ^ (7 * k) := Int.pow_pos (by decide)
  have : c * 2 ^ (7 * k) ≤ 127 * 2 ^ (7 * k) := Int.mul_le_mul_of_nonneg_right (by omega) (Int.le_of_lt hp)
  rw [e]; omega

theorem and127b (c : Int) (h₀ : 0 ≤ c) (h₁ : c ≤ 255) : bits .and .u8 c 127 = c % 128 := u8_and127 c h₀ (by omega)
theorem step_val (k : Nat) (hk : k ≤ 9) (X c : Int) (hX0 : 0 ≤ X) (hX : X < 2 ^ (7 * k)) (hc0 : 0 ≤ c) (hc : c ≤ 255) (h9 : k = 9 → c ≤ 1) :
    bits .or .u64 X (IntKind.u64.wrap (IntKind.u64.wrap (bits .and .u8 c 127) * 2 ^ (7 * k))) = X + c % 128 * 2 ^ (7 * k) := by
  obtain ⟨h1, h2, h3⟩ := or_step k hk X (c % 128) hX0 hX (by omega) (by omega) (fun h => by have := h9 h; omega)
  rw [and127b c hc0 hc, wraps_u64 (c % 128) (by omega) (by omega), wraps_u64 _ h2 (by omega), h3]
theorem step_ref (k : Nat) (hk : k ≤ 9) (X c : Int) (hX0 : 0 ≤ X) (hX : X < 2 ^ (7 * k)) (hc0 : 0 ≤ c) (hc : c ≤ 255) (h9 : k = 9 → c ≤ 1) :
    bits .or .u64 X (IntKind.u64.wrap (c % 128 * 2 ^ (7 * k))) = X + c % 128 * 2 ^ (7 * k) := by
  obtain ⟨h1, h2, h3⟩ := or_step k hk X (c % 128) hX0 hX (by omega) (by omega) (fun h => by have := h9 h; omega)
  rw [wraps_u64 _ h2 (by omega), h3]
section
variable {xs : List Int} {p k : Nat} {X : Int}
theorem g_bad (h : p + k < xs.length) (h9 : (k : Int) = 9) (hc : 1 < xs[p + k]?.getD 0) : gvF (xs.drop (p + k)) k X p = (0, 0, 4) := by
  have : k = 9 := by omega
  rw [drop_at h]; simp [gvF, this] at hc ⊢; intro h; omega
theorem g_last (h : p + k < xs.length) (h9 : (k : Int) = 9 → xs[p + k]?.getD 0 ≤ 1) (hc0 : 0 ≤ xs[p + k]?.getD 0) (hc : xs[p + k]?.getD 0 < 128) : gvF (xs.drop (p + k)) k X p = (X + xs[p + k]?.getD 0 % 128 * 2 ^ (7 * k), (p : Int) + k + 1, 0) := by
  rw [drop_at h, gvF, if_neg (by intro ⟨a, b⟩; have := h9 (by omega); omega), if_pos hc, Int.emod_eq_of_lt hc0 hc]
theorem g_more (h : p + k < xs.length) (h9 : ¬ (k : Int) = 9) (hc : 128 ≤ xs[p + k]?.getD 0) (hc1 : xs[p + k]?.getD 0 ≤ 255) : gvF (xs.drop (p + k)) k X p = gvF (xs.drop (p + (k + 1))) (k + 1) (X + xs[p + k]?.getD 0 % 128 * 2 ^ (7 * k)) p := by
  rw [drop_at h, gvF, if_neg (by intro ⟨a, b⟩; omega), if_neg (by omega), show xs[p + k]?.getD 0 % 128 = xs[p + k]?.getD 0 - 128 by omega]; rfl
theorem g_end (h : xs.length ≤ p + k) : gvF (xs.drop (p + k)) k X p = (0, 0, 3) := by
  rw [List.drop_eq_nil_of_le h]; rfl
end
theorem gv_end (xs : List Int) (p : Nat) (h : xs.length ≤ p) : gv xs p = (0, 0, 3) := by
  unfold gv; rw [List.drop_eq_nil_of_le h]; rfl

end Go.Proofs.Ytgcimeldofbgkaa
