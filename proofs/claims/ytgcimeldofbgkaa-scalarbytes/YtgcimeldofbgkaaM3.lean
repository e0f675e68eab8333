/-
  Plain mathematics for words and chunks; nothing of the program.
-/
import Derived.Test.YtgcimeldofbgkaaM2
namespace Go.Proofs.Ytgcimeldofbgkaa
open Go.RowKit
set_option maxRecDepth 1000000

/-- Bytes, the lowest first, as a number. -/
def wordF : List Int → Int
  | [] => 0
  | c :: r => c + 256 * wordF r
def gw (xs : List Int) (p size : Nat) : Int × Int × Int := if xs.length < p + size then (0, 0, 3) else (wordF ((xs.drop p).take size), (p : Int) + size, 0)
def pw (size : Nat) (n : Int) : List Int := (List.range size).map fun i => n / 2 ^ (8 * i) % 256
/-- A chunk's bytes; reading one. -/
def pc (xs : List Int) : List Int := pv xs.length ++ xs
def gcF (xs : List Int) (g : Int × Int × Int) : List Int × Int × Int := if g.2.2 ≠ 0 then ([], 0, g.2.2) else if (xs.length : Int) - g.2.1 < g.1 then ([], 0, 3) else ((xs.drop g.2.1.toNat).take g.1.toNat, g.2.1 + g.1, 0)
def gc (xs : List Int) (p : Nat) : List Int × Int × Int := gcF xs (gv xs p)

theorem pow8 (k : Nat) : (2 : Int) ^ (8 * (k + 1)) = 256 * 2 ^ (8 * k) := by rw [show 8 * (k + 1) = 8 * k + 8 by omega, Int.pow_add]; omega
theorem word_snoc : ∀ (l : List Int) (c : Int), wordF (l ++ [c]) = wordF l + c * 2 ^ (8 * l.length)
  | [], c => by simp [wordF]
  | a :: l, c => by
    rw [List.cons_append, wordF, word_snoc l c, wordF, List.length_cons, pow8, Int.mul_add, Int.mul_left_comm]; omega
theorem word_bd : ∀ (l : List Int), (∀ x ∈ l, 0 ≤ x ∧ x ≤ 255) → 0 ≤ wordF l ∧ wordF l < 2 ^ (8 * l.length)
  | [], _ => by simp [wordF]
  | a :: l, h => by
    have h1 := h a (by simp)
    have h2 := word_bd l (fun x hx => h x (by simp [hx]))
    rw [wordF, List.length_cons, pow8]; omega
theorem pow_le_64 (k : Nat) (hk : k ≤ 8) : (2 : Int) ^ (8 * k) ≤ 18446744073709551616 := by
  have hn : (2 : Nat) ^ (8 * k) ≤ 2 ^ 64 := Nat.pow_le_pow_right (by decide) (by omega)
  have e : (2 : Nat) ^ 64 = 18446744073709551616 := by decide
  rw [e] at hn
  have e2 : ((2 ^ (8 * k) : Nat) : Int) = (2 : Int) ^ (8 * k) := Int.natCast_pow 2 (8 * k)
  rw [← e2]
  exact Int.ofNat_le.2 hn
theorem or_word (k : Nat) (hk : k ≤ 7) (X c : Int) (hX0 : 0 ≤ X) (hX : X < 2 ^ (8 * k)) (hc0 : 0 ≤ c) (hc : c ≤ 255) : bits .or .u64 X (IntKind.u64.wrap (c * 2 ^ (8 * k))) = X + c * 2 ^ (8 * k) := by
  have hp : (0 : Int) < 2 ^ (8 * k) := Int.pow_pos (by decide)
  have h0 : 0 ≤ c * 2 ^ (8 * k) := Int.mul_nonneg hc0 (Int.le_of_lt hp)
  have h1 := pow_le_64 (k + 1) (by omega)
  have h3 := pow_le_64 k (by omega)
  rw [pow8] at h1
  have h2 : c * 2 ^ (8 * k) ≤ 255 * 2 ^ (8 * k) := Int.mul_le_mul_of_nonneg_right hc (Int.le_of_lt hp)
  have e : (18446744073709551616 : Int) = 2 ^ 64 := by decide
  rw [wraps_u64 _ h0 (by omega)]
  exact bits_join_low .u64 64 (by decide) wraps_u64 (8 * k) X _ hX0 hX (by omega) h0 (Int.mul_emod_left _ _) (by omega)
theorem take_snoc {xs : List Int} {j : Nat} (h : j < xs.length) : xs.take (j + 1) = xs.take j ++ [xs[j]?.getD 0] := by
  rw [List.take_succ_eq_append_getElem h]; simp [h]
theorem drop_get {xs : List Int} {p k : Nat} : (xs.drop p)[k]?.getD 0 = xs[p + k]?.getD 0 := by rw [List.getElem?_drop]
theorem drop_word {l : List Int} {m : Nat} (h : m < l.length) : wordF (l.drop m) = wordF (l.drop (m + 1)) * 256 + l[m]?.getD 0 := by
  rw [drop_at h, wordF]; omega
theorem take_get {xs : List Int} {p size m : Nat} (h : m < size) : ((xs.drop p).take size)[m]?.getD 0 = xs[p + m]?.getD 0 := by
  rw [List.getElem?_take, if_pos h, List.getElem?_drop]
theorem drop_lt {l : List Int} (h : ∀ x ∈ l, 0 ≤ x ∧ x ≤ 255) (h8 : l.length ≤ 8) (m : Nat) : 0 ≤ wordF (l.drop (m + 1)) ∧ wordF (l.drop (m + 1)) < 72057594037927936 := by
  have hb := word_bd (l.drop (m + 1)) (fun x hx => h x (List.mem_of_mem_drop hx))
  have hn : (2 : Nat) ^ (8 * (l.drop (m + 1)).length) ≤ 2 ^ 56 := Nat.pow_le_pow_right (by decide) (by simp; omega)
  have e : (2 : Nat) ^ 56 = 72057594037927936 := by decide
  rw [e] at hn
  have e2 : ((2 ^ (8 * (l.drop (m + 1)).length) : Nat) : Int) = (2 : Int) ^ (8 * (l.drop (m + 1)).length) := Int.natCast_pow 2 _
  rw [← e2] at hb
  have := Int.ofNat_le.2 hn
  exact ⟨hb.1, Int.lt_of_lt_of_le hb.2 this⟩
theorem pw_succ (s : Nat) (n : Int) : pw (s + 1) n = pw s n ++ [n / 2 ^ (8 * s) % 256] := by simp [pw, List.range_succ]
theorem pw_length (s : Nat) (n : Int) : (pw s n).length = s := by simp [pw]
theorem pw_bd (s : Nat) (n : Int) : ∀ x ∈ pw s n, 0 ≤ x ∧ x ≤ 255 := by
  intro x hx
  simp [pw] at hx
  obtain ⟨i, _, rfl⟩ := hx
  omega
theorem pw_cut (n : Int) : pw 4 (n % 4294967296) = pw 4 n := by
  simp [pw, List.range_succ]
  omega

theorem gvF_next : ∀ (l : List Int) (k : Nat) (X p : Int), (gvF l k X p).2.2 = 0 → p + k + 1 ≤ (gvF l k X p).2.1 ∧ (gvF l k X p).2.1 ≤ p + k + l.length
  | [], _, _, _, h => by simp [gvF] at h
  | c :: r, k, X, p, h => by
    unfold gvF at h ⊢
    by_cases h9 : k = 9 ∧ 1 < c
    · rw [if_pos h9] at h; simp at h
    · rw [if_neg h9] at h ⊢
      by_cases hc1 : c < 128
      · rw [if_pos hc1]; simp; omega
      · rw [if_neg hc1] at h ⊢
        have := gvF_next r (k + 1) _ p h
        rw [List.length_cons]
        omega
theorem gv_next {xs : List Int} {p : Nat} (hp : p ≤ xs.length) (h : (gv xs p).2.2 = 0) : (p : Int) + 1 ≤ (gv xs p).2.1 ∧ (gv xs p).2.1 ≤ xs.length := by
  have := gvF_next _ _ _ _ h
  unfold gv
  simp at this
  omega
theorem gcF_err {xs : List Int} {g : Int × Int × Int} (h : (g.2.2 != 0) = true) : gcF xs g = ([], 0, g.2.2) := by unfold gcF; rw [if_pos (by simpa using h)]
theorem gcF_far {xs : List Int} {g : Int × Int × Int} (h : (g.2.2 != 0) = false) (h2 : (xs.length : Int) - g.2.1 < g.1) : gcF xs g = ([], 0, 3) := by unfold gcF; rw [if_neg (by simpa using h), if_pos h2]
theorem gcF_ok {xs : List Int} {g : Int × Int × Int} (h : (g.2.2 != 0) = false) (h2 : ¬ (xs.length : Int) - g.2.1 < g.1) : gcF xs g = ((xs.drop g.2.1.toNat).take g.1.toNat, g.2.1 + g.1, 0) := by unfold gcF; rw [if_neg (by simpa using h), if_neg h2]
end Go.Proofs.Ytgcimeldofbgkaa
