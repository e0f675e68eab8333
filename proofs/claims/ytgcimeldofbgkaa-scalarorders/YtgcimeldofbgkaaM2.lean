/-
  Plain mathematics for tags; nothing of the program.
-/
import Derived.Test.YtgcimeldofbgkaaM
namespace Go.Proofs.Ytgcimeldofbgkaa
open Go.RowKit
set_option maxRecDepth 1000000

/-- The wire kinds. -/
def okK (k : Int) : Bool := decide (k = 0 ∨ k = 1 ∨ k = 2 ∨ k = 5)
/-- The fault of a tag. -/
def tf (n k : Int) : Int := if n < 1 ∨ 536870911 < n then 5 else if okK k = true then 0 else 6
/-- Reading a tag: number, kind, place behind it, fault. -/
def gtF (g : Int × Int × Int) : Int × Int × Int × Int := if g.2.2 ≠ 0 then (0, 0, 0, g.2.2) else if tf (g.1 / 8) (g.1 % 8) ≠ 0 then (0, 0, 0, tf (g.1 / 8) (g.1 % 8)) else (g.1 / 8, g.1 % 8, g.2.1, 0)
def gt (xs : List Int) (p : Nat) : Int × Int × Int × Int := gtF (gv xs p)

theorem okK_bd {k : Int} (h : okK k = true) : 0 ≤ k ∧ k ≤ 5 := by simp [okK] at h; omega
theorem tf_ok {n k : Int} (h : tf n k = 0) : 1 ≤ n ∧ n ≤ 536870911 ∧ okK k = true := by
  unfold tf at h
  split at h
  · cases h
  · split at h
    · exact ⟨by omega, by omega, by assumption⟩
    · cases h
theorem tag_or (n k : Int) (h0 : 0 ≤ n) (h1 : n ≤ 536870911) (k0 : 0 ≤ k) (k1 : k ≤ 7) : bits .or .u64 (n * 8) k = n * 8 + k :=
  bits_join .u64 64 (by decide) wraps_u64 3 (n * 8) k (by omega) (by omega) (by omega) k0 (by omega) (by omega)
theorem and7 (n : Int) (h₀ : 0 ≤ n) (h₁ : n < 18446744073709551616) : bits .and .u64 n 7 = n % 8 := bits_mask .u64 64 (by decide) wraps_u64 3 (by decide) n h₀ (by omega)

theorem gvF_bd : ∀ (l : List Int) (k : Nat) (X : Int) (p : Int), (∀ x ∈ l, 0 ≤ x ∧ x ≤ 255) → k ≤ 9 → 0 ≤ X → X < 2 ^ (7 * k) → 0 ≤ (gvF l k X p).1 ∧ (gvF l k X p).1 < 18446744073709551616
  | [], _, _, _, _, _, _, _ => by simp [gvF]
  | c :: r, k, X, p, hb, hk, h0, h1 => by
    have hc := hb c (by simp)
    unfold gvF
    by_cases h9 : k = 9 ∧ 1 < c
    · rw [if_pos h9]; simp
    · rw [if_neg h9]
      by_cases hc1 : c < 128
      · rw [if_pos hc1]
        obtain ⟨a1, a2, a3⟩ := or_step k hk X c h0 h1 hc.1 hc1 (fun h => by omega)
        refine ⟨by simp only []; omega, ?_⟩
        simp only []
        by_cases hk9 : k = 9
        · subst hk9
          have e2 : (2 : Int) ^ (7 * 9) = 9223372036854775808 := by decide
          rw [e2] at h1 ⊢
          omega
        · have hs := step_lt k X c h1 hc1
          have hn : (2 : Nat) ^ (7 * (k + 1)) ≤ 2 ^ 63 := Nat.pow_le_pow_right (by decide) (by omega)
          have hn' : (2 : Int) ^ (7 * (k + 1)) ≤ 2 ^ 63 := by exact_mod_cast hn
          have e3 : (2 : Int) ^ 63 = 9223372036854775808 := by decide
          omega
      · rw [if_neg hc1]
        have hp2 : (0 : Int) < 2 ^ (7 * k) := Int.pow_pos (by decide)
        have hm0 : 0 ≤ (c - 128) * 2 ^ (7 * k) := Int.mul_nonneg (by omega) (Int.le_of_lt hp2)
        exact gvF_bd r (k + 1) _ p (fun x hx => hb x (by simp [hx])) (by omega) (by omega) (step_lt k X _ h1 (by omega))
theorem gv_bd {xs : List Int} (h : ∀ x ∈ xs, 0 ≤ x ∧ x ≤ 255) (p : Nat) : 0 ≤ (gv xs p).1 ∧ (gv xs p).1 < 18446744073709551616 :=
  gvF_bd _ 0 0 _ (fun x hx => h x (List.mem_of_mem_drop hx)) (by omega) (by omega) (by simp)
theorem gtF_err {g : Int × Int × Int} (h : (g.2.2 != 0) = true) : gtF g = (0, 0, 0, g.2.2) := by unfold gtF; rw [if_pos (by simpa using h)]
theorem gtF_tf {g : Int × Int × Int} (h : (g.2.2 != 0) = false) (h2 : tf (g.1 / 8) (g.1 % 8) ≠ 0) : gtF g = (0, 0, 0, tf (g.1 / 8) (g.1 % 8)) := by unfold gtF; rw [if_neg (by simpa using h), if_pos h2]
theorem gtF_ok {g : Int × Int × Int} (h : (g.2.2 != 0) = false) (h2 : tf (g.1 / 8) (g.1 % 8) = 0) : gtF g = (g.1 / 8, g.1 % 8, g.2.1, 0) := by unfold gtF; rw [if_neg (by simpa using h), if_neg (by simp [h2])]
theorem tf_big {n k : Int} (h : 536870911 < n) : tf n k = 5 := by simp [tf, h]
theorem tf_zero {k : Int} : tf 0 k = 5 := by simp [tf]
theorem tf_kind {n k : Int} (h1 : 1 ≤ n) (h2 : n ≤ 536870911) (hk : okK k = false) : tf n k = 6 := by unfold tf; rw [if_neg (by omega), if_neg (by simp [hk])]
theorem tf_fine {n k : Int} (h1 : 1 ≤ n) (h2 : n ≤ 536870911) (hk : okK k = true) : tf n k = 0 := by unfold tf; rw [if_neg (by omega), if_pos hk]
end Go.Proofs.Ytgcimeldofbgkaa
