/-
  Plain mathematics for places: they rise; the words of a text stand one behind the other.
-/
import Derived.Test.YtlkdcdmdkncjoaaDoorYE
namespace Go.Proofs.YtlkdcdmdkncjoaaDoor
open Go.RowKit
set_option maxRecDepth 1000000
set_option linter.unusedVariables false

theorem place_up (xs : List Int) (a : Nat) : ∀ d : Nat, lnA xs a < lnA xs (a + d) ∨ (lnA xs (a + d) = lnA xs a ∧ clA xs (a + d) = clA xs a + d)
  | 0 => .inr ⟨rfl, by simp⟩
  | d + 1 => by
    have e : a + (d + 1) = (a + d) + 1 := by omega
    rcases place_up xs a d with h | ⟨h1, h2⟩
    · left
      rw [e, lnA]
      split <;> omega
    · by_cases hn : bt xs (a + d) = 10
      · left
        rw [e, lnA_nl hn]
        omega
      · right
        rw [e, lnA_on hn, clA_on hn]
        omega
theorem place_lt {xs : List Int} {a b : Nat} (h : a < b) : ¬ (lnA xs a = lnA xs b ∧ clA xs a = clA xs b) := by
  rintro ⟨h1, h2⟩
  have := place_up xs a (b - a)
  rw [show a + (b - a) = b by omega] at this
  omega
/-- A token's kind, a fault's code. -/
def Tk.fine : Tk → Prop
  | .skip _ => True
  | .word k _ _ _ => 1 ≤ k ∧ k ≤ 4
  | .bad c => c ≠ 0
theorem tok_fine (xs : List Int) (i : Nat) : (tok xs i).fine := by
  unfold tok tokC tokN tokQ
  repeat' split
  all_goals simp [Tk.fine]
/-- Words one behind the other, the end's last. -/
def Ch (xs : List Int) : Nat → List Wd → Prop
  | _, [] => False
  | i, x :: r => (x = ⟨5, xs.length, xs.length, 0, []⟩ ∧ r = [] ∧ i ≤ xs.length) ∨ (i ≤ x.st ∧ x.st < x.en ∧ x.en ≤ xs.length ∧ 1 ≤ x.kind ∧ x.kind ≤ 4 ∧ tok xs x.st = .word x.kind x.en x.n x.b ∧ Ch xs x.en r)
theorem ch_le {xs : List Int} {i : Nat} {l : List Wd} (h : Ch xs i l) : i ≤ xs.length := by
  cases l with
  | nil => exact h.elim
  | cons x r => rcases h with ⟨_, _, h⟩ | ⟨h1, h2, h3, _⟩ <;> omega
theorem ch_less {xs : List Int} {i j : Nat} {l : List Wd} (h : Ch xs i l) (hj : j ≤ i) : Ch xs j l := by
  cases l with
  | nil => exact h.elim
  | cons x r =>
    rcases h with ⟨h1, h2, h3⟩ | ⟨h1, h2⟩
    · exact .inl ⟨h1, h2, by omega⟩
    · exact .inr ⟨by omega, h2⟩
theorem lxF_ch {xs : List Int} : ∀ f i acc, i ≤ xs.length → xs.length < f + i → (lxF xs f i acc).code = 0 → ∃ r, (lxF xs f i acc).ws = acc ++ r ∧ Ch xs i r
  | 0, i, acc, h1, h2, _ => by omega
  | f + 1, i, acc, h1, h2, h3 => by
    unfold lxF at h3 ⊢
    by_cases hi : xs.length ≤ i
    · rw [if_pos hi]
      obtain rfl : i = xs.length := by omega
      exact ⟨_, rfl, .inl ⟨rfl, rfl, Nat.le_refl _⟩⟩
    · rw [if_neg hi] at h3 ⊢
      have hf := tok_fine xs i
      cases ht : tok xs i with
      | skip j =>
        rw [ht] at h3
        have := tok_skip (by omega) ht
        obtain ⟨r, e, hc⟩ := lxF_ch f j acc this.2 (by omega) h3
        exact ⟨r, e, ch_less hc (by omega)⟩
      | bad c =>
        rw [ht] at h3 hf
        exact absurd h3 hf
      | word k e n b =>
        rw [ht] at h3 hf
        have := tok_word (by omega) ht
        obtain ⟨r, er, hc⟩ := lxF_ch f e _ this.2 (by omega) h3
        refine ⟨⟨k, i, e, n, b⟩ :: r, by simp only; rw [er, List.append_assoc]; rfl, .inr ⟨Nat.le_refl _, this.1, this.2, hf.1, hf.2, ht, hc⟩⟩
theorem lx_ch {xs : List Int} (h : (lx xs).code = 0) : Ch xs 0 (lx xs).ws := by
  unfold lx lxAt at h ⊢
  obtain ⟨r, e, hc⟩ := lxF_ch _ 0 [] (by omega) (by omega) h
  rw [e]
  exact hc
theorem ch_last {xs : List Int} : ∀ (l : List Wd) (i : Nat), Ch xs i l → ∃ p, l = p ++ [⟨5, xs.length, xs.length, 0, []⟩]
  | [], _, h => h.elim
  | x :: r, i, h => by
    rcases h with ⟨rfl, rfl, _⟩ | ⟨_, _, _, _, _, _, hc⟩
    · exact ⟨[], rfl⟩
    · obtain ⟨p, rfl⟩ := ch_last r _ hc
      exact ⟨x :: p, rfl⟩
/-- How far a walk over the places has come. -/
def Stp (xs : List Int) (ws : List Wd) (k i : Nat) : Prop := (i = xs.length + 1 ∧ k = ws.length) ∨ Ch xs i (ws.drop k)
theorem stp_end {xs : List Int} {ws : List Wd} {k : Nat} (h : Stp xs ws k (xs.length + 1)) : k = ws.length := by
  rcases h with h | h
  · exact h.2
  · have := ch_le h; omega
theorem stp_next {xs : List Int} {ws : List Wd} {k i : Nat} (h : Stp xs ws k i) (hi : i ≤ xs.length) : ∃ x, ws[k]? = some x ∧ x.st ≤ x.en ∧ x.en ≤ xs.length ∧
    ((x.st = i ∧ (x.st = x.en ↔ x.kind = 5) ∧ Stp xs ws (k + 1) (i + 1)) ∨ (¬ (lnA xs x.st = lnA xs i ∧ clA xs x.st = clA xs i) ∧ Stp xs ws k (i + 1))) := by
  rcases h with h | h
  · omega
  · cases hd : ws.drop k with
    | nil => rw [hd] at h; exact h.elim
    | cons x r =>
      have hg : ws[k]? = some x := by
        have : (ws.drop k)[0]? = some x := by rw [hd]; rfl
        rw [List.getElem?_drop] at this
        simpa using this
      have hr : ws.drop (k + 1) = r := by rw [← List.drop_drop, hd]; rfl
      have hk : k < ws.length := (List.getElem?_eq_some_iff.1 hg).1
      have hdr := hd
      rw [hd] at h
      refine ⟨x, hg, ?_⟩
      rcases h with ⟨rfl, rfl, h3⟩ | ⟨h1, h2, h3, h4, h5, h6, hc⟩
      · refine ⟨Nat.le_refl _, Nat.le_refl _, ?_⟩
        by_cases he : i = xs.length
        · subst he
          refine .inl ⟨rfl, by simp, .inl ⟨rfl, ?_⟩⟩
          have : (ws.drop (k + 1)).length = 0 := by rw [hr]; rfl
          rw [List.length_drop] at this
          omega
        · refine .inr ⟨fun h => place_lt (xs := xs) (show i < xs.length by omega) ⟨h.1.symm, h.2.symm⟩, .inr ?_⟩
          rw [hdr]
          exact .inl ⟨rfl, rfl, by omega⟩
      · refine ⟨by omega, h3, ?_⟩
        by_cases he : x.st = i
        · refine .inl ⟨he, ⟨fun h => by omega, fun h => by omega⟩, .inr ?_⟩
          rw [hr]
          exact ch_less hc (by omega)
        · refine .inr ⟨fun h => place_lt (xs := xs) (show i < x.st by omega) ⟨h.1.symm, h.2.symm⟩, .inr ?_⟩
          rw [hdr]
          exact .inr ⟨by omega, h2, h3, h4, h5, h6, hc⟩
end Go.Proofs.YtlkdcdmdkncjoaaDoor
