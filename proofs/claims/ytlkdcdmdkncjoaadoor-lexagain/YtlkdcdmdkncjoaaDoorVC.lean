/-
  Plain mathematics for words put one behind the other: each is read again.
-/
import Derived.Test.YtlkdcdmdkncjoaaDoorVA
namespace Go.Proofs.YtlkdcdmdkncjoaaDoor
open Go.RowKit
set_option maxRecDepth 1000000
set_option linter.unusedVariables false
set_option linter.unusedSimpArgs false

theorem sc_is {P : Int → Bool} {xs : List Int} : ∀ (n i : Nat), (∀ j, j < n → P (bt xs (i + j)) = true) → P (bt xs (i + n)) = false → i + n ≤ xs.length → sc P xs i = i + n
  | 0, i, _, h2, _ => sc_stop h2
  | n + 1, i, h1, h2, h3 => by
    rw [sc_step (by omega) (by simpa using h1 0 (by omega))]
    have := sc_is n (i + 1) (fun j hj => by have := h1 (j + 1) (by omega); rwa [show i + (j + 1) = i + 1 + j by omega] at this) (by rwa [show i + (n + 1) = i + 1 + n by omega] at h2) (by omega)
    rw [this]
    omega
theorem scF_all {P : Int → Bool} {xs : List Int} : ∀ f i j, i ≤ j → j < scF P xs f i → P (bt xs j) = true
  | 0, i, j, h1, h2 => by simp [scF] at h2; omega
  | f + 1, i, j, h1, h2 => by
    unfold scF at h2
    split at h2
    · rename_i hp
      by_cases he : j = i
      · rw [he]; exact hp
      · exact scF_all f (i + 1) j (by omega) h2
    · omega
theorem sc_all {P : Int → Bool} {xs : List Int} {i j : Nat} (h1 : i ≤ j) (h2 : j < sc P xs i) : P (bt xs j) = true := scF_all _ _ _ h1 h2
/-- The same bytes at another place. -/
def Here (xs : List Int) (st : Nat) (t : List Int) (p m : Nat) : Prop := p + m ≤ t.length ∧ st + m ≤ xs.length ∧ ∀ j, j < m → bt t (p + j) = bt xs (st + j)
theorem here_cut {xs t : List Int} {st p m : Nat} (h : Here xs st t p m) (a : Nat) (ha : a ≤ m) : cut t (p + a) (p + m) = cut xs (st + a) (st + m) := by
  obtain ⟨h1, h2, h3⟩ := h
  apply List.ext_getElem?
  intro i
  unfold cut
  rw [List.getElem?_drop, List.getElem?_drop]
  by_cases hi : a + i < m
  · have e := h3 (a + i) hi
    unfold bt at e
    rw [List.getElem?_take_of_lt (by omega), List.getElem?_take_of_lt (by omega)]
    have e1 : t[p + (a + i)]? = some t[p + (a + i)] := List.getElem?_eq_getElem (by omega)
    have e2 : xs[st + (a + i)]? = some xs[st + (a + i)] := List.getElem?_eq_getElem (by omega)
    rw [e1, e2] at e
    simp only [Option.getD_some] at e
    rw [show p + a + i = p + (a + i) by omega, show st + a + i = st + (a + i) by omega, e1, e2, e]
  · rw [List.getElem?_eq_none (by simp; omega), List.getElem?_eq_none (by simp; omega)]
theorem here_qe {xs t : List Int} {st p m : Nat} (h : Here xs st t p m) : ∀ f a, qeF xs f (st + a) = some (st + m) → qe t (p + a) = some (p + m)
  | 0, a, h0 => by simp [qeF] at h0
  | f + 1, a, h0 => by
    have hl := qeF_le _ _ _ h0
    have ha : a < m := by omega
    have hb := h.2.2 a ha
    have hp : p + a < t.length := by have := h.1; omega
    unfold qeF at h0
    split at h0
    · simp at h0
    · split at h0
      · rename_i h92
        rw [qe_back hp (by rw [hb]; exact h92)]
        rw [show p + a + 2 = p + (a + 2) by omega]
        rw [show st + a + 2 = st + (a + 2) by omega] at h0
        exact here_qe h f (a + 2) h0
      · split at h0
        · rename_i h92 h34
          rw [qe_mark hp (by rw [hb]; exact h34)]
          simp at h0
          simp
          omega
        · rename_i h92 h34
          rw [qe_step hp (by rw [hb]; exact h92) (by rw [hb]; exact h34)]
          rw [show p + a + 1 = p + (a + 1) by omega]
          rw [show st + a + 1 = st + (a + 1) by omega] at h0
          exact here_qe h f (a + 1) h0
/-- The byte behind a word. -/
def behind (c : Int) : Prop := c = 32 ∨ c = 10 ∨ c = 47
theorem behind_nam {c : Int} (h : behind c) : namB c = false := by rcases h with rfl | rfl | rfl <;> decide
theorem behind_dig {c : Int} (h : behind c) : digB c = false := by rcases h with rfl | rfl | rfl <;> decide
theorem behind_hex {c : Int} (h : behind c) : hexB c = false := by rcases h with rfl | rfl | rfl <;> decide
theorem behind_x {c : Int} (h : behind c) : c ≠ 120 := by rcases h with rfl | rfl | rfl <;> decide
theorem tok_again {xs t : List Int} {st p m : Nat} {k n : Int} {b : List Int} (h : Here xs st t p m) (hm : 0 < m) (hc : behind (bt t (p + m))) (ht : tok xs st = .word k (st + m) n b) : tok t p = .word k (p + m) n b := by
  have h0 : bt t p = bt xs st := h.2.2 0 hm
  have hlt := h.1
  unfold tok at ht ⊢
  rw [h0]
  split at ht
  · cases ht
  · rename_i g1
    rw [if_neg g1]
    split at ht
    · unfold tokC at ht
      repeat' split at ht
      all_goals cases ht
    · rename_i g2
      rw [if_neg g2]
      split at ht
      · rename_i g3
        rw [if_pos g3]
        injection ht with e1 e2 e3 e4
        have : sc namB t (p + 1) = p + 1 + (m - 1) := sc_is (m - 1) (p + 1) (fun j hj => by
            have e := h.2.2 (1 + j) (by omega)
            rw [show p + (1 + j) = p + 1 + j by omega] at e
            rw [e]
            exact sc_all (i := st + 1) (by omega) (by omega)) (by rw [show p + 1 + (m - 1) = p + m by omega]; exact behind_nam hc) (by omega)
        rw [this, e1, e3, e4, show p + 1 + (m - 1) = p + m by omega]
      · rename_i g3
        rw [if_neg g3]
        split at ht
        · rename_i g4
          rw [if_pos g4]
          unfold tokN at ht ⊢
          split at ht
          · cases ht
          · split at ht
            · cases ht
            · rename_i u1 u2
              injection ht with e1 e2 e3 e4
              have hn1 : nen xs st ≠ nfr xs st := fun h => u1 (.inl h)
              have hhx : hxA t p = hxA xs st := by
                unfold hxA
                rw [h0]
                by_cases m1 : m = 1
                · subst m1
                  have : ¬ (bt xs st = 48 ∧ bt xs (st + 1) = 120) := by
                    intro hh
                    have hA : hxA xs st = true := by unfold hxA; simpa using hh
                    have hf : nfr xs st = st + 2 := by unfold nfr; rw [if_pos hA]
                    have := sc_le (ndg xs st) xs (nfr xs st)
                    unfold nen at e2
                    omega
                  have h2 : ¬ (bt xs st = 48 ∧ bt t (p + 1) = 120) := fun hh => behind_x hc hh.2
                  simp [this, h2]
                · rw [h.2.2 1 (by omega)]
              obtain ⟨d, hd1, hd2, hd3⟩ : ∃ d, nfr xs st = st + d ∧ nfr t p = p + d ∧ d ≤ m := by
                have hle := sc_le (ndg xs st) xs (nfr xs st)
                unfold nen at e2
                unfold nfr at hle e2 ⊢
                rw [hhx]
                split
                · rename_i hA
                  rw [if_pos hA] at hle e2
                  exact ⟨2, rfl, rfl, by omega⟩
                · exact ⟨0, rfl, rfl, by omega⟩
              have hdg : ndg t p = ndg xs st := by unfold ndg; rw [hhx]
              have hbs : nbs t p = nbs xs st := by unfold nbs; rw [hhx]
              have hdc : ndg xs st (bt t (p + m)) = false := by
                unfold ndg
                split
                · exact behind_hex hc
                · exact behind_dig hc
              have hen : nen t p = p + m := by
                unfold nen
                rw [hd2, hdg]
                have := sc_is (P := ndg xs st) (xs := t) (m - d) (p + d) (fun j hj => by
                    have e := h.2.2 (d + j) (by omega)
                    rw [show p + (d + j) = p + d + j by omega] at e
                    rw [e]
                    unfold nen at e2
                    rw [hd1] at e2
                    exact sc_all (i := st + d) (by omega) (by omega)) (by rw [show p + d + (m - d) = p + m by omega]; exact hdc) (by omega)
                rw [this]
                omega
              have hvl : vl (nbs t p) t (nfr t p) (nen t p) = vl (nbs xs st) xs (nfr xs st) (nen xs st) := by
                unfold vl
                rw [hen, hd2, hbs, e2, hd1, here_cut h d hd3]
              rw [hvl, hen, hd2, if_neg, if_neg u2, e1, e3, e4]
              rintro (hh | hh)
              · rw [e2, hd1] at hn1; omega
              · rw [behind_nam hc] at hh; cases hh
        · rename_i g4
          rw [if_neg g4]
          split at ht
          · rename_i g5
            rw [if_pos g5]
            unfold tokQ at ht ⊢
            split at ht
            · cases ht
            · rename_i kk hk
              split at ht
              · cases ht
              · rename_i bb hbb
                injection ht with e1 e2 e3 e4
                subst e2
                rw [here_qe h _ 1 hk]
                have := here_cut h 0 (by omega)
                simp only [Nat.add_zero] at this
                simp only [this, hbb]
                rw [e1, e3, e4]
          · rename_i g5
            rw [if_neg g5]
            split at ht
            · rename_i g6
              rw [if_pos g6]
              injection ht with e1 e2 e3 e4
              rw [e1, e3, e4]
              congr 1
              omega
            · cases ht
end Go.Proofs.YtlkdcdmdkncjoaaDoor
