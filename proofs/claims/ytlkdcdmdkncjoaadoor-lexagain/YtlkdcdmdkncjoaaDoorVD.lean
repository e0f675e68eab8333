/-
  Plain mathematics for words put one behind the other: the whole text is read again.
-/
import Derived.Test.YtlkdcdmdkncjoaaDoorVC
namespace Go.Proofs.YtlkdcdmdkncjoaaDoor
open Go.RowKit
set_option maxRecDepth 1000000
set_option linter.unusedVariables false
set_option linter.unusedSimpArgs false

theorem bt_app (pre r : List Int) (j : Nat) : bt (pre ++ r) (pre.length + j) = bt r j := by
  unfold bt
  rw [List.getElem?_append_right (by omega), Nat.add_sub_cancel_left]
theorem bt_front {l r : List Int} {j : Nat} (h : j < l.length) : bt (l ++ r) j = bt l j := by
  unfold bt
  rw [List.getElem?_append_left h]
theorem bt_cut {xs : List Int} {a b j : Nat} (h : j < b - a) (hb : b ≤ xs.length) : bt (cut xs a b) j = bt xs (a + j) := by
  unfold bt cut
  rw [List.getElem?_drop, List.getElem?_take_of_lt (by omega)]
/-- What is put between words. -/
def sep4 : Nat → List Int
  | 0 => [32]
  | 1 => [10]
  | 2 => [47, 42, 32, 42, 32, 47, 32, 34, 32, 42, 47]
  | _ => [47, 47, 32, 34, 32, 47, 42, 10]
def isSep (s : List Int) : Prop := s = sep4 0 ∨ s = sep4 1 ∨ s = sep4 2 ∨ s = sep4 3
theorem sep4_is (r : Nat) : isSep (sep4 r) := by
  match r with
  | 0 => exact .inl rfl
  | 1 => exact .inr (.inl rfl)
  | 2 => exact .inr (.inr (.inl rfl))
  | _ + 3 => exact .inr (.inr (.inr rfl))
theorem sep_bd {s : List Int} (h : isSep s) : (∀ x ∈ s, 0 ≤ x ∧ x ≤ 255) ∧ s.length ≤ 11 := by
  rcases h with rfl | rfl | rfl | rfl <;> decide
theorem sep_behind {s : List Int} (h : isSep s) (r : List Int) : behind (bt (s ++ r) 0) := by
  rcases h with rfl | rfl | rfl | rfl
  · exact .inl rfl
  · exact .inr (.inl rfl)
  · exact .inr (.inr rfl)
  · exact .inr (.inr rfl)
theorem sep_pos {s : List Int} (h : isSep s) : 0 < s.length := by
  rcases h with rfl | rfl | rfl | rfl <;> decide
theorem tok_blank {t : List Int} {i : Nat} (h : bt t i = 32 ∨ bt t i = 10) : tok t i = .skip (i + 1) := by
  unfold tok
  rw [if_pos]
  rcases h with h | h <;> rw [h] <;> decide
theorem tok_47 {t : List Int} {i : Nat} (h : bt t i = 47) : tok t i = tokC t i := by
  unfold tok
  rw [h, if_neg (by decide), if_pos rfl]
theorem sep_skip {t pre s rest : List Int} {acc : List Wd} (hs : isSep s) (h : t = pre ++ (s ++ rest)) : lxAt t pre.length acc = lxAt t (pre.length + s.length) acc := by
  have b : ∀ j, bt t (pre.length + j) = bt (s ++ rest) j := fun j => by rw [h]; exact bt_app _ _ _
  have hl : t.length = pre.length + (s.length + rest.length) := by rw [h]; simp
  clear h
  generalize pre.length = p at *
  have b0 := b 0
  rcases hs with rfl | rfl | rfl | rfl
  · exact lxAt_skip (by simp [sep4] at hl; omega) (tok_blank (.inl b0))
  · exact lxAt_skip (by simp [sep4] at hl; omega) (tok_blank (.inr b0))
  · have hl' : t.length = p + (11 + rest.length) := hl
    have b1 : bt t (p + 1) = 42 := b 1
    have b2 : bt t (p + 2) = 32 := b 2
    have b3 : bt t (p + 3) = 42 := b 3
    have b4 : bt t (p + 4) = 32 := b 4
    have b5 : bt t (p + 5) = 47 := b 5
    have b6 : bt t (p + 6) = 32 := b 6
    have b7 : bt t (p + 7) = 34 := b 7
    have b8 : bt t (p + 8) = 32 := b 8
    have b9 : bt t (p + 9) = 42 := b 9
    have b10 : bt t (p + 10) = 47 := b 10
    refine lxAt_skip (by omega) ?_
    rw [tok_47 (show bt t p = 47 from b 0)]
    unfold tokC
    rw [if_neg (by rw [b1]; decide), if_pos b1]
    have : bk t (p + 2) = some (p + 11) := by
      rw [bk_step (by omega) (by rw [b2]; omega), bk_step (by omega) (by rw [show p + 2 + 1 = p + 3 by omega, show p + 3 + 1 = p + 4 by omega, b4]; omega), bk_step (by omega) (by rw [show p + 2 + 1 + 1 = p + 4 by omega, b4]; omega), bk_step (by omega) (by rw [show p + 2 + 1 + 1 + 1 = p + 5 by omega, b5]; omega), bk_step (by omega) (by rw [show p + 2 + 1 + 1 + 1 + 1 = p + 6 by omega, b6]; omega), bk_step (by omega) (by rw [show p + 2 + 1 + 1 + 1 + 1 + 1 = p + 7 by omega, b7]; omega), bk_step (by omega) (by rw [show p + 2 + 1 + 1 + 1 + 1 + 1 + 1 = p + 8 by omega, b8]; omega)]
      rw [show p + 2 + 1 + 1 + 1 + 1 + 1 + 1 + 1 = p + 9 by omega]
      exact bk_here b9 b10
    rw [this]
    rfl
  · have hl' : t.length = p + (8 + rest.length) := hl
    have b1 : bt t (p + 1) = 47 := b 1
    have b2 : bt t (p + 2) = 32 := b 2
    have b3 : bt t (p + 3) = 34 := b 3
    have b4 : bt t (p + 4) = 32 := b 4
    have b5 : bt t (p + 5) = 47 := b 5
    have b6 : bt t (p + 6) = 42 := b 6
    have b7 : bt t (p + 7) = 10 := b 7
    have e : tok t p = .skip (p + 7) := by
      rw [tok_47 (show bt t p = 47 from b 0)]
      unfold tokC
      rw [if_pos b1]
      have : sc notNl t (p + 1) = p + 1 + 6 := sc_is 6 (p + 1) (fun j hj => by
        have hj' : j = 0 ∨ j = 1 ∨ j = 2 ∨ j = 3 ∨ j = 4 ∨ j = 5 := by omega
        rcases hj' with rfl | rfl | rfl | rfl | rfl | rfl
        · rw [Nat.add_zero, b1]; decide
        · rw [show p + 1 + 1 = p + 2 by omega, b2]; decide
        · rw [show p + 1 + 2 = p + 3 by omega, b3]; decide
        · rw [show p + 1 + 3 = p + 4 by omega, b4]; decide
        · rw [show p + 1 + 4 = p + 5 by omega, b5]; decide
        · rw [show p + 1 + 5 = p + 6 by omega, b6]; decide) (by rw [show p + 1 + 6 = p + 7 by omega, b7]; decide) (by omega)
      rw [this]
    rw [lxAt_skip (by omega) e]
    exact lxAt_skip (by omega) (tok_blank (.inr b7))
/-- The words' texts, something behind each. -/
def jn (xs : List Int) (sep : Nat → List Int) : Nat → List Wd → List Int
  | _, [] => []
  | k, x :: r => cut xs x.st x.en ++ (sep k ++ jn xs sep (k + 1) r)
theorem jn_snoc (xs : List Int) (sep : Nat → List Int) (x : Wd) : ∀ (l : List Wd) (k : Nat), jn xs sep k (l ++ [x]) = jn xs sep k l ++ (cut xs x.st x.en ++ sep (k + l.length))
  | [], k => by simp [jn]
  | y :: r, k => by
    have := jn_snoc xs sep x r (k + 1)
    simp only [List.cons_append, jn, this, List.length_cons, List.append_assoc]
    rw [show k + 1 + r.length = k + (r.length + 1) by omega]
/-- Alike but for places. -/
def LkW (xs t : List Int) : List Wd → List Wd → Prop
  | [], [] => True
  | x :: r, y :: s => (x.kind = y.kind ∧ cut xs x.st x.en = cut t y.st y.en ∧ x.n = y.n ∧ x.b = y.b) ∧ LkW xs t r s
  | _, _ => False
theorem lx_again {xs : List Int} {sep : Nat → List Int} (hs : ∀ k, isSep (sep k)) : ∀ (l : List Wd) (i k : Nat) (pre t : List Int) (acc : List Wd), Ch xs i l → t = pre ++ jn xs sep k l → ∃ l', lxAt t pre.length acc = ⟨acc ++ l', 0, 0⟩ ∧ LkW xs t l l'
  | [], _, _, _, _, _, h, _ => h.elim
  | x :: r, i, k, pre, t, acc, h, ht => by
    have hsk := hs k
    rcases h with ⟨rfl, rfl, _⟩ | ⟨h1, h2, h3, h4, h5, h6, hc⟩
    · simp only [jn, cut_nil, List.nil_append] at ht
      rw [sep_skip hsk ht]
      have hl : pre.length + (sep k).length = t.length := by rw [ht]; simp
      rw [lxAt_end hl]
      exact ⟨_, rfl, ⟨⟨rfl, by simp only [cut_nil], rfl, rfl⟩, trivial⟩⟩
    · obtain ⟨kind, st, en, n, b⟩ := x
      dsimp only at h1 h2 h3 h4 h5 h6 hc ht
      obtain ⟨m, rfl⟩ : ∃ m, en = st + m := ⟨en - st, by omega⟩
      simp only [jn] at ht
      have hcl : (cut xs st (st + m)).length = m := by rw [cut_length _ _ _ h3]; omega
      have hlen : t.length = pre.length + (m + ((sep k).length + (jn xs sep (k + 1) r).length)) := by rw [ht]; simp only [List.length_append, hcl]
      have hH : Here xs st t pre.length m := ⟨by omega, h3, fun j hj => by
        rw [ht, bt_app, bt_front (by rw [hcl]; exact hj), bt_cut (by omega) h3]⟩
      have hbh : behind (bt t (pre.length + m)) := by
        have e : t = (pre ++ cut xs st (st + m)) ++ (sep k ++ jn xs sep (k + 1) r) := by rw [ht, List.append_assoc]
        have e2 : pre.length + m = (pre ++ cut xs st (st + m)).length + 0 := by simp [hcl]
        rw [e2, e, bt_app]
        exact sep_behind hsk _
      have hpos := sep_pos hsk
      rw [lxAt_word (by omega) (tok_again hH (by omega) hbh h6)]
      have e3 : pre.length + m = (pre ++ cut xs st (st + m)).length := by simp [hcl]
      have hsp := sep_skip (t := t) (pre := pre ++ cut xs st (st + m)) (rest := jn xs sep (k + 1) r) (acc := acc ++ [⟨kind, pre.length, pre.length + m, n, b⟩]) hsk (by rw [ht, List.append_assoc])
      rw [← e3] at hsp
      rw [hsp]
      obtain ⟨l', e4, hk⟩ := lx_again hs r (st + m) (k + 1) (pre ++ (cut xs st (st + m) ++ sep k)) t (acc ++ [⟨kind, pre.length, pre.length + m, n, b⟩]) hc (by rw [ht]; simp only [List.append_assoc])
      have e5 : (pre ++ (cut xs st (st + m) ++ sep k)).length = pre.length + m + (sep k).length := by simp only [List.length_append, hcl]; omega
      rw [e5] at e4
      refine ⟨⟨kind, pre.length, pre.length + m, n, b⟩ :: l', by rw [e4]; simp, ⟨rfl, ?_, rfl, rfl⟩, hk⟩
      have := here_cut hH 0 (by omega)
      simp only [Nat.add_zero] at this
      exact this.symm
/-- Words alike, as they lie in memory. -/
def LkM : List Mw → List Mw → Prop
  | [], [] => True
  | x :: r, y :: s => (x.kind = y.kind ∧ x.s = y.s ∧ x.n = y.n ∧ x.b = y.b) ∧ LkM r s
  | _, _ => False
theorem lkM_of {xs t : List Int} : ∀ (l l' : List Wd), LkW xs t l l' → LkM (l'.map (mw t)) (l.map (mw xs))
  | [], [], _ => trivial
  | [], _ :: _, h => h.elim
  | _ :: _, [], h => h.elim
  | x :: r, y :: s, ⟨⟨h1, h2, h3, h4⟩, h⟩ => ⟨⟨h1.symm, h2.symm, h3.symm, h4.symm⟩, lkM_of r s h⟩
theorem lkM_len : ∀ (l l' : List Mw), LkM l l' → l.length = l'.length
  | [], [], _ => rfl
  | [], _ :: _, h => h.elim
  | _ :: _, [], h => h.elim
  | x :: r, y :: s, ⟨_, h⟩ => by simp [lkM_len r s h]
theorem lkM_get : ∀ (l l' : List Mw) (i : Nat) (x y : Mw), LkM l l' → l[i]? = some x → l'[i]? = some y → x.kind = y.kind ∧ x.s = y.s ∧ x.n = y.n ∧ x.b = y.b
  | [], _, _, _, _, _, h, _ => by simp at h
  | _ :: _, [], _, _, _, h, _, _ => h.elim
  | a :: r, b :: s, 0, x, y, ⟨h, _⟩, h1, h2 => by simp at h1 h2; subst h1; subst h2; exact h
  | a :: r, b :: s, i + 1, x, y, ⟨_, h⟩, h1, h2 => lkM_get r s i x y h (by simpa using h1) (by simpa using h2)
theorem jn_bd {xs : List Int} {sep : Nat → List Int} (hb : ∀ x ∈ xs, 0 ≤ x ∧ x ≤ 255) (hs : ∀ k, isSep (sep k)) : ∀ (l : List Wd) (k : Nat), ∀ x ∈ jn xs sep k l, 0 ≤ x ∧ x ≤ 255
  | [], _ => by simp [jn]
  | y :: r, k => by
    intro x hx
    simp only [jn, List.mem_append] at hx
    rcases hx with hx | hx | hx
    · exact cut_bd hb _ _ x hx
    · exact (sep_bd (hs k)).1 x hx
    · exact jn_bd hb hs r (k + 1) x hx
theorem jn_len {xs : List Int} {sep : Nat → List Int} (hs : ∀ k, isSep (sep k)) : ∀ (l : List Wd) (k : Nat), (jn xs sep k l).length ≤ l.length * (xs.length + 11)
  | [], _ => by simp [jn]
  | y :: r, k => by
    have h1 := jn_len hs r (k + 1) (xs := xs)
    have h2 := (sep_bd (hs k)).2
    have h3 : (cut xs y.st y.en).length ≤ xs.length := by unfold cut; simp; omega
    simp only [jn, List.length_append, List.length_cons, Nat.succ_mul]
    omega
theorem ch_len {xs : List Int} : ∀ (l : List Wd) (i : Nat), Ch xs i l → l.length + i ≤ xs.length + 1
  | [], _, h => h.elim
  | x :: r, i, h => by
    rcases h with ⟨rfl, rfl, h3⟩ | ⟨h1, h2, h3, _, _, _, hc⟩
    · simp; omega
    · have := ch_len r _ hc
      simp
      omega
end Go.Proofs.YtlkdcdmdkncjoaaDoor
