/-
  Plain mathematics for words: bytes by place, lines and columns, scanning, the words of a text; nothing of the program.
-/
import Derived.Test.YtlkdcdmdkncjoaaDoorQA
namespace Go.Proofs.YtlkdcdmdkncjoaaDoor
open Go.RowKit
set_option maxRecDepth 1000000

/-- The byte at a place; behind the end 0. -/
def bt (xs : List Int) (i : Nat) : Int := xs[i]?.getD 0
theorem bt_end {xs : List Int} {i : Nat} (h : xs.length ≤ i) : bt xs i = 0 := by unfold bt; rw [List.getElem?_eq_none h]; rfl
theorem bt_bd {xs : List Int} (hb : ∀ x ∈ xs, 0 ≤ x ∧ x ≤ 255) (i : Nat) : 0 ≤ bt xs i ∧ bt xs i ≤ 255 := by
  by_cases h : i < xs.length
  · have := hb xs[i] (List.getElem_mem h)
    simpa [bt, h] using this
  · rw [bt_end (by omega)]; omega

/-- Lines and columns. -/
def lnA (xs : List Int) : Nat → Int
  | 0 => 1
  | i + 1 => if bt xs i = 10 then lnA xs i + 1 else lnA xs i
def clA (xs : List Int) : Nat → Int
  | 0 => 1
  | i + 1 => if bt xs i = 10 then 1 else clA xs i + 1
theorem lnA_bd (xs : List Int) : ∀ i, 1 ≤ lnA xs i ∧ lnA xs i ≤ i + 1
  | 0 => by simp [lnA]
  | i + 1 => by have := lnA_bd xs i; unfold lnA; split <;> omega
theorem clA_bd (xs : List Int) : ∀ i, 1 ≤ clA xs i ∧ clA xs i ≤ i + 1
  | 0 => by simp [clA]
  | i + 1 => by have := clA_bd xs i; unfold clA; split <;> omega
theorem lnA_nl {xs : List Int} {i : Nat} (h : bt xs i = 10) : lnA xs (i + 1) = lnA xs i + 1 := by rw [lnA, if_pos h]
theorem lnA_on {xs : List Int} {i : Nat} (h : bt xs i ≠ 10) : lnA xs (i + 1) = lnA xs i := by rw [lnA, if_neg h]
theorem clA_nl {xs : List Int} {i : Nat} (h : bt xs i = 10) : clA xs (i + 1) = 1 := by rw [clA, if_pos h]
theorem clA_on {xs : List Int} {i : Nat} (h : bt xs i ≠ 10) : clA xs (i + 1) = clA xs i + 1 := by rw [clA, if_neg h]

/-- The first place from i on at which p does not hold. -/
def scF (p : Int → Bool) (xs : List Int) : Nat → Nat → Nat
  | 0, i => i
  | f + 1, i => if p (bt xs i) = true then scF p xs f (i + 1) else i
def sc (p : Int → Bool) (xs : List Int) (i : Nat) : Nat := scF p xs (xs.length - i) i
theorem sc_end {p : Int → Bool} {xs : List Int} {i : Nat} (h : xs.length ≤ i) : sc p xs i = i := by unfold sc; rw [show xs.length - i = 0 by omega]; rfl
theorem sc_stop {p : Int → Bool} {xs : List Int} {i : Nat} (h : p (bt xs i) = false) : sc p xs i = i := by
  unfold sc
  cases xs.length - i with
  | zero => rfl
  | succ f => rw [scF, if_neg (by simp [h])]
theorem sc_step {p : Int → Bool} {xs : List Int} {i : Nat} (hi : i < xs.length) (h : p (bt xs i) = true) : sc p xs i = sc p xs (i + 1) := by
  unfold sc
  rw [show xs.length - i = (xs.length - (i + 1)) + 1 by omega, scF, if_pos h]
theorem scF_le (p : Int → Bool) (xs : List Int) : ∀ f i, i ≤ scF p xs f i ∧ scF p xs f i ≤ i + f
  | 0, i => by simp [scF]
  | f + 1, i => by
    have := scF_le p xs f (i + 1)
    unfold scF
    split <;> omega
theorem sc_le (p : Int → Bool) (xs : List Int) (i : Nat) : i ≤ sc p xs i ∧ (i ≤ xs.length → sc p xs i ≤ xs.length) := by
  have := scF_le p xs (xs.length - i) i
  unfold sc
  omega
/-- Where a comment ends: behind the next star and slash. -/
def bkF (xs : List Int) : Nat → Nat → Option Nat
  | 0, _ => none
  | f + 1, i => if bt xs i = 42 ∧ bt xs (i + 1) = 47 then some (i + 2) else bkF xs f (i + 1)
def bk (xs : List Int) (i : Nat) : Option Nat := bkF xs (xs.length - i) i
theorem bk_end {xs : List Int} {i : Nat} (h : xs.length ≤ i) : bk xs i = none := by unfold bk; rw [show xs.length - i = 0 by omega]; rfl
theorem bk_last {xs : List Int} {i : Nat} (h : xs.length ≤ i + 1) : bk xs i = none := by
  by_cases h1 : xs.length ≤ i
  · exact bk_end h1
  · unfold bk
    rw [show xs.length - i = 0 + 1 by omega, bkF, if_neg]
    · rfl
    · rintro ⟨_, h2⟩
      rw [bt_end h] at h2
      omega
theorem bk_here {xs : List Int} {i : Nat} (h1 : bt xs i = 42) (h2 : bt xs (i + 1) = 47) : bk xs i = some (i + 2) := by
  have hi : i < xs.length := by
    rcases Nat.lt_or_ge i xs.length with h | h
    · exact h
    · rw [bt_end h] at h1; omega
  unfold bk
  rw [show xs.length - i = (xs.length - (i + 1)) + 1 by omega, bkF, if_pos ⟨h1, h2⟩]
theorem bk_step {xs : List Int} {i : Nat} (hi : i < xs.length) (h : ¬ (bt xs i = 42 ∧ bt xs (i + 1) = 47)) : bk xs i = bk xs (i + 1) := by
  unfold bk
  rw [show xs.length - i = (xs.length - (i + 1)) + 1 by omega, bkF, if_neg h]
theorem bkF_le {xs : List Int} : ∀ f i k, bkF xs f i = some k → i + 2 ≤ k ∧ k ≤ xs.length
  | 0, i, k, h => by simp [bkF] at h
  | f + 1, i, k, h => by
    unfold bkF at h
    split at h
    · rename_i hc
      simp at h
      subst h
      rcases Nat.lt_or_ge (i + 1) xs.length with h2 | h2
      · omega
      · rw [bt_end h2] at hc; omega
    · have := bkF_le f (i + 1) k h; omega
theorem bk_le {xs : List Int} {i k : Nat} (h : bk xs i = some k) : i + 2 ≤ k ∧ k ≤ xs.length := bkF_le _ _ _ h
/-- Where a text ends: behind its second quote. -/
def qeF (xs : List Int) : Nat → Nat → Option Nat
  | 0, _ => none
  | f + 1, i => if xs.length ≤ i then none else if bt xs i = 92 then qeF xs f (i + 2) else if bt xs i = 34 then some (i + 1) else qeF xs f (i + 1)
def qe (xs : List Int) (i : Nat) : Option Nat := qeF xs (xs.length + 1 - i) i
theorem qeF_fuel {xs : List Int} : ∀ f g i, xs.length < f + i → xs.length < g + i → qeF xs f i = qeF xs g i
  | 0, 0, i, _, _ => rfl
  | 0, g + 1, i, h, _ => by rw [qeF, qeF, if_pos (by omega)]
  | f + 1, 0, i, _, h => by rw [qeF, qeF, if_pos (by omega)]
  | f + 1, g + 1, i, h1, h2 => by
    unfold qeF
    rw [qeF_fuel f g (i + 2) (by omega) (by omega), qeF_fuel f g (i + 1) (by omega) (by omega)]
theorem qe_un {xs : List Int} {i : Nat} (h : i < xs.length) : qe xs i = if bt xs i = 92 then qe xs (i + 2) else if bt xs i = 34 then some (i + 1) else qe xs (i + 1) := by
  unfold qe
  rw [show xs.length + 1 - i = (xs.length - i) + 1 by omega, qeF, if_neg (by omega), qeF_fuel _ (xs.length + 1 - (i + 2)) (i + 2) (by omega) (by omega), qeF_fuel _ (xs.length + 1 - (i + 1)) (i + 1) (by omega) (by omega)]
theorem qe_end {xs : List Int} {i : Nat} (h : xs.length ≤ i) : qe xs i = none := by
  unfold qe
  cases xs.length + 1 - i with
  | zero => rfl
  | succ f => rw [qeF, if_pos h]
theorem qe_back {xs : List Int} {i : Nat} (h : i < xs.length) (hc : bt xs i = 92) : qe xs i = qe xs (i + 2) := by rw [qe_un h, if_pos hc]
theorem qe_mark {xs : List Int} {i : Nat} (h : i < xs.length) (hc : bt xs i = 34) : qe xs i = some (i + 1) := by rw [qe_un h, if_neg (by omega), if_pos hc]
theorem qe_step {xs : List Int} {i : Nat} (h : i < xs.length) (h1 : bt xs i ≠ 92) (h2 : bt xs i ≠ 34) : qe xs i = qe xs (i + 1) := by rw [qe_un h, if_neg h1, if_neg h2]
theorem qeF_le {xs : List Int} : ∀ f i k, qeF xs f i = some k → i + 1 ≤ k ∧ k ≤ xs.length
  | 0, i, k, h => by simp [qeF] at h
  | f + 1, i, k, h => by
    unfold qeF at h
    split at h
    · simp at h
    · split at h
      · have := qeF_le f (i + 2) k h; omega
      · split at h
        · simp at h; omega
        · have := qeF_le f (i + 1) k h; omega
theorem qe_le {xs : List Int} {i k : Nat} (h : qe xs i = some k) : i + 1 ≤ k ∧ k ≤ xs.length := qeF_le _ _ _ h

/-- The signs of words. -/
def isBl (c : Int) : Bool := decide (c = 32 ∨ c = 9 ∨ c = 13 ∨ c = 10)
def letB (c : Int) : Bool := decide (97 ≤ c ∧ c ≤ 122 ∨ 65 ≤ c ∧ c ≤ 90 ∨ c = 95)
def digB (c : Int) : Bool := decide (48 ≤ c ∧ c ≤ 57)
def hexB (c : Int) : Bool := decide (0 ≤ hx c)
def namB (c : Int) : Bool := letB c || digB c
def notNl (c : Int) : Bool := decide (c ≠ 10)
def sgnB (c : Int) : Bool := decide (c = 123 ∨ c = 125 ∨ c = 91 ∨ c = 93 ∨ c = 40 ∨ c = 41 ∨ c = 60 ∨ c = 62 ∨ c = 61 ∨ c = 59 ∨ c = 44 ∨ c = 46 ∨ c = 45 ∨ c = 58 ∨ c = 63)

/-- A part of a text. -/
def cut (xs : List Int) (a b : Nat) : List Int := (xs.take b).drop a
theorem cut_length (xs : List Int) (a b : Nat) (h : b ≤ xs.length) : (cut xs a b).length = b - a := by unfold cut; simp; omega
theorem cut_bd {xs : List Int} (hb : ∀ x ∈ xs, 0 ≤ x ∧ x ≤ 255) (a b : Nat) : ∀ x ∈ cut xs a b, 0 ≤ x ∧ x ≤ 255 := fun x hx => hb x (List.mem_of_mem_take (List.mem_of_mem_drop hx))
theorem cut_snoc {xs : List Int} {a b : Nat} (h : b < xs.length) (hab : a ≤ b) : cut xs a (b + 1) = cut xs a b ++ [bt xs b] := by
  unfold cut bt
  rw [List.take_succ_eq_append_getElem h, List.drop_append_of_le_length (by simp; omega)]
  simp [h]
theorem cut_nil (xs : List Int) (a : Nat) : cut xs a a = [] := by unfold cut; apply List.drop_eq_nil_of_le; simp; omega

/-- Digits' value by a base. -/
def vlF (b : Int) : Int → List Int → Int
  | a, [] => a
  | a, c :: r => vlF b (a * b + hx c) r
theorem vlF_app (b : Int) : ∀ (l r : List Int) (a : Int), vlF b a (l ++ r) = vlF b (vlF b a l) r
  | [], _, _ => rfl
  | _ :: l, r, _ => vlF_app b l r _
def vl (b : Int) (xs : List Int) (fr k : Nat) : Int := vlF b 0 (cut xs fr k)
theorem vl_self (b : Int) (xs : List Int) (fr : Nat) : vl b xs fr fr = 0 := by unfold vl; rw [cut_nil]; rfl
theorem vl_snoc {b : Int} {xs : List Int} {fr k : Nat} (h : k < xs.length) (hk : fr ≤ k) : vl b xs fr (k + 1) = vl b xs fr k * b + hx (bt xs k) := by
  unfold vl; rw [cut_snoc h hk, vlF_app]; rfl

/-- What stands at a place: something to go over, a word, a fault. -/
inductive Tk where
  | skip (j : Nat)
  | word (kind : Int) (e : Nat) (n : Int) (b : List Int)
  | bad (code : Int)
/-- Is it a number by base 16? Where its digits begin, its base, its digits. -/
def hxA (xs : List Int) (i : Nat) : Bool := decide (bt xs i = 48 ∧ bt xs (i + 1) = 120)
def nfr (xs : List Int) (i : Nat) : Nat := if hxA xs i = true then i + 2 else i
def nbs (xs : List Int) (i : Nat) : Int := if hxA xs i = true then 16 else 10
def ndg (xs : List Int) (i : Nat) : Int → Bool := if hxA xs i = true then hexB else digB
def nen (xs : List Int) (i : Nat) : Nat := sc (ndg xs i) xs (nfr xs i)
def tokN (xs : List Int) (i : Nat) : Tk :=
  if nen xs i = nfr xs i ∨ namB (bt xs (nen xs i)) = true then .bad 11
  else if 18446744073709551616 ≤ vl (nbs xs i) xs (nfr xs i) (nen xs i) then .bad 7
  else .word 2 (nen xs i) (vl (nbs xs i) xs (nfr xs i) (nen xs i)) []
def tokQ (xs : List Int) (i : Nat) : Tk := match qe xs (i + 1) with
  | none => .bad 11
  | some k => match uq (cut xs i k) with
    | none => .bad 11
    | some b => .word 3 k 0 b
def tokC (xs : List Int) (i : Nat) : Tk :=
  if bt xs (i + 1) = 47 then .skip (sc notNl xs (i + 1))
  else if bt xs (i + 1) = 42 then (match bk xs (i + 2) with
    | none => .bad 11
    | some k => .skip k)
  else .bad 11
def tok (xs : List Int) (i : Nat) : Tk :=
  if isBl (bt xs i) = true then .skip (i + 1)
  else if bt xs i = 47 then tokC xs i
  else if letB (bt xs i) = true then .word 1 (sc namB xs (i + 1)) 0 []
  else if digB (bt xs i) = true then tokN xs i
  else if bt xs i = 34 then tokQ xs i
  else if sgnB (bt xs i) = true then .word 4 (i + 1) 0 []
  else .bad 11
/-- A word: its kind, where it begins and ends, its number, its bytes. -/
structure Wd where
  kind : Int
  st : Nat
  en : Nat
  n : Int
  b : List Int
/-- The words, or the fault and its place. -/
structure Out where
  ws : List Wd
  code : Int
  pos : Nat
def lxF (xs : List Int) : Nat → Nat → List Wd → Out
  | 0, _, acc => ⟨acc, 0, 0⟩
  | f + 1, i, acc => if xs.length ≤ i then ⟨acc ++ [⟨5, i, i, 0, []⟩], 0, 0⟩ else match tok xs i with
    | .skip j => lxF xs f j acc
    | .bad c => ⟨[], c, i⟩
    | .word k e n b => lxF xs f e (acc ++ [⟨k, i, e, n, b⟩])
def lxAt (xs : List Int) (i : Nat) (acc : List Wd) : Out := lxF xs (xs.length + 1 - i) i acc
def lx (xs : List Int) : Out := lxAt xs 0 []

/-- A token goes on, within the text. -/
def Tk.ok (xs : List Int) (i : Nat) : Tk → Prop
  | .skip j => i < j ∧ j ≤ xs.length
  | .word _ e _ _ => i < e ∧ e ≤ xs.length
  | .bad _ => True
theorem tok_ok {xs : List Int} {i : Nat} (hi : i < xs.length) : (tok xs i).ok xs i := by
  unfold tok
  split
  · exact ⟨by omega, by omega⟩
  · split
    · unfold tokC
      split
      · rename_i h2
        have h3 : i + 1 < xs.length := by
          rcases Nat.lt_or_ge (i + 1) xs.length with h | h
          · exact h
          · rw [bt_end h] at h2; omega
        have := sc_le notNl xs (i + 1)
        exact ⟨by omega, this.2 (by omega)⟩
      · split
        · split
          · trivial
          · rename_i k hk
            have := bk_le hk
            exact ⟨by omega, this.2⟩
        · trivial
    · split
      · have := sc_le namB xs (i + 1)
        exact ⟨by omega, this.2 (by omega)⟩
      · split
        · rename_i hd
          unfold tokN
          split
          · trivial
          · split
            · trivial
            · rename_i hn _
              have hne : nen xs i ≠ nfr xs i := fun h => hn (.inl h)
              have hf : nfr xs i ≤ xs.length ∧ i ≤ nfr xs i := by
                unfold nfr hxA
                split
                · rename_i h2
                  simp at h2
                  rcases Nat.lt_or_ge (i + 1) xs.length with h | h
                  · omega
                  · have := h2.2; rw [bt_end h] at this; omega
                · omega
              have := sc_le (ndg xs i) xs (nfr xs i)
              have h2 := this.2 hf.1
              unfold nen at hne ⊢
              exact ⟨by omega, h2⟩
        · split
          · unfold tokQ
            split
            · trivial
            · rename_i k hk
              have := qe_le hk
              split
              · trivial
              · exact ⟨by omega, this.2⟩
          · split
            · exact ⟨by omega, by omega⟩
            · trivial
theorem tok_skip {xs : List Int} {i j : Nat} (hi : i < xs.length) (h : tok xs i = .skip j) : i < j ∧ j ≤ xs.length := by have := tok_ok hi; rw [h] at this; exact this
theorem tok_word {xs : List Int} {i e : Nat} {k n : Int} {b : List Int} (hi : i < xs.length) (h : tok xs i = .word k e n b) : i < e ∧ e ≤ xs.length := by have := tok_ok hi; rw [h] at this; exact this
theorem lxF_fuel {xs : List Int} : ∀ f g i acc, xs.length < f + i → xs.length < g + i → i ≤ xs.length → lxF xs f i acc = lxF xs g i acc
  | 0, _, i, _, h, _, h2 => by omega
  | _, 0, i, _, _, h, h2 => by omega
  | f + 1, g + 1, i, acc, h1, h2, h3 => by
    unfold lxF
    by_cases hi : xs.length ≤ i
    · rw [if_pos hi, if_pos hi]
    · rw [if_neg hi, if_neg hi]
      cases ht : tok xs i with
      | skip j =>
        have := tok_skip (by omega) ht
        exact lxF_fuel f g j acc (by omega) (by omega) this.2
      | bad c => rfl
      | word k e n b =>
        have := tok_word (by omega) ht
        exact lxF_fuel f g e _ (by omega) (by omega) this.2
theorem lxAt_end {xs : List Int} {acc : List Wd} {i : Nat} (h : i = xs.length) : lxAt xs i acc = ⟨acc ++ [⟨5, i, i, 0, []⟩], 0, 0⟩ := by
  subst h
  unfold lxAt
  rw [show xs.length + 1 - xs.length = 0 + 1 by omega, lxF, if_pos (Nat.le_refl _)]
theorem lxAt_skip {xs : List Int} {acc : List Wd} {i j : Nat} (hi : i < xs.length) (h : tok xs i = .skip j) : lxAt xs i acc = lxAt xs j acc := by
  have := tok_skip hi h
  unfold lxAt
  rw [show xs.length + 1 - i = (xs.length - i) + 1 by omega, lxF, if_neg (by omega), h]
  exact lxF_fuel _ _ _ _ (by omega) (by omega) this.2
theorem lxAt_bad {xs : List Int} {acc : List Wd} {i : Nat} {c : Int} (hi : i < xs.length) (h : tok xs i = .bad c) : lxAt xs i acc = ⟨[], c, i⟩ := by
  unfold lxAt
  rw [show xs.length + 1 - i = (xs.length - i) + 1 by omega, lxF, if_neg (by omega), h]
theorem lxAt_word {xs : List Int} {acc : List Wd} {i e : Nat} {k n : Int} {b : List Int} (hi : i < xs.length) (h : tok xs i = .word k e n b) : lxAt xs i acc = lxAt xs e (acc ++ [⟨k, i, e, n, b⟩]) := by
  have := tok_word hi h
  unfold lxAt
  rw [show xs.length + 1 - i = (xs.length - i) + 1 by omega, lxF, if_neg (by omega), h]
  exact lxF_fuel _ _ _ _ (by omega) (by omega) this.2
end Go.Proofs.YtlkdcdmdkncjoaaDoor
