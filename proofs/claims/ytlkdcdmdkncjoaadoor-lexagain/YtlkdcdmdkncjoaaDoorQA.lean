/-
  Plain mathematics for the layer quote: characters of UTF-8 (how wide the first one is; how many there are), quoted texts and their parts. Nothing of the program.
-/
import Derived.RowKit
import Derived.Laws.BytesArg
namespace Go.Proofs.YtlkdcdmdkncjoaaDoor
open Go.RowKit
set_option maxRecDepth 1000000

/-- n more bytes of a character whose bits so far are v: all its bits; -1, if one of them is no such byte. -/
def ctF : List Int → Nat → Int → Int
  | _, 0, v => v
  | [], _ + 1, _ => -1
  | d :: r, n + 1, v => if d < 128 ∨ 192 ≤ d then -1 else ctF r n (v * 64 + d - 128)
/-- How wide a character is that begins with c (0: none does), the bits that c gives, and the least number that is written so wide. -/
def szF (c : Int) : Nat := if c < 128 then 1 else if c < 192 then 0 else if c < 224 then 2 else if c < 240 then 3 else if c < 248 then 4 else 0
def v0F (c : Int) : Int := if c < 128 then c else if c < 224 then c - 192 else if c < 240 then c - 224 else c - 240
def lowF (c : Int) : Int := if c < 128 then 0 else if c < 224 then 128 else if c < 240 then 2048 else 65536
def okV (v low : Int) : Bool := decide (low ≤ v ∧ v ≤ 1114111 ∧ ¬ (55296 ≤ v ∧ v ≤ 57343))
/-- How wide the first character is; 0: there is none. -/
def chr : List Int → Nat
  | [] => 0
  | c :: r => if szF c = 0 then 0 else if okV (ctF r (szF c - 1) (v0F c)) (lowF c) then szF c else 0
def rnF : Nat → List Int → Int → Int
  | 0, _, n => n
  | f + 1, l, n => if l = [] then n else if chr l = 0 then -1 else rnF f (l.drop (chr l)) (n + 1)
/-- How many characters; -1: it is no UTF-8. -/
def rn (xs : List Int) : Int := rnF xs.length xs 0

theorem szF_le (c : Int) : szF c ≤ 4 := by unfold szF; (repeat' split) <;> omega
theorem chr_cons (c : Int) (r : List Int) : chr (c :: r) = if szF c = 0 then 0 else if okV (ctF r (szF c - 1) (v0F c)) (lowF c) then szF c else 0 := rfl
theorem chr_le (l : List Int) : chr l ≤ 4 := by
  cases l with
  | nil => simp [chr]
  | cons c r => rw [chr_cons]; have := szF_le c; (repeat' split) <;> omega
theorem ctF_len : ∀ (n : Nat) (r : List Int) (v : Int), 0 ≤ v → 0 ≤ ctF r n v → n ≤ r.length
  | 0, _, _, _, _ => Nat.zero_le _
  | n + 1, [], v, _, h => by simp [ctF] at h
  | n + 1, d :: r, v, hv, h => by
    unfold ctF at h
    split at h
    · omega
    · have := ctF_len n r _ (by omega) h
      simp; omega
theorem v0F_nonneg {c : Int} (h0 : 0 ≤ c) (h : szF c ≠ 0) : 0 ≤ v0F c := by
  unfold szF at h; unfold v0F
  repeat' split
  all_goals (repeat' split at h)
  all_goals omega
theorem lowF_nonneg (c : Int) : 0 ≤ lowF c := by unfold lowF; (repeat' split) <;> omega
theorem chr_len {l : List Int} (hb : ∀ x ∈ l, 0 ≤ x ∧ x ≤ 255) : chr l ≤ l.length := by
  cases l with
  | nil => simp [chr]
  | cons c r =>
    rw [chr_cons]
    split
    · simp
    · rename_i hs
      split
      · rename_i hv
        have h0 := hb c (by simp)
        have hl := lowF_nonneg c
        simp [okV] at hv
        have := ctF_len (szF c - 1) r (v0F c) (v0F_nonneg h0.1 hs) (by omega)
        simp; omega
      · simp
theorem ctF_append : ∀ (n : Nat) (r m : List Int) (v : Int), n ≤ r.length → ctF (r ++ m) n v = ctF r n v
  | 0, r, m, _, _ => by cases r <;> cases m <;> rfl
  | n + 1, [], m, v, h => by simp at h
  | n + 1, d :: r, m, v, h => by
    simp only [List.cons_append, ctF]
    split
    · rfl
    · exact ctF_append n r m _ (by simpa using h)
theorem chr_append {l m : List Int} (hb : ∀ x ∈ l, 0 ≤ x ∧ x ≤ 255) (h : chr l ≠ 0) : chr (l ++ m) = chr l := by
  cases l with
  | nil => simp [chr] at h
  | cons c r =>
    have hl := chr_len hb
    simp only [List.cons_append]
    rw [chr_cons] at h hl ⊢
    rw [chr_cons]
    split
    · rfl
    · rename_i hs
      rw [if_neg hs] at h hl
      split at h
      · rename_i hv
        rw [if_pos hv] at hl
        rw [if_pos hv, ctF_append _ _ _ _ (by simp at hl; omega), if_pos hv]
      · exact absurd rfl h
theorem rnF_add : ∀ (f : Nat) (l : List Int) (n k : Int), 0 ≤ n → 0 ≤ k → rnF f l n ≠ -1 → rnF f l (n + k) = rnF f l n + k
  | 0, _, _, _, _, _, _ => rfl
  | f + 1, l, n, k, hn, hk, h => by
    unfold rnF at h ⊢
    by_cases h1 : l = []
    · simp [h1]
    · rw [if_neg h1] at h ⊢
      rw [if_neg h1]
      by_cases h2 : chr l = 0
      · simp [h2] at h
      · rw [if_neg h2] at h ⊢
        rw [if_neg h2, show n + k + 1 = n + 1 + k by omega, rnF_add f _ (n + 1) k (by omega) hk h]
theorem rnF_nil (f : Nat) (n : Int) : rnF f [] n = n := by cases f <;> simp [rnF]
theorem rnF_fuel : ∀ (f g : Nat) (l : List Int) (n : Int), l.length ≤ f → l.length ≤ g → rnF f l n = rnF g l n
  | 0, g, l, n, h, _ => by
    have : l = [] := List.eq_nil_of_length_eq_zero (by omega)
    subst this; rw [rnF_nil, rnF_nil]
  | f + 1, 0, l, n, _, h => by
    have : l = [] := List.eq_nil_of_length_eq_zero (by omega)
    subst this; rw [rnF_nil, rnF_nil]
  | f + 1, g + 1, l, n, h, h' => by
    unfold rnF
    by_cases h1 : l = []
    · simp [h1]
    · rw [if_neg h1, if_neg h1]
      by_cases h2 : chr l = 0
      · simp [h2]
      · rw [if_neg h2, if_neg h2]
        exact rnF_fuel f g _ _ (by simp; omega) (by simp; omega)
theorem rnF_range : ∀ (f : Nat) (l : List Int) (n : Int), 0 ≤ n → rnF f l n = -1 ∨ (n ≤ rnF f l n ∧ rnF f l n ≤ n + f)
  | 0, _, n, h => .inr ⟨Int.le_refl _, by simp [rnF]⟩
  | f + 1, l, n, h => by
    unfold rnF
    by_cases h1 : l = []
    · simp [h1]; omega
    · rw [if_neg h1]
      by_cases h2 : chr l = 0
      · simp [h2]
      · rw [if_neg h2]
        rcases rnF_range f (l.drop (chr l)) (n + 1) (by omega) with h | h
        · exact .inl h
        · exact .inr ⟨by omega, by omega⟩
theorem rn_range (xs : List Int) : rn xs = -1 ∨ (0 ≤ rn xs ∧ rn xs ≤ xs.length) := by
  rcases rnF_range xs.length xs 0 (by omega) with h | h
  · exact .inl h
  · exact .inr ⟨h.1, by unfold rn; omega⟩
theorem rnF_append : ∀ (f : Nat) (l m : List Int) (n : Int), (∀ x ∈ l, 0 ≤ x ∧ x ≤ 255) → l.length ≤ f → 0 ≤ n → rnF f l n ≠ -1 → rnF (f + m.length) (l ++ m) n = rnF m.length m (rnF f l n)
  | 0, l, m, n, _, h, _, _ => by
    have : l = [] := List.eq_nil_of_length_eq_zero (by omega)
    subst this; simp [rnF]
  | f + 1, l, m, n, hb, h, hn, hv => by
    have eU : rnF (f + 1) l n = if l = [] then n else if chr l = 0 then -1 else rnF f (l.drop (chr l)) (n + 1) := rfl
    by_cases h1 : l = []
    · subst h1; rw [rnF_nil]; exact rnF_fuel _ _ _ _ (by simp) (by simp)
    · rw [eU, if_neg h1] at hv ⊢
      by_cases h2 : chr l = 0
      · simp [h2] at hv
      · rw [if_neg h2] at hv ⊢
        have hl := chr_len hb
        rw [show f + 1 + m.length = f + m.length + 1 by omega, rnF, if_neg (by simp [h1]), chr_append hb h2, if_neg h2, List.drop_append_of_le_length hl]
        exact rnF_append f _ m _ (fun x hx => hb x (List.mem_of_mem_drop hx)) (by simp; omega) (by omega) hv
/-- Valid texts one behind the other: their characters add up. -/
theorem rn_append {a b : List Int} (ha : ∀ x ∈ a, 0 ≤ x ∧ x ≤ 255) (h1 : 0 ≤ rn a) (h2 : 0 ≤ rn b) : rn (a ++ b) = rn a + rn b := by
  unfold rn at h1 h2 ⊢
  have := rnF_append a.length a b 0 ha (Nat.le_refl _) (by omega) (by omega)
  rw [List.length_append, this]
  have := rnF_add b.length b 0 (rnF a.length a 0) (by omega) h1 (by omega)
  rw [Int.zero_add] at this
  omega

/-! ### Quoted texts -/

def dg (n : Int) : Int := if n < 10 then 48 + n else 87 + n
def qp (c : Int) : List Int :=
  if c = 34 ∨ c = 92 then [92, c] else if c = 10 then [92, 110] else if c = 9 then [92, 116] else if c = 13 then [92, 114] else if c < 32 ∨ 126 < c then [92, 120, dg (c / 16), dg (c % 16)] else [c]
def qt (xs : List Int) : List Int := 34 :: (xs.flatMap qp ++ [34])
def hx (c : Int) : Int := if 48 ≤ c ∧ c ≤ 57 then c - 48 else if 97 ≤ c ∧ c ≤ 102 then c - 87 else if 65 ≤ c ∧ c ≤ 70 then c - 55 else -1
/-- The part that a text begins with: its byte and its size; size 0: it is none. -/
def dgP : List Int → Int × Nat
  | a :: b :: _ => if hx a < 0 ∨ hx b < 0 then (0, 0) else (hx a * 16 + hx b, 4)
  | _ => (0, 0)
def sgP : List Int → Int × Nat
  | [] => (0, 0)
  | d :: r => if d = 34 ∨ d = 92 then (d, 2) else if d = 110 then (10, 2) else if d = 116 then (9, 2) else if d = 114 then (13, 2) else if d = 120 then dgP r else (0, 0)
def qpart : List Int → Int × Nat
  | [] => (0, 0)
  | c :: r => if c = 34 ∨ c = 10 then (0, 0) else if c = 92 then sgP r else (c, 1)
def uqF : Nat → List Int → List Int → Option (List Int)
  | 0, _, acc => some acc
  | f + 1, l, acc => if l = [] then some acc else if (qpart l).2 = 0 then none else uqF f (l.drop (qpart l).2) (acc ++ [(qpart l).1])
def parts (xs : List Int) : List Int := (xs.drop 1).take (xs.length - 2)
/-- The bytes of a quoted text; none: it is none. -/
def uq (xs : List Int) : Option (List Int) :=
  if xs.length < 2 ∨ xs.getD 0 0 ≠ 34 ∨ xs.getD (xs.length - 1) 0 ≠ 34 then none else uqF (parts xs).length (parts xs) []

theorem qp_bd {c : Int} (h0 : 0 ≤ c) (h1 : c ≤ 255) : ∀ x ∈ qp c, 32 ≤ x ∧ x ≤ 126 := by
  unfold qp dg
  repeat' split
  all_goals simp
  all_goals omega
theorem qp_len (c : Int) : 1 ≤ (qp c).length ∧ (qp c).length ≤ 4 := by
  unfold qp
  repeat' split
  all_goals simp
theorem hx_dg {n : Int} (h0 : 0 ≤ n) (h1 : n < 16) : hx (dg n) = n := by
  unfold hx dg
  repeat' split
  all_goals omega
theorem pt_qp {c : Int} (h0 : 0 ≤ c) (h1 : c ≤ 255) (m : List Int) : qpart (qp c ++ m) = (c, (qp c).length) := by
  by_cases hq : c = 34 ∨ c = 92
  · have e : qp c = [92, c] := by unfold qp; rw [if_pos hq]
    rw [e]; simp [qpart, sgP, hq]
  by_cases hn : c = 10
  · subst hn; simp [qp, qpart, sgP]
  by_cases ht : c = 9
  · subst ht; simp [qp, qpart, sgP]
  by_cases hr : c = 13
  · subst hr; simp [qp, qpart, sgP]
  by_cases hx' : c < 32 ∨ 126 < c
  · have e : qp c = [92, 120, dg (c / 16), dg (c % 16)] := by unfold qp; rw [if_neg hq, if_neg hn, if_neg ht, if_neg hr, if_pos hx']
    rw [e]
    have e1 := hx_dg (n := c / 16) (by omega) (by omega)
    have e2 := hx_dg (n := c % 16) (by omega) (by omega)
    have e3 : dgP (dg (c / 16) :: dg (c % 16) :: m) = (c, 4) := by
      show (if hx (dg (c / 16)) < 0 ∨ hx (dg (c % 16)) < 0 then ((0 : Int), 0) else (hx (dg (c / 16)) * 16 + hx (dg (c % 16)), 4)) = (c, 4)
      rw [e1, e2, if_neg (by omega)]
      exact congrArg (·, 4) (by omega)
    simpa [qpart, sgP] using e3
  · have e : qp c = [c] := by unfold qp; rw [if_neg hq, if_neg hn, if_neg ht, if_neg hr, if_neg hx']
    rw [e]
    simp at hq
    simp [qpart, hq, hn]
theorem qt_bd {xs : List Int} (h : ∀ x ∈ xs, 0 ≤ x ∧ x ≤ 255) : ∀ x ∈ qt xs, 32 ≤ x ∧ x ≤ 126 := by
  intro x hx
  unfold qt at hx
  rcases List.mem_cons.1 hx with rfl | hx
  · omega
  rcases List.mem_append.1 hx with hx | hx
  · obtain ⟨c, hc, hx⟩ := List.mem_flatMap.1 hx
    have := h c hc
    exact qp_bd this.1 this.2 x hx
  · simp at hx; omega
theorem flat_len (xs : List Int) : xs.length ≤ (xs.flatMap qp).length ∧ (xs.flatMap qp).length ≤ 4 * xs.length := by
  induction xs with
  | nil => simp
  | cons c r ih => have := qp_len c; simp only [List.flatMap_cons, List.length_append, List.length_cons]; omega
theorem qt_len (xs : List Int) : (qt xs).length = (xs.flatMap qp).length + 2 := by simp [qt]
theorem parts_qt (xs : List Int) : parts (qt xs) = xs.flatMap qp := by
  unfold parts
  rw [qt_len]
  simp [qt]
theorem uqF_flat : ∀ (xs : List Int) (f : Nat) (acc : List Int), (∀ x ∈ xs, 0 ≤ x ∧ x ≤ 255) → (xs.flatMap qp).length ≤ f → uqF f (xs.flatMap qp) acc = some (acc ++ xs)
  | [], f, acc, _, _ => by cases f <;> simp [uqF]
  | c :: r, f, acc, hb, hf => by
    have hc := hb c (by simp)
    have hl := qp_len c
    simp only [List.flatMap_cons, List.length_append] at hf ⊢
    obtain ⟨g, rfl⟩ : ∃ g, f = g + 1 := ⟨f - 1, by omega⟩
    have hne : qp c ++ r.flatMap qp ≠ [] := fun e => by have := congrArg List.length e; rw [List.length_append] at this; simp only [List.length_nil] at this; omega
    rw [uqF, if_neg hne, pt_qp hc.1 hc.2, if_neg (by show ¬ (qp c).length = 0; omega), List.drop_left, uqF_flat r g _ (fun x hx => hb x (by simp [hx])) (by omega)]
    simp
/-- Unquoting what was quoted. -/
theorem uq_qt {xs : List Int} (h : ∀ x ∈ xs, 0 ≤ x ∧ x ≤ 255) : uq (qt xs) = some xs := by
  have h1 : (qt xs).length = (xs.flatMap qp).length + 2 := qt_len xs
  unfold uq
  have h2 : (qt xs).getD 0 0 = 34 := by simp [qt]
  have h3 : (qt xs).getD ((qt xs).length - 1) 0 = 34 := by
    rw [h1]; unfold qt
    simp
  rw [h2, h3, if_neg (by simp; omega), parts_qt, uqF_flat xs _ _ h (Nat.le_refl _)]
  rfl
end Go.Proofs.YtlkdcdmdkncjoaaDoor
