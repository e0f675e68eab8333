/-
  Plain mathematics for the layer quote: characters of UTF-8 (how wide the first one is; how many there are), quoted texts and their parts. Nothing of the program.
  The model's decoding of a string's bytes, held against the widths of chapter 2.
  Walks over the program's counting of characters: count, Valid, Runes.
  The walk over the document's counting of characters.
-/
import Derived.RowKit
import Derived.Laws.BytesArg
import Derived.Laws.RangeAny
import Derived.Test.YtcenkalhklpajaaGreatDoorCG
namespace Go.Proofs.YtcenkalhklpajaaGreatDoor
open Go.RowKit
set_option maxRecDepth 1000000

/-- n more bytes of a character whose bits so far are v: all its bits; -1, if one of them is no such byte. -/
def ctF : List Int → Nat → Int → Int
  | _, 0, v => v
  | [], _ + 1, _ => -1
  | d :: r, n + 1, v => if d < 128 ∨ 192 ≤ d then -1 else ctF r n (v * 64 + d - 128)
/-- How wide a character is that begins with c (0: none does), the bits that c gives, and the least number that is written so wide. -/
def szF (c : Int) : Nat := if c < 128 then 1 else if c < 192 then 0 else if c < 224 then 2 else if c < 240 then 3 else if c < 248 then 4 else 0
def v0F (c : Int) : Int := if c < 128 then c else if c < 224 then c - 192 else if c < 240 then c - 224 else c - 240
def lowF (c : Int) : Int := if c < 128 then 0 else if c < 224 then 128 else if c < 240 then 2048 else 65536
def okV (v low : Int) : Bool := decide (low ≤ v ∧ v ≤ 1114111 ∧ ¬ (55296 ≤ v ∧ v ≤ 57343))
/-- How wide the first character is; 0: there is none. -/
def chr : List Int → Nat
  | [] => 0
  | c :: r => if szF c = 0 then 0 else if okV (ctF r (szF c - 1) (v0F c)) (lowF c) then szF c else 0
def rnF : Nat → List Int → Int → Int
  | 0, _, n => n
  | f + 1, l, n => if l = [] then n else if chr l = 0 then -1 else rnF f (l.drop (chr l)) (n + 1)
/-- How many characters; -1: it is no UTF-8. -/
def rn (xs : List Int) : Int := rnF xs.length xs 0

theorem szF_le (c : Int) : szF c ≤ 4 := by unfold szF; (repeat' split) <;> omega
theorem chr_cons (c : Int) (r : List Int) : chr (c :: r) = if szF c = 0 then 0 else if okV (ctF r (szF c - 1) (v0F c)) (lowF c) then szF c else 0 := rfl
theorem chr_le (l : List Int) : chr l ≤ 4 := by
  cases l with
  | nil => simp [chr]
  | cons c r => rw [chr_cons]; have := szF_le c; (repeat' split) <;> omega
theorem ctF_len : ∀ (n : Nat) (r : List Int) (v : Int), 0 ≤ v → 0 ≤ ctF r n v → n ≤ r.length
  | 0, _, _, _, _ => Nat.zero_le _
  | n + 1, [], v, _, h => by simp [ctF] at h
  | n + 1, d :: r, v, hv, h => by
    unfold ctF at h
    split at h
    · omega
    · have := ctF_len n r _ (by omega) h
      simp; omega
theorem v0F_nonneg {c : Int} (h0 : 0 ≤ c) (h : szF c ≠ 0) : 0 ≤ v0F c := by
  unfold szF at h; unfold v0F
  repeat' split
  all_goals (repeat' split at h)
  all_goals omega
theorem lowF_nonneg (c : Int) : 0 ≤ lowF c := by unfold lowF; (repeat' split) <;> omega
theorem chr_len {l : List Int} (hb : ∀ x ∈ l, 0 ≤ x ∧ x ≤ 255) : chr l ≤ l.length := by
  cases l with
  | nil => simp [chr]
  | cons c r =>
    rw [chr_cons]
    split
    · simp
    · rename_i hs
      split
      · rename_i hv
        have h0 := hb c (by simp)
        have hl := lowF_nonneg c
        simp [okV] at hv
        have := ctF_len (szF c - 1) r (v0F c) (v0F_nonneg h0.1 hs) (by omega)
        simp; omega
      · simp
theorem ctF_append : ∀ (n : Nat) (r m : List Int) (v : Int), n ≤ r.length → ctF (r ++ m) n v = ctF r n v
  | 0, r, m, _, _ => by cases r <;> cases m <;> rfl
  | n + 1, [], m, v, h => by simp at h
  | n + 1, d :: r, m, v, h => by
    simp only [List.cons_append, ctF]
    split
    · rfl
    · exact ctF_append n r m _ (by simpa using h)
theorem chr_append {l m : List Int} (hb : ∀ x ∈ l, 0 ≤ x ∧ x ≤ 255) (h : chr l ≠ 0) : chr (l ++ m) = chr l := by
  cases l with
  | nil => simp [chr] at h
  | cons c r =>
    have hl := chr_len hb
    simp only [List.cons_append]
    rw [chr_cons] at h hl ⊢
    rw [chr_cons]
    split
    · rfl
    · rename_i hs
      rw [if_neg hs] at h hl
      split at h
      · rename_i hv
        rw [if_pos hv] at hl
        rw [if_pos hv, ctF_append _ _ _ _ (by simp at hl; omega), if_pos hv]
      · exact absurd rfl h
theorem rnF_add : ∀ (f : Nat) (l : List Int) (n k : Int), 0 ≤ n → 0 ≤ k → rnF f l n ≠ -1 → rnF f l (n + k) = rnF f l n + k
  | 0, _, _, _, _, _, _ => rfl
  | f + 1, l, n, k, hn, hk, h => by
    unfold rnF at h ⊢
    by_cases h1 : l = []
    · simp [h1]
    · rw [if_neg h1] at h ⊢
      rw [if_neg h1]
      by_cases h2 : chr l = 0
      · simp [h2] at h
      · rw [if_neg h2] at h ⊢
        rw [if_neg h2, show n + k + 1 = n + 1 + k by omega, rnF_add f _ (n + 1) k (by omega) hk h]
theorem rnF_nil (f : Nat) (n : Int) : rnF f [] n = n := by cases f <;> simp [rnF]
theorem rnF_fuel : ∀ (f g : Nat) (l : List Int) (n : Int), l.length ≤ f → l.length ≤ g → rnF f l n = rnF g l n
  | 0, g, l, n, h, _ => by
    have : l = [] := List.eq_nil_of_length_eq_zero (by omega)
    subst this; rw [rnF_nil, rnF_nil]
  | f + 1, 0, l, n, _, h => by
    have : l = [] := List.eq_nil_of_length_eq_zero (by omega)
    subst this; rw [rnF_nil, rnF_nil]
  | f + 1, g + 1, l, n, h, h' => by
    unfold rnF
    by_cases h1 : l = []
    · simp [h1]
    · rw [if_neg h1, if_neg h1]
      by_cases h2 : chr l = 0
      · simp [h2]
      · rw [if_neg h2, if_neg h2]
        exact rnF_fuel f g _ _ (by simp; omega) (by simp; omega)
theorem rnF_range : ∀ (f : Nat) (l : List Int) (n : Int), 0 ≤ n → rnF f l n = -1 ∨ (n ≤ rnF f l n ∧ rnF f l n ≤ n + f)
  | 0, _, n, h => .inr ⟨Int.le_refl _, by simp [rnF]⟩
  | f + 1, l, n, h => by
    unfold rnF
    by_cases h1 : l = []
    · simp [h1]; omega
    · rw [if_neg h1]
      by_cases h2 : chr l = 0
      · simp [h2]
      · rw [if_neg h2]
        rcases rnF_range f (l.drop (chr l)) (n + 1) (by omega) with h | h
        · exact .inl h
        · exact .inr ⟨by omega, by omega⟩
theorem rn_range (xs : List Int) : rn xs = -1 ∨ (0 ≤ rn xs ∧ rn xs ≤ xs.length) := by
  rcases rnF_range xs.length xs 0 (by omega) with h | h
  · exact .inl h
  · exact .inr ⟨h.1, by unfold rn; omega⟩
theorem rnF_append : ∀ (f : Nat) (l m : List Int) (n : Int), (∀ x ∈ l, 0 ≤ x ∧ x ≤ 255) → l.length ≤ f → 0 ≤ n → rnF f l n ≠ -1 → rnF (f + m.length) (l ++ m) n = rnF m.length m (rnF f l n)
  | 0, l, m, n, _, h, _, _ => by
    have : l = [] := List.eq_nil_of_length_eq_zero (by omega)
    subst this; simp [rnF]
  | f + 1, l, m, n, hb, h, hn, hv => by
    have eU : rnF (f + 1) l n = if l = [] then n else if chr l = 0 then -1 else rnF f (l.drop (chr l)) (n + 1) := rfl
    by_cases h1 : l = []
    · subst h1; rw [rnF_nil]; exact rnF_fuel _ _ _ _ (by simp) (by simp)
    · rw [eU, if_neg h1] at hv ⊢
      by_cases h2 : chr l = 0
      · simp [h2] at hv
      · rw [if_neg h2] at hv ⊢
        have hl := chr_len hb
        rw [show f + 1 + m.length = f + m.length + 1 by omega, rnF, if_neg (by simp [h1]), chr_append hb h2, if_neg h2, List.drop_append_of_le_length hl]
        exact rnF_append f _ m _ (fun x hx => hb x (List.mem_of_mem_drop hx)) (by simp; omega) (by omega) hv
/-- Valid texts one behind the other: their characters add up. -/
theorem rn_append {a b : List Int} (ha : ∀ x ∈ a, 0 ≤ x ∧ x ≤ 255) (h1 : 0 ≤ rn a) (h2 : 0 ≤ rn b) : rn (a ++ b) = rn a + rn b := by
  unfold rn at h1 h2 ⊢
  have := rnF_append a.length a b 0 ha (Nat.le_refl _) (by omega) (by omega)
  rw [List.length_append, this]
  have := rnF_add b.length b 0 (rnF a.length a 0) (by omega) h1 (by omega)
  rw [Int.zero_add] at this
  omega

/-! ### Quoted texts -/

def dg (n : Int) : Int := if n < 10 then 48 + n else 87 + n
def qp (c : Int) : List Int :=
  if c = 34 ∨ c = 92 then [92, c] else if c = 10 then [92, 110] else if c = 9 then [92, 116] else if c = 13 then [92, 114] else if c < 32 ∨ 126 < c then [92, 120, dg (c / 16), dg (c % 16)] else [c]
def qt (xs : List Int) : List Int := 34 :: (xs.flatMap qp ++ [34])
def hx (c : Int) : Int := if 48 ≤ c ∧ c ≤ 57 then c - 48 else if 97 ≤ c ∧ c ≤ 102 then c - 87 else if 65 ≤ c ∧ c ≤ 70 then c - 55 else -1
/-- The part that a text begins with: its byte and its size; size 0: it is none. -/
def dgP : List Int → Int × Nat
  | a :: b :: _ => if hx a < 0 ∨ hx b < 0 then (0, 0) else (hx a * 16 + hx b, 4)
  | _ => (0, 0)
def sgP : List Int → Int × Nat
  | [] => (0, 0)
  | d :: r => if d = 34 ∨ d = 92 then (d, 2) else if d = 110 then (10, 2) else if d = 116 then (9, 2) else if d = 114 then (13, 2) else if d = 120 then dgP r else (0, 0)
def qpart : List Int → Int × Nat
  | [] => (0, 0)
  | c :: r => if c = 34 ∨ c = 10 then (0, 0) else if c = 92 then sgP r else (c, 1)
def uqF : Nat → List Int → List Int → Option (List Int)
  | 0, _, acc => some acc
  | f + 1, l, acc => if l = [] then some acc else if (qpart l).2 = 0 then none else uqF f (l.drop (qpart l).2) (acc ++ [(qpart l).1])
def parts (xs : List Int) : List Int := (xs.drop 1).take (xs.length - 2)
/-- The bytes of a quoted text; none: it is none. -/
def uq (xs : List Int) : Option (List Int) :=
  if xs.length < 2 ∨ xs.getD 0 0 ≠ 34 ∨ xs.getD (xs.length - 1) 0 ≠ 34 then none else uqF (parts xs).length (parts xs) []

theorem qp_bd {c : Int} (h0 : 0 ≤ c) (h1 : c ≤ 255) : ∀ x ∈ qp c, 32 ≤ x ∧ x ≤ 126 := by
  unfold qp dg
  repeat' split
  all_goals simp
  all_goals omega
theorem qp_len (c : Int) : 1 ≤ (qp c).length ∧ (qp c).length ≤ 4 := by
  unfold qp
  repeat' split
  all_goals simp
theorem hx_dg {n : Int} (h0 : 0 ≤ n) (h1 : n < 16) : hx (dg n) = n := by
  unfold hx dg
  repeat' split
  all_goals omega
theorem pt_qp {c : Int} (h0 : 0 ≤ c) (h1 : c ≤ 255) (m : List Int) : qpart (qp c ++ m) = (c, (qp c).length) := by
  by_cases hq : c = 34 ∨ c = 92
  · have e : qp c = [92, c] := by unfold qp; rw [if_pos hq]
    rw [e]; simp [qpart, sgP, hq]
  by_cases hn : c = 10
  · subst hn; simp [qp, qpart, sgP]
  by_cases ht : c = 9
  · subst ht; simp [qp, qpart, sgP]
  by_cases hr : c = 13
  · subst hr; simp [qp, qpart, sgP]
  by_cases hx' : c < 32 ∨ 126 < c
  · have e : qp c = [92, 120, dg (c / 16), dg (c % 16)] := by unfold qp; rw [if_neg hq, if_neg hn, if_neg ht, if_neg hr, if_pos hx']
    rw [e]
    have e1 := hx_dg (n := c / 16) (by omega) (by omega)
    have e2 := hx_dg (n := c % 16) (by omega) (by omega)
    have e3 : dgP (dg (c / 16) :: dg (c % 16) :: m) = (c, 4) := by
      show (if hx (dg (c / 16)) < 0 ∨ hx (dg (c % 16)) < 0 then ((0 : Int), 0) else (hx (dg (c / 16)) * 16 + hx (dg (c % 16)), 4)) = (c, 4)
      rw [e1, e2, if_neg (by omega)]
      exact congrArg (·, 4) (by omega)
    simpa [qpart, sgP] using e3
  · have e : qp c = [c] := by unfold qp; rw [if_neg hq, if_neg hn, if_neg ht, if_neg hr, if_neg hx']
    rw [e]
    simp at hq
    simp [qpart, hq, hn]
theorem qt_bd {xs : List Int} (h : ∀ x ∈ xs, 0 ≤ x ∧ x ≤ 255) : ∀ x ∈ qt xs, 32 ≤ x ∧ x ≤ 126 := by
  intro x hx
  unfold qt at hx
  rcases List.mem_cons.1 hx with rfl | hx
  · omega
  rcases List.mem_append.1 hx with hx | hx
  · obtain ⟨c, hc, hx⟩ := List.mem_flatMap.1 hx
    have := h c hc
    exact qp_bd this.1 this.2 x hx
  · simp at hx; omega
theorem flat_len (xs : List Int) : xs.length ≤ (xs.flatMap qp).length ∧ (xs.flatMap qp).length ≤ 4 * xs.length := by
  induction xs with
  | nil => simp
  | cons c r ih => have := qp_len c; simp only [List.flatMap_cons, List.length_append, List.length_cons]; omega
theorem qt_len (xs : List Int) : (qt xs).length = (xs.flatMap qp).length + 2 := by simp [qt]
theorem parts_qt (xs : List Int) : parts (qt xs) = xs.flatMap qp := by
  unfold parts
  rw [qt_len]
  simp [qt]
theorem uqF_flat : ∀ (xs : List Int) (f : Nat) (acc : List Int), (∀ x ∈ xs, 0 ≤ x ∧ x ≤ 255) → (xs.flatMap qp).length ≤ f → uqF f (xs.flatMap qp) acc = some (acc ++ xs)
  | [], f, acc, _, _ => by cases f <;> simp [uqF]
  | c :: r, f, acc, hb, hf => by
    have hc := hb c (by simp)
    have hl := qp_len c
    simp only [List.flatMap_cons, List.length_append] at hf ⊢
    obtain ⟨g, rfl⟩ : ∃ g, f = g + 1 := ⟨f - 1, by omega⟩
    have hne : qp c ++ r.flatMap qp ≠ [] := fun e => by have := congrArg List.length e; rw [List.length_append] at this; simp only [List.length_nil] at this; omega
    rw [uqF, if_neg hne, pt_qp hc.1 hc.2, if_neg (by show ¬ (qp c).length = 0; omega), List.drop_left, uqF_flat r g _ (fun x hx => hb x (by simp [hx])) (by omega)]
    simp
/-- Unquoting what was quoted. -/
theorem uq_qt {xs : List Int} (h : ∀ x ∈ xs, 0 ≤ x ∧ x ≤ 255) : uq (qt xs) = some xs := by
  have h1 : (qt xs).length = (xs.flatMap qp).length + 2 := qt_len xs
  unfold uq
  have h2 : (qt xs).getD 0 0 = 34 := by simp [qt]
  have h3 : (qt xs).getD ((qt xs).length - 1) 0 = 34 := by
    rw [h1]; unfold qt
    simp
  rw [h2, h3, if_neg (by simp; omega), parts_qt, uqF_flat xs _ _ h (Nat.le_refl _)]
  rfl
end Go.Proofs.YtcenkalhklpajaaGreatDoor
namespace Go.Proofs.YtcenkalhklpajaaGreatDoor
open Go.RowKit
set_option maxRecDepth 1000000

/-- The three bytes of the character FFFD stand ahead. -/
def pre (l : List Int) : Prop := l.take 3 = [239, 191, 189]

section
variable {s : ByteArray} {pos : Nat}
theorem dec_none (h : 128 ≤ (s.get! pos).toNat) (hc : (s.get! pos).toNat < 192 ∨ 248 ≤ (s.get! pos).toNat) : Utf8.decode s pos = (65533, 1) := by
  have h1 : ¬ (s.get! pos).toNat < 128 := by omega
  have h2 : ¬ (s.get! pos).toNat / 32 = 6 := by omega
  have h3 : ¬ (s.get! pos).toNat / 16 = 14 := by omega
  have h4 : ¬ (s.get! pos).toNat / 8 = 30 := by omega
  simp only [Utf8.decode, Nat.add_zero, h1, if_false, Utf8.runeError]
  simp [h2, h3, h4]
theorem dec_two (h0 : 192 ≤ (s.get! pos).toNat) (h : (s.get! pos).toNat < 224) :
    Utf8.decode s pos = if (pos + 1 < s.size ∧ (s.get! (pos + 1)).toNat / 64 = 2) ∧ 128 ≤ (s.get! pos).toNat % 32 * 64 + (s.get! (pos + 1)).toNat % 64 then ((s.get! pos).toNat % 32 * 64 + (s.get! (pos + 1)).toNat % 64, 2) else (65533, 1) := by
  have h1 : ¬ (s.get! pos).toNat < 128 := by omega
  have h2 : (s.get! pos).toNat / 32 = 6 := by omega
  have h3 : ¬ (s.get! pos).toNat / 16 = 14 := by omega
  have h4 : ¬ (s.get! pos).toNat / 8 = 30 := by omega
  simp only [Utf8.decode, Nat.add_zero, h1, if_false, Utf8.runeError]
  by_cases k1 : pos + 1 < s.size ∧ (s.get! (pos + 1)).toNat / 64 = 2
  · simp [h2, k1]
  · simp only [k1, false_and, if_false]
    simp only [not_and] at k1
    by_cases k2 : pos + 1 < s.size
    · simp [h3, h4, k2, k1 k2]
    · simp [k2]
theorem dec_three (h0 : 224 ≤ (s.get! pos).toNat) (h : (s.get! pos).toNat < 240) :
    Utf8.decode s pos = if ((pos + 1 < s.size ∧ (s.get! (pos + 1)).toNat / 64 = 2) ∧ (pos + 2 < s.size ∧ (s.get! (pos + 2)).toNat / 64 = 2)) ∧ (2048 ≤ (s.get! pos).toNat % 16 * 4096 + (s.get! (pos + 1)).toNat % 64 * 64 + (s.get! (pos + 2)).toNat % 64 ∧ Utf8.valid ((s.get! pos).toNat % 16 * 4096 + (s.get! (pos + 1)).toNat % 64 * 64 + (s.get! (pos + 2)).toNat % 64 : Nat) = true) then ((s.get! pos).toNat % 16 * 4096 + (s.get! (pos + 1)).toNat % 64 * 64 + (s.get! (pos + 2)).toNat % 64, 3) else (65533, 1) := by
  have h1 : ¬ (s.get! pos).toNat < 128 := by omega
  have h2 : ¬ (s.get! pos).toNat / 32 = 6 := by omega
  have h3 : (s.get! pos).toNat / 16 = 14 := by omega
  have h4 : ¬ (s.get! pos).toNat / 8 = 30 := by omega
  simp only [Utf8.decode, Nat.add_zero, h1, if_false, Utf8.runeError]
  by_cases k1 : (pos + 1 < s.size ∧ (s.get! (pos + 1)).toNat / 64 = 2) ∧ (pos + 2 < s.size ∧ (s.get! (pos + 2)).toNat / 64 = 2)
  · obtain ⟨⟨a, b⟩, c, d⟩ := k1
    simp only [a, b, c, d, h3]
    simp [h2]
  · have e : ((s.get! pos).toNat / 16 == 14 && (decide (pos + 1 < s.size) && (s.get! (pos + 1)).toNat / 64 == 2) && (decide (pos + 2 < s.size) && (s.get! (pos + 2)).toNat / 64 == 2)) = false := by
      rw [Bool.eq_false_iff]
      intro hh
      simp only [Bool.and_eq_true, decide_eq_true_eq, beq_iff_eq] at hh
      exact k1 ⟨hh.1.2, hh.2⟩
    simp only [e]
    simp [h2, h4]
    intro a b c d
    exact absurd ⟨⟨a, b⟩, c, d⟩ k1
theorem dec_four (h0 : 240 ≤ (s.get! pos).toNat) (h : (s.get! pos).toNat < 248) :
    Utf8.decode s pos = if ((pos + 1 < s.size ∧ (s.get! (pos + 1)).toNat / 64 = 2) ∧ (pos + 2 < s.size ∧ (s.get! (pos + 2)).toNat / 64 = 2) ∧ (pos + 3 < s.size ∧ (s.get! (pos + 3)).toNat / 64 = 2)) ∧ (65536 ≤ (s.get! pos).toNat % 8 * 262144 + (s.get! (pos + 1)).toNat % 64 * 4096 + (s.get! (pos + 2)).toNat % 64 * 64 + (s.get! (pos + 3)).toNat % 64 ∧ Utf8.valid ((s.get! pos).toNat % 8 * 262144 + (s.get! (pos + 1)).toNat % 64 * 4096 + (s.get! (pos + 2)).toNat % 64 * 64 + (s.get! (pos + 3)).toNat % 64 : Nat) = true) then ((s.get! pos).toNat % 8 * 262144 + (s.get! (pos + 1)).toNat % 64 * 4096 + (s.get! (pos + 2)).toNat % 64 * 64 + (s.get! (pos + 3)).toNat % 64, 4) else (65533, 1) := by
  have h1 : ¬ (s.get! pos).toNat < 128 := by omega
  have h2 : ¬ (s.get! pos).toNat / 32 = 6 := by omega
  have h3 : ¬ (s.get! pos).toNat / 16 = 14 := by omega
  have h4 : (s.get! pos).toNat / 8 = 30 := by omega
  simp only [Utf8.decode, Nat.add_zero, h1, if_false, Utf8.runeError]
  by_cases k1 : (pos + 1 < s.size ∧ (s.get! (pos + 1)).toNat / 64 = 2) ∧ (pos + 2 < s.size ∧ (s.get! (pos + 2)).toNat / 64 = 2) ∧ (pos + 3 < s.size ∧ (s.get! (pos + 3)).toNat / 64 = 2)
  · obtain ⟨⟨a, b⟩, ⟨c, d⟩, e, f⟩ := k1
    simp only [a, b, c, d, e, f, h4]
    simp [h2, h3]
  · have e : ((s.get! pos).toNat / 8 == 30 && (decide (pos + 1 < s.size) && (s.get! (pos + 1)).toNat / 64 == 2) && (decide (pos + 2 < s.size) && (s.get! (pos + 2)).toNat / 64 == 2) && (decide (pos + 3 < s.size) && (s.get! (pos + 3)).toNat / 64 == 2)) = false := by
      rw [Bool.eq_false_iff]
      intro hh
      simp only [Bool.and_eq_true, decide_eq_true_eq, beq_iff_eq] at hh
      exact k1 ⟨hh.1.1.2, hh.1.2, hh.2⟩
    simp only [e]
    simp [h2, h3]
    intro a b c d e f
    exact absurd ⟨⟨a, b⟩, ⟨c, d⟩, e, f⟩ k1
end

theorem get_num {xs : List Int} (hb : ∀ x ∈ xs, 0 ≤ x ∧ x ≤ 255) (j : Nat) : (((strOfNums xs).get! j).toNat : Int) = xs.getD j 0 := by
  by_cases h : j < xs.length
  · have h' : j < (strOfNums xs).size := by rw [strOfNums_size]; exact h
    have e := get_at (strOfNums xs) j h'
    rw [Nat.add_zero] at e
    rw [e]
    have e2 : (strOfNums xs)[j]'h' = UInt8.ofNat (xs[j]).toNat := by
      show (strOfNums xs).data[j] = _
      simp [strOfNums]
    have := hb xs[j] (List.getElem_mem h)
    rw [e2]
    simp [h]
    omega
  · have e : (strOfNums xs).get! j = 0 := by
      have h' : ¬ j < (strOfNums xs).data.size := by simpa [strOfNums] using h
      simp only [ByteArray.get!]
      rw [getElem!_neg (strOfNums xs).data j h']
      rfl
    rw [e]
    simp [h]

theorem valid_nat (n : Nat) : Utf8.valid (n : Int) = true ↔ n ≤ 1114111 ∧ ¬ (55296 ≤ n ∧ n ≤ 57343) := by
  simp only [Utf8.valid, Bool.or_eq_true, Bool.and_eq_true, decide_eq_true_eq]
  omega

theorem okV_iff (v low : Int) : okV v low = true ↔ low ≤ v ∧ v ≤ 1114111 ∧ ¬ (55296 ≤ v ∧ v ≤ 57343) := by unfold okV; exact decide_eq_true_iff
theorem out_none {D : Nat × Nat} {l : List Int} {k : Nat} (hk : k = 0) (hD : D = (65533, 1)) (hp : ¬ pre l) : (k = 0 → D = (65533, 1) ∧ ¬ pre l) ∧ (k ≠ 0 → D.2 = k ∧ (D.1 = 65533 → pre l)) := ⟨fun _ => ⟨hD, hp⟩, fun h => absurd hk h⟩
theorem out_some {D : Nat × Nat} {l : List Int} {k n v : Nat} (hk : k = n) (hn : n ≠ 0) (hD : D = (v, n)) (hp : v = 65533 → pre l) : (k = 0 → D = (65533, 1) ∧ ¬ pre l) ∧ (k ≠ 0 → D.2 = k ∧ (D.1 = 65533 → pre l)) := by
  subst hk hD
  exact ⟨fun h => absurd h hn, fun _ => ⟨rfl, hp⟩⟩
/-- What ranging over a string tells at a place, by the width of the character that stands there. -/
theorem dec_chr {xs : List Int} (hb : ∀ x ∈ xs, 0 ≤ x ∧ x ≤ 255) {pos : Nat} (h : pos < xs.length) :
    (chr (xs.drop pos) = 0 → Utf8.decode (strOfNums xs) pos = (65533, 1) ∧ ¬ pre (xs.drop pos)) ∧
    (chr (xs.drop pos) ≠ 0 → (Utf8.decode (strOfNums xs) pos).2 = chr (xs.drop pos) ∧ ((Utf8.decode (strOfNums xs) pos).1 = 65533 → pre (xs.drop pos))) := by
  have g : ∀ k, (((strOfNums xs).get! (pos + k)).toNat : Int) = (xs.drop pos).getD k 0 := fun k => by rw [get_num hb]; simp
  have sz : ∀ k, pos + k < (strOfNums xs).size ↔ k < (xs.drop pos).length := fun k => by rw [strOfNums_size]; simp; omega
  have hb' : ∀ x ∈ xs.drop pos, 0 ≤ x ∧ x ≤ 255 := fun x hx => hb x (List.mem_of_mem_drop hx)
  have hne : xs.drop pos ≠ [] := by simp; omega
  generalize xs.drop pos = l at *
  have g0 := g 0; have g1 := g 1; have g2 := g 2; have g3 := g 3
  have z1 := sz 1; have z2 := sz 2; have z3 := sz 3
  clear g sz
  rw [Nat.add_zero] at g0
  obtain ⟨c, r, rfl⟩ : ∃ c r, l = c :: r := by cases l with
    | nil => exact absurd rfl hne
    | cons c r => exact ⟨c, r, rfl⟩
  have hc := hb' c (by simp)
  simp only [List.getD_cons_zero, List.getD_cons_succ] at g0 g1 g2 g3
  simp only [List.length_cons] at z1 z2 z3
  rw [chr_cons]
  by_cases c1 : c < 128
  · have hs : szF c = 1 := by simp [szF, c1]
    have e : Utf8.decode (strOfNums xs) pos = (((strOfNums xs).get! pos).toNat, 1) := by
      simp only [Utf8.decode, Nat.add_zero]
      rw [if_pos (by omega)]
    have hok : okV (ctF r (szF c - 1) (v0F c)) (lowF c) = true := by
      rw [hs, okV_iff]; simp [v0F, lowF, c1, ctF]; omega
    rw [hok, hs, e]
    exact ⟨fun h => by simp at h, fun _ => ⟨rfl, fun h => by simp at h; omega⟩⟩
  by_cases c2 : c < 192 ∨ 248 ≤ c
  · have hs : szF c = 0 := by unfold szF; (repeat' split) <;> omega
    rw [hs, dec_none (by omega) (by omega)]
    refine ⟨fun _ => ⟨rfl, fun h => ?_⟩, fun h => by simp at h⟩
    unfold pre at h
    simp at h
    omega
  by_cases c3 : c < 224
  · have hs : szF c = 2 := by unfold szF; (repeat' split) <;> omega
    have hv : v0F c = c - 192 := by simp [v0F, c1, c3]
    have hl : lowF c = 128 := by simp [lowF, c1, c3]
    have hp : ¬ pre (c :: r) := fun h => by unfold pre at h; simp at h; omega
    rw [dec_two (by omega) (by omega), hs, hv, hl]
    cases r with
    | nil =>
      have e : okV (ctF [] (2 - 1) (c - 192)) 128 = false := by simp [ctF, okV]
      exact out_none (by rw [e]; rfl) (if_neg (fun h => by have := z1.1 h.1.1; simp at this)) hp
    | cons d r =>
      have hd := hb' d (by simp)
      simp only [List.getD_cons_zero] at g1
      by_cases hbad : d < 128 ∨ 192 ≤ d
      · have e : okV (ctF (d :: r) (2 - 1) (c - 192)) 128 = false := by simp [ctF, hbad, okV]
        exact out_none (by rw [e]; rfl) (if_neg (fun h => by omega)) hp
      · have e : ctF (d :: r) (2 - 1) (c - 192) = (c - 192) * 64 + d - 128 := by simp [ctF, hbad]
        rw [e]
        have hz : pos + 1 < (strOfNums xs).size := z1.2 (by simp)
        by_cases hok : okV ((c - 192) * 64 + d - 128) 128 = true
        · have hok' := (okV_iff _ _).1 hok
          exact out_some (by rw [hok]; rfl) (by decide) (if_pos ⟨⟨hz, by omega⟩, by omega⟩) (fun h => by omega)
        · have hok' := fun h => hok ((okV_iff _ _).2 h)
          exact out_none (by rw [if_neg (by decide), if_neg hok]) (if_neg (fun h => hok' (by omega))) hp
  by_cases c4 : c < 240
  · have hs : szF c = 3 := by unfold szF; (repeat' split) <;> omega
    have hv : v0F c = c - 224 := by simp [v0F, c1, c3, c4]
    have hl : lowF c = 2048 := by simp [lowF, c1, c3, c4]
    rw [dec_three (by omega) (by omega), hs, hv, hl]
    cases r with
    | nil =>
      have hp : ¬ pre [c] := fun h => by unfold pre at h; simp at h
      have e : okV (ctF [] (3 - 1) (c - 224)) 2048 = false := by simp [ctF, okV]
      exact out_none (by rw [e]; rfl) (if_neg (fun h => by have := z1.1 h.1.1.1; simp at this)) hp
    | cons d r =>
    have hd := hb' d (by simp)
    simp only [List.getD_cons_zero, List.getD_cons_succ] at g1 g2
    by_cases hbad : d < 128 ∨ 192 ≤ d
    · have hp : ¬ pre (c :: d :: r) := fun h => by unfold pre at h; simp at h; omega
      have e : okV (ctF (d :: r) (3 - 1) (c - 224)) 2048 = false := by simp [ctF, hbad, okV]
      exact out_none (by rw [e]; rfl) (if_neg (fun h => by omega)) hp
    cases r with
    | nil =>
      have hp : ¬ pre [c, d] := fun h => by unfold pre at h; simp at h
      have e : okV (ctF [d] (3 - 1) (c - 224)) 2048 = false := by simp [ctF, hbad, okV]
      exact out_none (by rw [e]; rfl) (if_neg (fun h => by have := z2.1 h.1.2.1; simp at this)) hp
    | cons x r =>
    have hx := hb' x (by simp)
    simp only [List.getD_cons_zero] at g2
    by_cases hbx : x < 128 ∨ 192 ≤ x
    · have hp : ¬ pre (c :: d :: x :: r) := fun h => by unfold pre at h; simp at h; omega
      have e : okV (ctF (d :: x :: r) (3 - 1) (c - 224)) 2048 = false := by simp [ctF, hbad, hbx, okV]
      exact out_none (by rw [e]; rfl) (if_neg (fun h => by omega)) hp
    · have e : ctF (d :: x :: r) (3 - 1) (c - 224) = ((c - 224) * 64 + d - 128) * 64 + x - 128 := by simp [ctF, hbad, hbx]
      rw [e]
      have hz : pos + 1 < (strOfNums xs).size := z1.2 (by simp)
      have hz2 : pos + 2 < (strOfNums xs).size := z2.2 (by simp)
      by_cases hok : okV (((c - 224) * 64 + d - 128) * 64 + x - 128) 2048 = true
      · have hok' := (okV_iff _ _).1 hok
        refine out_some (by rw [hok]; rfl) (by decide) (if_pos ⟨⟨⟨hz, by omega⟩, hz2, by omega⟩, by omega, (valid_nat _).2 (by omega)⟩) (fun h => ?_)
        unfold pre
        simp
        omega
      · have hok' := fun h => hok ((okV_iff _ _).2 h)
        have hp : ¬ pre (c :: d :: x :: r) := fun h => by unfold pre at h; simp at h; exact hok' (by omega)
        exact out_none (by rw [if_neg (by decide), if_neg hok]) (if_neg (fun h => hok' (by have := (valid_nat _).1 h.2.2; omega))) hp
  · have hs : szF c = 4 := by unfold szF; (repeat' split) <;> omega
    have hv : v0F c = c - 240 := by simp [v0F, c1, c3, c4]
    have hl : lowF c = 65536 := by simp [lowF, c1, c3, c4]
    have hp : ¬ pre (c :: r) := fun h => by unfold pre at h; simp at h; omega
    rw [dec_four (by omega) (by omega), hs, hv, hl]
    cases r with
    | nil =>
      have e : okV (ctF [] (4 - 1) (c - 240)) 65536 = false := by simp [ctF, okV]
      exact out_none (by rw [e]; rfl) (if_neg (fun h => by have := z1.1 h.1.1.1; simp at this)) hp
    | cons d r =>
    have hd := hb' d (by simp)
    simp only [List.getD_cons_zero, List.getD_cons_succ] at g1 g2 g3
    by_cases hbad : d < 128 ∨ 192 ≤ d
    · have e : okV (ctF (d :: r) (4 - 1) (c - 240)) 65536 = false := by simp [ctF, hbad, okV]
      exact out_none (by rw [e]; rfl) (if_neg (fun h => by omega)) hp
    cases r with
    | nil =>
      have e : okV (ctF [d] (4 - 1) (c - 240)) 65536 = false := by simp [ctF, hbad, okV]
      exact out_none (by rw [e]; rfl) (if_neg (fun h => by have := z2.1 h.1.2.1.1; simp at this)) hp
    | cons x r =>
    have hx := hb' x (by simp)
    simp only [List.getD_cons_zero, List.getD_cons_succ] at g2 g3
    by_cases hbx : x < 128 ∨ 192 ≤ x
    · have e : okV (ctF (d :: x :: r) (4 - 1) (c - 240)) 65536 = false := by simp [ctF, hbad, hbx, okV]
      exact out_none (by rw [e]; rfl) (if_neg (fun h => by omega)) hp
    cases r with
    | nil =>
      have e : okV (ctF [d, x] (4 - 1) (c - 240)) 65536 = false := by simp [ctF, hbad, hbx, okV]
      exact out_none (by rw [e]; rfl) (if_neg (fun h => by have := z3.1 h.1.2.2.1; simp at this)) hp
    | cons y r =>
    have hy := hb' y (by simp)
    simp only [List.getD_cons_zero] at g3
    by_cases hby : y < 128 ∨ 192 ≤ y
    · have e : okV (ctF (d :: x :: y :: r) (4 - 1) (c - 240)) 65536 = false := by simp [ctF, hbad, hbx, hby, okV]
      exact out_none (by rw [e]; rfl) (if_neg (fun h => by omega)) hp
    · have e : ctF (d :: x :: y :: r) (4 - 1) (c - 240) = (((c - 240) * 64 + d - 128) * 64 + x - 128) * 64 + y - 128 := by simp [ctF, hbad, hbx, hby]
      rw [e]
      have hz : pos + 1 < (strOfNums xs).size := z1.2 (by simp)
      have hz2 : pos + 2 < (strOfNums xs).size := z2.2 (by simp)
      have hz3 : pos + 3 < (strOfNums xs).size := z3.2 (by simp)
      by_cases hok : okV ((((c - 240) * 64 + d - 128) * 64 + x - 128) * 64 + y - 128) 65536 = true
      · have hok' := (okV_iff _ _).1 hok
        exact out_some (by rw [hok]; rfl) (by decide) (if_pos ⟨⟨⟨hz, by omega⟩, ⟨hz2, by omega⟩, hz3, by omega⟩, by omega, (valid_nat _).2 (by omega)⟩) (fun h => by omega)
      · have hok' := fun h => hok ((okV_iff _ _).2 h)
        exact out_none (by rw [if_neg (by decide), if_neg hok]) (if_neg (fun h => hok' (by have := (valid_nat _).1 h.2.2; omega))) hp
end Go.Proofs.YtcenkalhklpajaaGreatDoor
namespace Go.Proofs.YtcenkalhklpajaaGreatDoor
open Go.RowKit
set_option maxRecDepth 1000000

theorem str_list (xs : List Int) : (strOfNums xs).toList = xs.map fun n => UInt8.ofNat n.toNat := by
  rw [strOfNums, ByteArray.toList_mk]
theorem str_cut (xs : List Int) (a b : Nat) : (strOfNums xs).extract a b = strOfNums ((xs.take b).drop a) := by
  apply ByteArray.ext
  apply Array.ext'
  simp [strOfNums, ByteArray.data_extract, List.map_drop, List.map_take, List.drop_take]
theorem str_eq {xs ys : List Int} (hx : ∀ x ∈ xs, 0 ≤ x ∧ x ≤ 255) (hy : ∀ x ∈ ys, 0 ≤ x ∧ x ≤ 255) : ((strOfNums xs).toList == (strOfNums ys).toList) = decide (xs = ys) := by
  by_cases h : xs = ys
  · subst h; simp
  · have : (strOfNums xs).toList ≠ (strOfNums ys).toList := fun e => h (strOfNums_inj xs ys hx hy (by
      apply ByteArray.ext; apply Array.ext'
      rw [str_list, str_list] at e
      simpa [strOfNums] using e))
    simp [h, this]

def preB (l : List Int) : Bool := decide (l.take 3 = [239, 191, 189])
theorem preB_iff (l : List Int) : preB l = true ↔ pre l := by simp [preB, pre]

theorem prefixS (l : List Int) (w : World) (hl : l.length ≤ 9223372036854775807) (hb : ∀ x ∈ l, 0 ≤ x ∧ x ≤ 255) : Calls Tryz.prog 112 #[.string (strOfNums l), .string ⟨#[239, 191, 189]⟩] w fun e w' => e = .returned (.bool (preB l)) ∧ w = w' := by
  have hs := strOfNums_size l
  have h1 : Hid ((((strOfNums l).extract 0 3).toList == [239, 191, 189]) = preB l) := by
    show _ = _
    rw [str_cut, List.drop_zero, show ([239, 191, 189] : List UInt8) = (strOfNums [239, 191, 189]).toList by rw [str_list]; rfl, str_eq (fun x hx => hb x (List.mem_of_mem_take hx)) (by simp)]
    rfl
  have h2 : Hid ((l.length : Int) < 3 → preB l = false) := fun h => by
    unfold preB
    simp
    intro e
    have := congrArg List.length e
    simp at this
    omega
  go_enter Tryz.func112, Tryz.ntmps112
  go_wp2
  · go_ret
    exact ⟨ret_bool h1.out, rfl⟩
  · go_ret
    exact ⟨ret_bool (h2.out ‹_›).symm, rfl⟩
theorem prefixW (l : List Int) (w : World) (hl : l.length ≤ 9223372036854775807) (hb : ∀ x ∈ l, 0 ≤ x ∧ x ≤ 255) : Calls Tryz.prog 93 #[.string (strOfNums l), .string ⟨#[239, 191, 189]⟩] w fun e w' => e = .returned (.bool (preB l)) ∧ w = w' := by
  go_enter Tryz.func93, Tryz.ntmps93
  go_wp2_with (go_at_call 112; refine (prefixS l _ hl hb).mono ?_; rintro e w' ⟨rfl, rfl⟩)
  go_ret
  exact ⟨rfl, rfl⟩

/-- One step of the counting. -/
theorem rn_step {xs : List Int} {pos f : Nat} {n : Int} (h : pos < xs.length) (hc : chr (xs.drop pos) ≠ 0) : rnF (f + 1) (xs.drop pos) n = rnF f (xs.drop (pos + chr (xs.drop pos))) (n + 1) := by
  rw [rnF, if_neg (by simp; omega), if_neg hc, List.drop_drop]
theorem rn_bad {xs : List Int} {pos f : Nat} {n : Int} (h : pos < xs.length) (hc : chr (xs.drop pos) = 0) : rnF (f + 1) (xs.drop pos) n = -1 := by
  rw [rnF, if_neg (by simp; omega), if_pos hc]
theorem rn_end {xs : List Int} {pos f : Nat} {n : Int} (h : ¬ pos < xs.length) : rnF f (xs.drop pos) n = n := by
  rw [List.drop_eq_nil_of_le (by omega), rnF_nil]

set_option maxRecDepth 1000000 in
set_option maxHeartbeats 1000000 in
theorem countW (a : Option Addr) (len cap : Nat) (xs : List Int) (w : World) (h : Reads w a len cap xs) :
    Calls Tryz.prog 91 #[.slice a len cap] w fun e w' => e = .returned (.tuple #[.int .i64 (max (rn xs) 0), .bool (decide (0 ≤ rn xs))]) ∧ ∃ pos, w' = w.iter (strOfNums xs) pos := by
  have hcv := conv h
  have hb := bd_mem h.bd
  have hlen := h.length
  have hmax : xs.length ≤ 9223372036854775807 := by have := h.le; have := h.max; omega
  have hsz := strOfNums_size xs
  clear h
  subst hlen
  go_enter Tryz.func91, Tryz.ntmps91
  go_wp2
  go_loopw [2] (fun n w' => ∃ (pos b : Nat) (acc : Int), w' = w.iter (strOfNums xs) pos ∧ n = .int .i64 acc ∧ 0 ≤ acc ∧ acc ≤ pos ∧ pos ≤ xs.length ∧ Hid (rnF b (xs.drop pos) acc = rn xs) ∧ xs.length ≤ pos + b) (fun _ w' => xs.length - w'.iterPos w.heap.size)
  case atStart => exact ⟨0, xs.length, 0, rfl, rfl, by omega, by omega, by omega, by rw [List.drop_zero]; rfl, by omega⟩
  case round =>
    obtain ⟨pos, b, acc, rfl, rfl, ha0, hap, hpl, HR, hbb⟩ := hrel
    by_cases hp : pos < xs.length
    · have hps : pos < (strOfNums xs).size := by rw [hsz]; exact hp
      have hnx : ∀ ty, (Instr.next (.pointer (some ⟨w.heap.size, 0, none⟩)) true ty).run Tryz.prog (w.iter (strOfNums xs) pos) = _ := fun ty => run_next_any w (strOfNums xs) pos ty hps
      obtain ⟨d1, d2⟩ := dec_chr hb hp
      have HC : Hid (chr (xs.drop pos) ≤ xs.length - pos) := hid (by
        have := chr_len (l := xs.drop pos) (fun x hx => hb x (List.mem_of_mem_drop hx))
        simpa using this)
      have hcut : (strOfNums xs).extract pos xs.length = strOfNums (xs.drop pos) := by rw [str_cut, List.take_length]
      have hdl : (xs.drop pos).length ≤ 9223372036854775807 := by simp; omega
      have hdb : ∀ x ∈ xs.drop pos, 0 ≤ x ∧ x ≤ 255 := fun x hx => hb x (List.mem_of_mem_drop hx)
      obtain ⟨b, rfl⟩ : ∃ b', b = b' + 1 := ⟨b - 1, by omega⟩
      by_cases hc : chr (xs.drop pos) = 0
      · obtain ⟨e1, e2⟩ := d1 hc
        have HM : Hid (rn xs = -1) := by show _ = _; rw [← HR.out, rn_bad hp hc]
        rw [e1] at hnx
        have hpre : preB (xs.drop pos) = false := by rw [Bool.eq_false_iff]; exact fun h => e2 ((preB_iff _).1 h)
        have Hdl := hid hdl
        have Hdb := hid hdb
        clear d1 d2 HR e1 e2 HC hdl hdb
        go_wp2_with (go_at_call 93; refine (prefixW (xs.drop pos) _ Hdl.out Hdb.out).mono ?_; rintro e w' ⟨rfl, rfl⟩)
        try rw [Exit.noGoto_ret]
        go_ret2
        exact ⟨by rw [HM.out]; rfl, _, rfl⟩
      · obtain ⟨e1, e2⟩ := d2 hc
        have HS : Hid (rnF b (xs.drop (pos + chr (xs.drop pos))) (acc + 1) = rn xs) := by show _ = _; rw [← HR.out, rn_step hp hc]
        rw [e1] at hnx
        clear d1 d2 HR e1
        by_cases hr : ((Utf8.decode (strOfNums xs) pos).1 : Int) = 65533
        · have hpre : preB (xs.drop pos) = true := (preB_iff _).2 (e2 (by omega))
          rw [hr] at hnx
          have Hdl := hid hdl
          have Hdb := hid hdb
          have Hc := hid hc
          clear e2 hr hdl hdb hc
          go_wp2_with (go_at_call 93; refine (prefixW (xs.drop pos) _ Hdl.out Hdb.out).mono ?_; rintro e w' ⟨rfl, rfl⟩)
          have := HC.out
          have := Hc.out
          exact ⟨⟨pos + chr (xs.drop pos), b, acc + 1, rfl, by go_num, by omega, by omega, by omega, HS, by omega⟩, by rw [World.iterPos_iter, World.iterPos_iter]; omega⟩
        · have hr' : (((Utf8.decode (strOfNums xs) pos).1 : Int) == 65533) = false := by simpa using hr
          have Hc := hid hc
          generalize ((Utf8.decode (strOfNums xs) pos).1 : Int) = rr at *
          clear e2 hr hdl hdb hc
          go_wp2
          have := HC.out
          have := Hc.out
          exact ⟨⟨pos + chr (xs.drop pos), b, acc + 1, rfl, by go_num, by omega, by omega, by omega, HS, by omega⟩, by rw [World.iterPos_iter, World.iterPos_iter]; omega⟩
    · have hnx : ∀ ty, (Instr.next (.pointer (some ⟨w.heap.size, 0, none⟩)) true ty).run Tryz.prog (w.iter (strOfNums xs) pos) = _ := fun ty => run_next_end w (strOfNums xs) pos ty (by rw [hsz]; exact hp)
      have HE : Hid (acc = rn xs) := by show _ = _; rw [← HR.out, rn_end hp]
      clear HR
      go_wp2
      go_ret2
      have := HE.out
      exact ⟨by subst this; simp [ha0, Int.max_eq_left ha0], _, rfl⟩

theorem validW (a : Option Addr) (len cap : Nat) (xs : List Int) (w : World) (h : Reads w a len cap xs) :
    Calls Tryz.prog 63 #[.slice a len cap] w fun e w' => e = .returned (.bool (decide (0 ≤ rn xs))) ∧ Below w.heap.size w w' := by
  have H := hid h
  clear h
  go_enter Tryz.func63, Tryz.ntmps63
  go_wp2_with (go_at_call 91; refine (countW a len cap xs _ H.out).mono ?_; rintro e w' ⟨rfl, pos, rfl⟩)
  go_ret
  exact ⟨rfl, below_alloc _⟩
end Go.Proofs.YtcenkalhklpajaaGreatDoor
namespace Go.Proofs.YtcenkalhklpajaaGreatDoor
open Go.RowKit
set_option maxRecDepth 1000000

theorem refRunesZero (a : Option Addr) (cap : Nat) (w : World) :
    Calls Tryz.prog 83 #[.slice a 0 cap] w fun e w' => e = .returned (.int .i64 0) ∧ w = w' := by
  go_enter Tryz.func83, Tryz.ntmps83
  go_wp2
  refine wp_loop_rounds 1 ?_
  rw [rounds_succ]
  go_wp2
  go_ret
  exact ⟨rfl, rfl⟩

theorem chr_at {xs : List Int} {pos : Nat} (h : pos < xs.length) : chr (xs.drop pos) = if szF (xs[pos]?.getD 0) = 0 then 0 else if okV (ctF (xs.drop (pos + 1)) (szF (xs[pos]?.getD 0) - 1) (v0F (xs[pos]?.getD 0))) (lowF (xs[pos]?.getD 0)) then szF (xs[pos]?.getD 0) else 0 := by
  rw [drop_at h, chr_cons]
theorem ct_bad {xs : List Int} {j n : Nat} {V : Int} (h : j < xs.length) (hd : xs[j]?.getD 0 < 128 ∨ 192 ≤ xs[j]?.getD 0) : ctF (xs.drop j) (n + 1) V = -1 := by
  rw [drop_at h]; simp [ctF, hd]
theorem ct_step {xs : List Int} {j n : Nat} {V : Int} (h : j < xs.length) (hd : ¬ (xs[j]?.getD 0 < 128 ∨ 192 ≤ xs[j]?.getD 0)) : ctF (xs.drop j) (n + 1) V = ctF (xs.drop (j + 1)) n (V * 64 + xs[j]?.getD 0 - 128) := by
  rw [drop_at h]; simp [ctF, hd]
theorem ct_short {xs : List Int} {j n : Nat} {V : Int} (h : xs.length < j + n) (hj : j ≤ xs.length) (hV : 0 ≤ V) : ¬ 0 ≤ ctF (xs.drop j) n V := fun hh => by
  have := ctF_len n _ V hV hh
  simp at this
  omega

section
variable {xs : List Int} {pos b sz : Nat} {acc c : Int}
/-- What a character that was read, or one that could not be read, says of the whole count. -/
theorem rn_ok (hp : pos < xs.length) (hc : xs[pos]?.getD 0 = c) (hs : szF c = sz) (h0 : sz ≠ 0) {V : Int} (hV : ctF (xs.drop (pos + 1)) (sz - 1) (v0F c) = V) (hok : okV V (lowF c) = true) (HR : rnF (b + 1) (xs.drop pos) acc = rn xs) :
    rnF b (xs.drop (pos + sz)) (acc + 1) = rn xs := by
  have e : chr (xs.drop pos) = sz := by rw [chr_at hp, hc, hs, if_neg h0, hV, hok]; rfl
  rw [← HR, rn_step hp (by rw [e]; exact h0), e]
theorem rn_no (hp : pos < xs.length) (hc : xs[pos]?.getD 0 = c) (h : szF c = 0 ∨ okV (ctF (xs.drop (pos + 1)) (szF c - 1) (v0F c)) (lowF c) = false) (HR : rnF (b + 1) (xs.drop pos) acc = rn xs) : (-1 : Int) = rn xs := by
  have e : chr (xs.drop pos) = 0 := by
    rw [chr_at hp, hc]
    by_cases h0 : szF c = 0
    · rw [if_pos h0]
    · rw [if_neg h0, h.resolve_left h0]; rfl
  rw [← HR, rn_bad hp e]
end
theorem okV_neg {v low : Int} (h0 : 0 ≤ low) (h : ¬ 0 ≤ v) : okV v low = false := by
  rw [Bool.eq_false_iff]; intro hh; have := (okV_iff _ _).1 hh; omega

set_option maxRecDepth 1000000 in
set_option maxHeartbeats 4000000 in
theorem refRunesIn (b off len cap : Nat) (xs : List Int) (w : World) (hl : xs.length = len) (_hlc : len ≤ cap) (_hm : cap ≤ 9223372036854775807) (hreach : len ≤ 140737488355328)
    (hc : ∀ i, i < len → w.cell? ⟨b, off + i, none⟩ = some (.int .u8 (xs.getD i 0))) (hr : ∀ i, 0 ≤ xs.getD i 0 ∧ xs.getD i 0 ≤ 255) :
    Calls Tryz.prog 83 #[.slice (some ⟨b, off, none⟩) len cap] w fun e w' => e = .returned (.int .i64 (rn xs)) ∧ w = w' := by
  have Hl := hid hl
  clear hl
  go_enter Tryz.func83, Tryz.ntmps83
  go_wp2
  go_loop [3, 4] (fun n i => ∃ (pos f : Nat) (acc : Int), n = .int .i64 acc ∧ i = .int .i64 pos ∧ 0 ≤ acc ∧ acc ≤ pos ∧ pos ≤ len ∧ Hid (rnF f (xs.drop pos) acc = rn xs) ∧ len ≤ pos + f) (fun _ i => len - (intOf i).toNat)
  case atStart => exact ⟨0, len, 0, rfl, rfl, by omega, by omega, by omega, by show rnF len (xs.drop 0) 0 = _; rw [List.drop_zero, ← Hl.out]; rfl, by omega⟩
  case round =>
    obtain ⟨pos, f, acc, rfl, rfl, ha0, hap, hpl, HR, hf⟩ := hrel
    by_cases hp : pos < len
    · obtain ⟨f, rfl⟩ : ∃ f', f = f' + 1 := ⟨f - 1, by omega⟩
      obtain ⟨c, hcc⟩ : ∃ c, xs[pos]?.getD 0 = c := ⟨_, rfl⟩
      have hcb : 0 ≤ c ∧ c ≤ 255 := by have := hr pos; rw [List.getD_eq_getElem?_getD, hcc] at this; exact this
      have hck : w.cell? ⟨b, off + pos, none⟩ = some (.int .u8 c) := by rw [hc pos hp, List.getD_eq_getElem?_getD, hcc]
      have Hcc := hid hcc
      have HX : Hid (pos < xs.length) := hid (by rw [Hl.out]; exact hp)
      have hb1 : c ≤ 255 := hcb.2
      have hb0 : 0 ≤ c := hcb.1
      have HC := hid hc
      have HRr := hid hr
      clear hcc hcb hc hr
      by_cases c1 : c < 128
      · have HS : Hid (rnF f (xs.drop (pos + 1)) (acc + 1) = rn xs) := hid (rn_ok (sz := 1) HX.out Hcc.out (by simp [szF, c1]) (by decide) rfl ((okV_iff _ _).2 (by simp [v0F, lowF, c1, ctF]; omega)) HR.out)
        clear HR
        go_wp2
        refine wp_loop_rounds 1 ?_
        rw [rounds_succ]
        go_wp2
        all_goals exact ⟨⟨pos + 1, f, acc + 1, by go_num, by go_num, by omega, by omega, by omega, HS, by omega⟩, by simp [intOf]; omega⟩
      by_cases c2 : c < 192
      · have HM : Hid ((-1 : Int) = rn xs) := hid (rn_no HX.out Hcc.out (.inl (by unfold szF; (repeat' split) <;> omega)) HR.out)
        clear HR
        go_wp2
        try rw [Exit.noGoto_ret]
        go_ret
        exact ⟨ret_int HM.out, rfl⟩
      by_cases c3 : c < 224
      · have hs : szF c = 2 := by unfold szF; (repeat' split) <;> omega
        have hv : v0F c = c - 192 := by unfold v0F; (repeat' split) <;> omega
        have hlw : lowF c = 128 := by unfold lowF; (repeat' split) <;> omega
        have HNo : Hid (okV (ctF (xs.drop (pos + 1)) 1 (c - 192)) 128 = false → (-1 : Int) = rn xs) := hid (fun h => rn_no HX.out Hcc.out (.inr (by rw [hs, hv, hlw]; exact h)) HR.out)
        have HYes : Hid (okV (ctF (xs.drop (pos + 1)) 1 (c - 192)) 128 = true → rnF f (xs.drop (pos + 2)) (acc + 1) = rn xs) := hid (fun h => rn_ok (sz := 2) HX.out Hcc.out hs (by decide) (by rw [hv]) (by rw [hlw]; exact h) HR.out)
        clear HR hs hv hlw
        by_cases hfit : pos + 2 ≤ len
        · go_wp2
          go_loop [7, 9] (fun v k => ∃ (j : Nat) (V : Int), 1 ≤ j ∧ j ≤ 2 ∧ 0 ≤ V ∧ V < 8388608 ∧ (j ≤ 3 → V < 131072) ∧ (j ≤ 2 → V < 2048) ∧ (j ≤ 1 → V < 32) ∧ v = .int .i64 V ∧ k = .int .i64 j ∧ Hid (ctF (xs.drop (pos + j)) (2 - j) V = ctF (xs.drop (pos + 1)) 1 (c - 192))) (fun _ k => 2 - (intOf k).toNat)
          case atStart => exact ⟨1, c - 192, by omega, by omega, by omega, by omega, by omega, by omega, by omega, by first | rfl | go_num, rfl, hid rfl⟩
          case round =>
            obtain ⟨j, V, hj1, hjs, hV0, hV4, hV3, hV2, hV1, rfl, rfl, HT⟩ := hrel
            by_cases hj : j < 2
            · obtain ⟨d, hdd⟩ : ∃ d, xs[pos + j]?.getD 0 = d := ⟨_, rfl⟩
              have hdk : w.cell? ⟨b, off + (pos + j), none⟩ = some (.int .u8 d) := by rw [HC.out (pos + j) (by omega), List.getD_eq_getElem?_getD, hdd]
              have hdb : 0 ≤ d ∧ d ≤ 255 := by have := HRr.out (pos + j); rw [List.getD_eq_getElem?_getD, hdd] at this; exact this
              have hd0 := hdb.1
              have hd1 := hdb.2
              have Hdd := hid hdd
              clear hdd hdb
              have HXj : Hid (pos + j < xs.length) := hid (by rw [Hl.out]; omega)
              obtain ⟨n, hn⟩ : ∃ n, 2 - j = n + 1 := ⟨2 - j - 1, by omega⟩
              have Hn := hid hn
              clear hn
              by_cases hbad : d < 128 ∨ 192 ≤ d
              · have HM : Hid ((-1 : Int) = rn xs) := hid (HNo.out (by rw [← HT.out, Hn.out, ct_bad HXj.out (by rw [Hdd.out]; exact hbad)]; exact okV_neg (by decide) (by decide)))
                clear HT
                rcases hbad with hbad | hbad
                all_goals
                  go_wp2
                  try rw [Exit.noGoto_ret]
                  go_ret
                  exact ⟨ret_int HM.out, rfl⟩
              · have h1 : ¬ d < 128 := fun h => hbad (.inl h)
                have h2 : ¬ 192 ≤ d := fun h => hbad (.inr h)
                have HT2 : Hid (ctF (xs.drop (pos + (j + 1))) (2 - (j + 1)) (V * 64 + d - 128) = ctF (xs.drop (pos + 1)) 1 (c - 192)) := hid (by rw [← HT.out, Hn.out, ct_step HXj.out (by rw [Hdd.out]; exact hbad), Hdd.out, show 2 - (j + 1) = n by have := Hn.out; omega]; rfl)
                clear HT hbad
                go_wp2
                exact ⟨⟨j + 1, V * 64 + d - 128, by omega, by omega, by omega, by omega, by omega, by omega, by omega, by go_num, by go_num, HT2⟩, by simp [intOf]; omega⟩
            · obtain rfl : j = 2 := by omega
              have HV : Hid (ctF (xs.drop (pos + 1)) 1 (c - 192) = V) := hid (by rw [← HT.out]; cases (xs.drop (pos + 2)) <;> rfl)
              clear HT
              by_cases hok : okV V 128 = true
              · have HS : Hid (rnF f (xs.drop (pos + 2)) (acc + 1) = rn xs) := hid (HYes.out (by rw [HV.out]; exact hok))
                have hok' := (okV_iff _ _).1 hok
                have o1 := hok'.1
                have o2 := hok'.2.1
                have o3 : V < 55296 ∨ 57343 < V := by omega
                clear hok hok'
                rcases o3 with o3 | o3
                all_goals go_wp2
                all_goals
                  exact ⟨⟨pos + 2, f, acc + 1, by go_num, by go_num, by omega, by omega, by omega, HS, by omega⟩, by simp [intOf]; omega⟩
              · have HM : Hid ((-1 : Int) = rn xs) := hid (HNo.out (by rw [HV.out]; simpa using hok))
                have hok' : V < 128 ∨ 1114111 < V ∨ (55296 ≤ V ∧ V ≤ 57343) := by
                  by_cases a1 : V < 128
                  · exact .inl a1
                  by_cases a2 : 1114111 < V
                  · exact .inr (.inl a2)
                  exact .inr (.inr (Classical.byContradiction fun a3 => hok ((okV_iff _ _).2 ⟨by omega, by omega, a3⟩)))
                clear hok
                by_cases a1 : V < 128
                · clear hok'
                  go_wp2
                  try rw [Exit.noGoto_ret]
                  go_ret
                  exact ⟨ret_int HM.out, rfl⟩
                by_cases a2 : 1114111 < V
                · clear hok'
                  go_wp2
                  try rw [Exit.noGoto_ret]
                  go_ret
                  exact ⟨ret_int HM.out, rfl⟩
                have a3 : 55296 ≤ V := by omega
                have a4 : V ≤ 57343 := by omega
                clear hok'
                go_wp2
                try rw [Exit.noGoto_ret]
                go_ret
                exact ⟨ret_int HM.out, rfl⟩
        · have HM : Hid ((-1 : Int) = rn xs) := hid (HNo.out (okV_neg (by decide) (ct_short (by rw [Hl.out]; omega) (by have := HX.out; omega) (by omega))))
          go_wp2
          try rw [Exit.noGoto_ret]
          go_ret
          exact ⟨ret_int HM.out, rfl⟩
      by_cases c4 : c < 240
      · have hs : szF c = 3 := by unfold szF; (repeat' split) <;> omega
        have hv : v0F c = c - 224 := by unfold v0F; (repeat' split) <;> omega
        have hlw : lowF c = 2048 := by unfold lowF; (repeat' split) <;> omega
        have HNo : Hid (okV (ctF (xs.drop (pos + 1)) 2 (c - 224)) 2048 = false → (-1 : Int) = rn xs) := hid (fun h => rn_no HX.out Hcc.out (.inr (by rw [hs, hv, hlw]; exact h)) HR.out)
        have HYes : Hid (okV (ctF (xs.drop (pos + 1)) 2 (c - 224)) 2048 = true → rnF f (xs.drop (pos + 3)) (acc + 1) = rn xs) := hid (fun h => rn_ok (sz := 3) HX.out Hcc.out hs (by decide) (by rw [hv]) (by rw [hlw]; exact h) HR.out)
        clear HR hs hv hlw
        by_cases hfit : pos + 3 ≤ len
        · go_wp2
          go_loop [7, 9] (fun v k => ∃ (j : Nat) (V : Int), 1 ≤ j ∧ j ≤ 3 ∧ 0 ≤ V ∧ V < 8388608 ∧ (j ≤ 3 → V < 131072) ∧ (j ≤ 2 → V < 2048) ∧ (j ≤ 1 → V < 32) ∧ v = .int .i64 V ∧ k = .int .i64 j ∧ Hid (ctF (xs.drop (pos + j)) (3 - j) V = ctF (xs.drop (pos + 1)) 2 (c - 224))) (fun _ k => 3 - (intOf k).toNat)
          case atStart => exact ⟨1, c - 224, by omega, by omega, by omega, by omega, by omega, by omega, by omega, by first | rfl | go_num, rfl, hid rfl⟩
          case round =>
            obtain ⟨j, V, hj1, hjs, hV0, hV4, hV3, hV2, hV1, rfl, rfl, HT⟩ := hrel
            by_cases hj : j < 3
            · obtain ⟨d, hdd⟩ : ∃ d, xs[pos + j]?.getD 0 = d := ⟨_, rfl⟩
              have hdk : w.cell? ⟨b, off + (pos + j), none⟩ = some (.int .u8 d) := by rw [HC.out (pos + j) (by omega), List.getD_eq_getElem?_getD, hdd]
              have hdb : 0 ≤ d ∧ d ≤ 255 := by have := HRr.out (pos + j); rw [List.getD_eq_getElem?_getD, hdd] at this; exact this
              have hd0 := hdb.1
              have hd1 := hdb.2
              have Hdd := hid hdd
              clear hdd hdb
              have HXj : Hid (pos + j < xs.length) := hid (by rw [Hl.out]; omega)
              obtain ⟨n, hn⟩ : ∃ n, 3 - j = n + 1 := ⟨3 - j - 1, by omega⟩
              have Hn := hid hn
              clear hn
              by_cases hbad : d < 128 ∨ 192 ≤ d
              · have HM : Hid ((-1 : Int) = rn xs) := hid (HNo.out (by rw [← HT.out, Hn.out, ct_bad HXj.out (by rw [Hdd.out]; exact hbad)]; exact okV_neg (by decide) (by decide)))
                clear HT
                rcases hbad with hbad | hbad
                all_goals
                  go_wp2
                  try rw [Exit.noGoto_ret]
                  go_ret
                  exact ⟨ret_int HM.out, rfl⟩
              · have h1 : ¬ d < 128 := fun h => hbad (.inl h)
                have h2 : ¬ 192 ≤ d := fun h => hbad (.inr h)
                have HT2 : Hid (ctF (xs.drop (pos + (j + 1))) (3 - (j + 1)) (V * 64 + d - 128) = ctF (xs.drop (pos + 1)) 2 (c - 224)) := hid (by rw [← HT.out, Hn.out, ct_step HXj.out (by rw [Hdd.out]; exact hbad), Hdd.out, show 3 - (j + 1) = n by have := Hn.out; omega]; rfl)
                clear HT hbad
                go_wp2
                exact ⟨⟨j + 1, V * 64 + d - 128, by omega, by omega, by omega, by omega, by omega, by omega, by omega, by go_num, by go_num, HT2⟩, by simp [intOf]; omega⟩
            · obtain rfl : j = 3 := by omega
              have HV : Hid (ctF (xs.drop (pos + 1)) 2 (c - 224) = V) := hid (by rw [← HT.out]; cases (xs.drop (pos + 3)) <;> rfl)
              clear HT
              by_cases hok : okV V 2048 = true
              · have HS : Hid (rnF f (xs.drop (pos + 3)) (acc + 1) = rn xs) := hid (HYes.out (by rw [HV.out]; exact hok))
                have hok' := (okV_iff _ _).1 hok
                have o1 := hok'.1
                have o2 := hok'.2.1
                have o3 : V < 55296 ∨ 57343 < V := by omega
                clear hok hok'
                rcases o3 with o3 | o3
                all_goals go_wp2
                all_goals
                  exact ⟨⟨pos + 3, f, acc + 1, by go_num, by go_num, by omega, by omega, by omega, HS, by omega⟩, by simp [intOf]; omega⟩
              · have HM : Hid ((-1 : Int) = rn xs) := hid (HNo.out (by rw [HV.out]; simpa using hok))
                have hok' : V < 2048 ∨ 1114111 < V ∨ (55296 ≤ V ∧ V ≤ 57343) := by
                  by_cases a1 : V < 2048
                  · exact .inl a1
                  by_cases a2 : 1114111 < V
                  · exact .inr (.inl a2)
                  exact .inr (.inr (Classical.byContradiction fun a3 => hok ((okV_iff _ _).2 ⟨by omega, by omega, a3⟩)))
                clear hok
                by_cases a1 : V < 2048
                · clear hok'
                  go_wp2
                  try rw [Exit.noGoto_ret]
                  go_ret
                  exact ⟨ret_int HM.out, rfl⟩
                by_cases a2 : 1114111 < V
                · clear hok'
                  go_wp2
                  try rw [Exit.noGoto_ret]
                  go_ret
                  exact ⟨ret_int HM.out, rfl⟩
                have a3 : 55296 ≤ V := by omega
                have a4 : V ≤ 57343 := by omega
                clear hok'
                go_wp2
                try rw [Exit.noGoto_ret]
                go_ret
                exact ⟨ret_int HM.out, rfl⟩
        · have HM : Hid ((-1 : Int) = rn xs) := hid (HNo.out (okV_neg (by decide) (ct_short (by rw [Hl.out]; omega) (by have := HX.out; omega) (by omega))))
          go_wp2
          try rw [Exit.noGoto_ret]
          go_ret
          exact ⟨ret_int HM.out, rfl⟩
      by_cases c5 : c < 248
      · have hs : szF c = 4 := by unfold szF; (repeat' split) <;> omega
        have hv : v0F c = c - 240 := by unfold v0F; (repeat' split) <;> omega
        have hlw : lowF c = 65536 := by unfold lowF; (repeat' split) <;> omega
        have HNo : Hid (okV (ctF (xs.drop (pos + 1)) 3 (c - 240)) 65536 = false → (-1 : Int) = rn xs) := hid (fun h => rn_no HX.out Hcc.out (.inr (by rw [hs, hv, hlw]; exact h)) HR.out)
        have HYes : Hid (okV (ctF (xs.drop (pos + 1)) 3 (c - 240)) 65536 = true → rnF f (xs.drop (pos + 4)) (acc + 1) = rn xs) := hid (fun h => rn_ok (sz := 4) HX.out Hcc.out hs (by decide) (by rw [hv]) (by rw [hlw]; exact h) HR.out)
        clear HR hs hv hlw
        by_cases hfit : pos + 4 ≤ len
        · go_wp2
          go_loop [7, 9] (fun v k => ∃ (j : Nat) (V : Int), 1 ≤ j ∧ j ≤ 4 ∧ 0 ≤ V ∧ V < 8388608 ∧ (j ≤ 3 → V < 131072) ∧ (j ≤ 2 → V < 2048) ∧ (j ≤ 1 → V < 32) ∧ v = .int .i64 V ∧ k = .int .i64 j ∧ Hid (ctF (xs.drop (pos + j)) (4 - j) V = ctF (xs.drop (pos + 1)) 3 (c - 240))) (fun _ k => 4 - (intOf k).toNat)
          case atStart => exact ⟨1, c - 240, by omega, by omega, by omega, by omega, by omega, by omega, by omega, by first | rfl | go_num, rfl, hid rfl⟩
          case round =>
            obtain ⟨j, V, hj1, hjs, hV0, hV4, hV3, hV2, hV1, rfl, rfl, HT⟩ := hrel
            by_cases hj : j < 4
            · obtain ⟨d, hdd⟩ : ∃ d, xs[pos + j]?.getD 0 = d := ⟨_, rfl⟩
              have hdk : w.cell? ⟨b, off + (pos + j), none⟩ = some (.int .u8 d) := by rw [HC.out (pos + j) (by omega), List.getD_eq_getElem?_getD, hdd]
              have hdb : 0 ≤ d ∧ d ≤ 255 := by have := HRr.out (pos + j); rw [List.getD_eq_getElem?_getD, hdd] at this; exact this
              have hd0 := hdb.1
              have hd1 := hdb.2
              have Hdd := hid hdd
              clear hdd hdb
              have HXj : Hid (pos + j < xs.length) := hid (by rw [Hl.out]; omega)
              obtain ⟨n, hn⟩ : ∃ n, 4 - j = n + 1 := ⟨4 - j - 1, by omega⟩
              have Hn := hid hn
              clear hn
              by_cases hbad : d < 128 ∨ 192 ≤ d
              · have HM : Hid ((-1 : Int) = rn xs) := hid (HNo.out (by rw [← HT.out, Hn.out, ct_bad HXj.out (by rw [Hdd.out]; exact hbad)]; exact okV_neg (by decide) (by decide)))
                clear HT
                rcases hbad with hbad | hbad
                all_goals
                  go_wp2
                  try rw [Exit.noGoto_ret]
                  go_ret
                  exact ⟨ret_int HM.out, rfl⟩
              · have h1 : ¬ d < 128 := fun h => hbad (.inl h)
                have h2 : ¬ 192 ≤ d := fun h => hbad (.inr h)
                have HT2 : Hid (ctF (xs.drop (pos + (j + 1))) (4 - (j + 1)) (V * 64 + d - 128) = ctF (xs.drop (pos + 1)) 3 (c - 240)) := hid (by rw [← HT.out, Hn.out, ct_step HXj.out (by rw [Hdd.out]; exact hbad), Hdd.out, show 4 - (j + 1) = n by have := Hn.out; omega]; rfl)
                clear HT hbad
                go_wp2
                exact ⟨⟨j + 1, V * 64 + d - 128, by omega, by omega, by omega, by omega, by omega, by omega, by omega, by go_num, by go_num, HT2⟩, by simp [intOf]; omega⟩
            · obtain rfl : j = 4 := by omega
              have HV : Hid (ctF (xs.drop (pos + 1)) 3 (c - 240) = V) := hid (by rw [← HT.out]; cases (xs.drop (pos + 4)) <;> rfl)
              clear HT
              by_cases hok : okV V 65536 = true
              · have HS : Hid (rnF f (xs.drop (pos + 4)) (acc + 1) = rn xs) := hid (HYes.out (by rw [HV.out]; exact hok))
                have hok' := (okV_iff _ _).1 hok
                have o1 := hok'.1
                have o2 := hok'.2.1
                have o3 : V < 55296 ∨ 57343 < V := by omega
                clear hok hok'
                rcases o3 with o3 | o3
                all_goals go_wp2
                all_goals
                  exact ⟨⟨pos + 4, f, acc + 1, by go_num, by go_num, by omega, by omega, by omega, HS, by omega⟩, by simp [intOf]; omega⟩
              · have HM : Hid ((-1 : Int) = rn xs) := hid (HNo.out (by rw [HV.out]; simpa using hok))
                have hok' : V < 65536 ∨ 1114111 < V ∨ (55296 ≤ V ∧ V ≤ 57343) := by
                  by_cases a1 : V < 65536
                  · exact .inl a1
                  by_cases a2 : 1114111 < V
                  · exact .inr (.inl a2)
                  exact .inr (.inr (Classical.byContradiction fun a3 => hok ((okV_iff _ _).2 ⟨by omega, by omega, a3⟩)))
                clear hok
                by_cases a1 : V < 65536
                · clear hok'
                  go_wp2
                  try rw [Exit.noGoto_ret]
                  go_ret
                  exact ⟨ret_int HM.out, rfl⟩
                by_cases a2 : 1114111 < V
                · clear hok'
                  go_wp2
                  try rw [Exit.noGoto_ret]
                  go_ret
                  exact ⟨ret_int HM.out, rfl⟩
                have a3 : 55296 ≤ V := by omega
                have a4 : V ≤ 57343 := by omega
                clear hok'
                go_wp2
                try rw [Exit.noGoto_ret]
                go_ret
                exact ⟨ret_int HM.out, rfl⟩
        · have HM : Hid ((-1 : Int) = rn xs) := hid (HNo.out (okV_neg (by decide) (ct_short (by rw [Hl.out]; omega) (by have := HX.out; omega) (by omega))))
          go_wp2
          try rw [Exit.noGoto_ret]
          go_ret
          exact ⟨ret_int HM.out, rfl⟩
      · have HM : Hid ((-1 : Int) = rn xs) := hid (rn_no HX.out Hcc.out (.inl (by unfold szF; (repeat' split) <;> omega)) HR.out)
        clear HR
        go_wp2
        try rw [Exit.noGoto_ret]
        go_ret
        exact ⟨ret_int HM.out, rfl⟩
    · have HE : Hid (acc = rn xs) := by show _ = _; rw [← HR.out, rn_end (by rw [Hl.out]; exact hp)]
      clear HR
      go_wp2
      go_ret
      exact ⟨ret_int HE.out, rfl⟩

/-- The document's Runes at a slice that can be read. -/
theorem refRunesR (a : Option Addr) (len cap : Nat) (xs : List Int) (w : World) (h : Reads w a len cap xs) (hreach : len ≤ 140737488355328) :
    Calls Tryz.prog 83 #[.slice a len cap] w fun e w' => e = .returned (.int .i64 (rn xs)) ∧ w = w' := by
  rcases h.cells with ⟨h0, _⟩ | ⟨b, off, rfl, hc⟩
  · subst h0
    have hx : xs = [] := List.eq_nil_of_length_eq_zero h.length
    subst hx
    exact refRunesZero a cap w
  · exact refRunesIn b off len cap xs w h.length h.le h.max hreach hc h.bd
end Go.Proofs.YtcenkalhklpajaaGreatDoor
