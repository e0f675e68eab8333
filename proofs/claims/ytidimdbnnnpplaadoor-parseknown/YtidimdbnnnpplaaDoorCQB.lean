/-
  The model's decoding of a string's bytes, held against the widths of chapter 2.
  Walks over the program's counting of characters: count, Valid, Runes.
  Walks over quoting, the program's.
  Walks over the program's Quote.
  Walks over the document's Quote.
  Walks over the program's reading of a part of a quoted text: digit, getDigits, getSign, getPart.
  Walks over the program's Unquote.
  The program's Unquote at every string.
-/
import Derived.Test.YtidimdbnnnpplaaDoorCG
import Derived.Laws.RangeAny
import Derived.Deep.RegionLaw
namespace Go.Proofs.YtidimdbnnnpplaaDoor
open Go.RowKit
set_option maxRecDepth 1000000

/-- The three bytes of the character FFFD stand ahead. -/
def pre (l : List Int) : Prop := l.take 3 = [239, 191, 189]

section
variable {s : ByteArray} {pos : Nat}
theorem dec_none (h : 128 ≤ (s.get! pos).toNat) (hc : (s.get! pos).toNat < 192 ∨ 248 ≤ (s.get! pos).toNat) : Utf8.decode s pos = (65533, 1) := by
  have h1 : ¬ (s.get! pos).toNat < 128 := by omega
  have h2 : ¬ (s.get! pos).toNat / 32 = 6 := by omega
  have h3 : ¬ (s.get! pos).toNat / 16 = 14 := by omega
  have h4 : ¬ (s.get! pos).toNat / 8 = 30 := by omega
  simp only [Utf8.decode, Nat.add_zero, h1, if_false, Utf8.runeError]
  simp [h2, h3, h4]
theorem dec_two (h0 : 192 ≤ (s.get! pos).toNat) (h : (s.get! pos).toNat < 224) :
    Utf8.decode s pos = if (pos + 1 < s.size ∧ (s.get! (pos + 1)).toNat / 64 = 2) ∧ 128 ≤ (s.get! pos).toNat % 32 * 64 + (s.get! (pos + 1)).toNat % 64 then ((s.get! pos).toNat % 32 * 64 + (s.get! (pos + 1)).toNat % 64, 2) else (65533, 1) := by
  have h1 : ¬ (s.get! pos).toNat < 128 := by omega
  have h2 : (s.get! pos).toNat / 32 = 6 := by omega
  have h3 : ¬ (s.get! pos).toNat / 16 = 14 := by omega
  have h4 : ¬ (s.get! pos).toNat / 8 = 30 := by omega
  simp only [Utf8.decode, Nat.add_zero, h1, if_false, Utf8.runeError]
  by_cases k1 : pos + 1 < s.size ∧ (s.get! (pos + 1)).toNat / 64 = 2
  · simp [h2, k1]
  · simp only [k1, false_and, if_false]
    simp only [not_and] at k1
    by_cases k2 : pos + 1 < s.size
    · simp [h3, h4, k2, k1 k2]
    · simp [k2]
theorem dec_three (h0 : 224 ≤ (s.get! pos).toNat) (h : (s.get! pos).toNat < 240) :
    Utf8.decode s pos = if ((pos + 1 < s.size ∧ (s.get! (pos + 1)).toNat / 64 = 2) ∧ (pos + 2 < s.size ∧ (s.get! (pos + 2)).toNat / 64 = 2)) ∧ (2048 ≤ (s.get! pos).toNat % 16 * 4096 + (s.get! (pos + 1)).toNat % 64 * 64 + (s.get! (pos + 2)).toNat % 64 ∧ Utf8.valid ((s.get! pos).toNat % 16 * 4096 + (s.get! (pos + 1)).toNat % 64 * 64 + (s.get! (pos + 2)).toNat % 64 : Nat) = true) then ((s.get! pos).toNat % 16 * 4096 + (s.get! (pos + 1)).toNat % 64 * 64 + (s.get! (pos + 2)).toNat % 64, 3) else (65533, 1) := by
  have h1 : ¬ (s.get! pos).toNat < 128 := by omega
  have h2 : ¬ (s.get! pos).toNat / 32 = 6 := by omega
  have h3 : (s.get! pos).toNat / 16 = 14 := by omega
  have h4 : ¬ (s.get! pos).toNat / 8 = 30 := by omega
  simp only [Utf8.decode, Nat.add_zero, h1, if_false, Utf8.runeError]
  by_cases k1 : (pos + 1 < s.size ∧ (s.get! (pos + 1)).toNat / 64 = 2) ∧ (pos + 2 < s.size ∧ (s.get! (pos + 2)).toNat / 64 = 2)
  · obtain ⟨⟨a, b⟩, c, d⟩ := k1
    simp only [a, b, c, d, h3]
    simp [h2]
  · have e : ((s.get! pos).toNat / 16 == 14 && (decide (pos + 1 < s.size) && (s.get! (pos + 1)).toNat / 64 == 2) && (decide (pos + 2 < s.size) && (s.get! (pos + 2)).toNat / 64 == 2)) = false := by
      rw [Bool.eq_false_iff]
      intro hh
      simp only [Bool.and_eq_true, decide_eq_true_eq, beq_iff_eq] at hh
      exact k1 ⟨hh.1.2, hh.2⟩
    simp only [e]
    simp [h2, h4]
    intro a b c d
    exact absurd ⟨⟨a, b⟩, c, d⟩ k1
theorem dec_four (h0 : 240 ≤ (s.get! pos).toNat) (h : (s.get! pos).toNat < 248) :
    Utf8.decode s pos = if ((pos + 1 < s.size ∧ (s.get! (pos + 1)).toNat / 64 = 2) ∧ (pos + 2 < s.size ∧ (s.get! (pos + 2)).toNat / 64 = 2) ∧ (pos + 3 < s.size ∧ (s.get! (pos + 3)).toNat / 64 = 2)) ∧ (65536 ≤ (s.get! pos).toNat % 8 * 262144 + (s.get! (pos + 1)).toNat % 64 * 4096 + (s.get! (pos + 2)).toNat % 64 * 64 + (s.get! (pos + 3)).toNat % 64 ∧ Utf8.valid ((s.get! pos).toNat % 8 * 262144 + (s.get! (pos + 1)).toNat % 64 * 4096 + (s.get! (pos + 2)).toNat % 64 * 64 + (s.get! (pos + 3)).toNat % 64 : Nat) = true) then ((s.get! pos).toNat % 8 * 262144 + (s.get! (pos + 1)).toNat % 64 * 4096 + (s.get! (pos + 2)).toNat % 64 * 64 + (s.get! (pos + 3)).toNat % 64, 4) else (65533, 1) := by
  have h1 : ¬ (s.get! pos).toNat < 128 := by omega
  have h2 : ¬ (s.get! pos).toNat / 32 = 6 := by omega
  have h3 : ¬ (s.get! pos).toNat / 16 = 14 := by omega
  have h4 : (s.get! pos).toNat / 8 = 30 := by omega
  simp only [Utf8.decode, Nat.add_zero, h1, if_false, Utf8.runeError]
  by_cases k1 : (pos + 1 < s.size ∧ (s.get! (pos + 1)).toNat / 64 = 2) ∧ (pos + 2 < s.size ∧ (s.get! (pos + 2)).toNat / 64 = 2) ∧ (pos + 3 < s.size ∧ (s.get! (pos + 3)).toNat / 64 = 2)
  · obtain ⟨⟨a, b⟩, ⟨c, d⟩, e, f⟩ := k1
    simp only [a, b, c, d, e, f, h4]
    simp [h2, h3]
  · have e : ((s.get! pos).toNat / 8 == 30 && (decide (pos + 1 < s.size) && (s.get! (pos + 1)).toNat / 64 == 2) && (decide (pos + 2 < s.size) && (s.get! (pos + 2)).toNat / 64 == 2) && (decide (pos + 3 < s.size) && (s.get! (pos + 3)).toNat / 64 == 2)) = false := by
      rw [Bool.eq_false_iff]
      intro hh
      simp only [Bool.and_eq_true, decide_eq_true_eq, beq_iff_eq] at hh
      exact k1 ⟨hh.1.1.2, hh.1.2, hh.2⟩
    simp only [e]
    simp [h2, h3]
    intro a b c d e f
    exact absurd ⟨⟨a, b⟩, ⟨c, d⟩, e, f⟩ k1
end

theorem get_num {xs : List Int} (hb : ∀ x ∈ xs, 0 ≤ x ∧ x ≤ 255) (j : Nat) : (((strOfNums xs).get! j).toNat : Int) = xs.getD j 0 := by
  by_cases h : j < xs.length
  · have h' : j < (strOfNums xs).size := by rw [strOfNums_size]; exact h
    have e := get_at (strOfNums xs) j h'
    rw [Nat.add_zero] at e
    rw [e]
    have e2 : (strOfNums xs)[j]'h' = UInt8.ofNat (xs[j]).toNat := by
      show (strOfNums xs).data[j] = _
      simp [strOfNums]
    have := hb xs[j] (List.getElem_mem h)
    rw [e2]
    simp [h]
    omega
  · have e : (strOfNums xs).get! j = 0 := by
      have h' : ¬ j < (strOfNums xs).data.size := by simpa [strOfNums] using h
      simp only [ByteArray.get!]
      rw [getElem!_neg (strOfNums xs).data j h']
      rfl
    rw [e]
    simp [h]

theorem valid_nat (n : Nat) : Utf8.valid (n : Int) = true ↔ n ≤ 1114111 ∧ ¬ (55296 ≤ n ∧ n ≤ 57343) := by
  simp only [Utf8.valid, Bool.or_eq_true, Bool.and_eq_true, decide_eq_true_eq]
  omega

theorem okV_iff (v low : Int) : okV v low = true ↔ low ≤ v ∧ v ≤ 1114111 ∧ ¬ (55296 ≤ v ∧ v ≤ 57343) := by unfold okV; exact decide_eq_true_iff
theorem out_none {D : Nat × Nat} {l : List Int} {k : Nat} (hk : k = 0) (hD : D = (65533, 1)) (hp : ¬ pre l) : (k = 0 → D = (65533, 1) ∧ ¬ pre l) ∧ (k ≠ 0 → D.2 = k ∧ (D.1 = 65533 → pre l)) := ⟨fun _ => ⟨hD, hp⟩, fun h => absurd hk h⟩
theorem out_some {D : Nat × Nat} {l : List Int} {k n v : Nat} (hk : k = n) (hn : n ≠ 0) (hD : D = (v, n)) (hp : v = 65533 → pre l) : (k = 0 → D = (65533, 1) ∧ ¬ pre l) ∧ (k ≠ 0 → D.2 = k ∧ (D.1 = 65533 → pre l)) := by
  subst hk hD
  exact ⟨fun h => absurd h hn, fun _ => ⟨rfl, hp⟩⟩
/-- What ranging over a string tells at a place, by the width of the character that stands there. -/
theorem dec_chr {xs : List Int} (hb : ∀ x ∈ xs, 0 ≤ x ∧ x ≤ 255) {pos : Nat} (h : pos < xs.length) :
    (chr (xs.drop pos) = 0 → Utf8.decode (strOfNums xs) pos = (65533, 1) ∧ ¬ pre (xs.drop pos)) ∧
    (chr (xs.drop pos) ≠ 0 → (Utf8.decode (strOfNums xs) pos).2 = chr (xs.drop pos) ∧ ((Utf8.decode (strOfNums xs) pos).1 = 65533 → pre (xs.drop pos))) := by
  have g : ∀ k, (((strOfNums xs).get! (pos + k)).toNat : Int) = (xs.drop pos).getD k 0 := fun k => by rw [get_num hb]; simp
  have sz : ∀ k, pos + k < (strOfNums xs).size ↔ k < (xs.drop pos).length := fun k => by rw [strOfNums_size]; simp; omega
  have hb' : ∀ x ∈ xs.drop pos, 0 ≤ x ∧ x ≤ 255 := fun x hx => hb x (List.mem_of_mem_drop hx)
  have hne : xs.drop pos ≠ [] := by simp; omega
  generalize xs.drop pos = l at *
  have g0 := g 0; have g1 := g 1; have g2 := g 2; have g3 := g 3
  have z1 := sz 1; have z2 := sz 2; have z3 := sz 3
  clear g sz
  rw [Nat.add_zero] at g0
  obtain ⟨c, r, rfl⟩ : ∃ c r, l = c :: r := by cases l with
    | nil => exact absurd rfl hne
    | cons c r => exact ⟨c, r, rfl⟩
  have hc := hb' c (by simp)
  simp only [List.getD_cons_zero, List.getD_cons_succ] at g0 g1 g2 g3
  simp only [List.length_cons] at z1 z2 z3
  rw [chr_cons]
  by_cases c1 : c < 128
  · have hs : szF c = 1 := by simp [szF, c1]
    have e : Utf8.decode (strOfNums xs) pos = (((strOfNums xs).get! pos).toNat, 1) := by
      simp only [Utf8.decode, Nat.add_zero]
      rw [if_pos (by omega)]
    have hok : okV (ctF r (szF c - 1) (v0F c)) (lowF c) = true := by
      rw [hs, okV_iff]; simp [v0F, lowF, c1, ctF]; omega
    rw [hok, hs, e]
    exact ⟨fun h => by simp at h, fun _ => ⟨rfl, fun h => by simp at h; omega⟩⟩
  by_cases c2 : c < 192 ∨ 248 ≤ c
  · have hs : szF c = 0 := by unfold szF; (repeat' split) <;> omega
    rw [hs, dec_none (by omega) (by omega)]
    refine ⟨fun _ => ⟨rfl, fun h => ?_⟩, fun h => by simp at h⟩
    unfold pre at h
    simp at h
    omega
  by_cases c3 : c < 224
  · have hs : szF c = 2 := by unfold szF; (repeat' split) <;> omega
    have hv : v0F c = c - 192 := by simp [v0F, c1, c3]
    have hl : lowF c = 128 := by simp [lowF, c1, c3]
    have hp : ¬ pre (c :: r) := fun h => by unfold pre at h; simp at h; omega
    rw [dec_two (by omega) (by omega), hs, hv, hl]
    cases r with
    | nil =>
      have e : okV (ctF [] (2 - 1) (c - 192)) 128 = false := by simp [ctF, okV]
      exact out_none (by rw [e]; rfl) (if_neg (fun h => by have := z1.1 h.1.1; simp at this)) hp
    | cons d r =>
      have hd := hb' d (by simp)
      simp only [List.getD_cons_zero] at g1
      by_cases hbad : d < 128 ∨ 192 ≤ d
      · have e : okV (ctF (d :: r) (2 - 1) (c - 192)) 128 = false := by simp [ctF, hbad, okV]
        exact out_none (by rw [e]; rfl) (if_neg (fun h => by omega)) hp
      · have e : ctF (d :: r) (2 - 1) (c - 192) = (c - 192) * 64 + d - 128 := by simp [ctF, hbad]
        rw [e]
        have hz : pos + 1 < (strOfNums xs).size := z1.2 (by simp)
        by_cases hok : okV ((c - 192) * 64 + d - 128) 128 = true
        · have hok' := (okV_iff _ _).1 hok
          exact out_some (by rw [hok]; rfl) (by decide) (if_pos ⟨⟨hz, by omega⟩, by omega⟩) (fun h => by omega)
        · have hok' := fun h => hok ((okV_iff _ _).2 h)
          exact out_none (by rw [if_neg (by decide), if_neg hok]) (if_neg (fun h => hok' (by omega))) hp
  by_cases c4 : c < 240
  · have hs : szF c = 3 := by unfold szF; (repeat' split) <;> omega
    have hv : v0F c = c - 224 := by simp [v0F, c1, c3, c4]
    have hl : lowF c = 2048 := by simp [lowF, c1, c3, c4]
    rw [dec_three (by omega) (by omega), hs, hv, hl]
    cases r with
    | nil =>
      have hp : ¬ pre [c] := fun h => by unfold pre at h; simp at h
      have e : okV (ctF [] (3 - 1) (c - 224)) 2048 = false := by simp [ctF, okV]
      exact out_none (by rw [e]; rfl) (if_neg (fun h => by have := z1.1 h.1.1.1; simp at this)) hp
    | cons d r =>
    have hd := hb' d (by simp)
    simp only [List.getD_cons_zero, List.getD_cons_succ] at g1 g2
    by_cases hbad : d < 128 ∨ 192 ≤ d
    · have hp : ¬ pre (c :: d :: r) := fun h => by unfold pre at h; simp at h; omega
      have e : okV (ctF (d :: r) (3 - 1) (c - 224)) 2048 = false := by simp [ctF, hbad, okV]
      exact out_none (by rw [e]; rfl) (if_neg (fun h => by omega)) hp
    cases r with
    | nil =>
      have hp : ¬ pre [c, d] := fun h => by unfold pre at h; simp at h
      have e : okV (ctF [d] (3 - 1) (c - 224)) 2048 = false := by simp [ctF, hbad, okV]
      exact out_none (by rw [e]; rfl) (if_neg (fun h => by have := z2.1 h.1.2.1; simp at this)) hp
    | cons x r =>
    have hx := hb' x (by simp)
    simp only [List.getD_cons_zero] at g2
    by_cases hbx : x < 128 ∨ 192 ≤ x
    · have hp : ¬ pre (c :: d :: x :: r) := fun h => by unfold pre at h; simp at h; omega
      have e : okV (ctF (d :: x :: r) (3 - 1) (c - 224)) 2048 = false := by simp [ctF, hbad, hbx, okV]
      exact out_none (by rw [e]; rfl) (if_neg (fun h => by omega)) hp
    · have e : ctF (d :: x :: r) (3 - 1) (c - 224) = ((c - 224) * 64 + d - 128) * 64 + x - 128 := by simp [ctF, hbad, hbx]
      rw [e]
      have hz : pos + 1 < (strOfNums xs).size := z1.2 (by simp)
      have hz2 : pos + 2 < (strOfNums xs).size := z2.2 (by simp)
      by_cases hok : okV (((c - 224) * 64 + d - 128) * 64 + x - 128) 2048 = true
      · have hok' := (okV_iff _ _).1 hok
        refine out_some (by rw [hok]; rfl) (by decide) (if_pos ⟨⟨⟨hz, by omega⟩, hz2, by omega⟩, by omega, (valid_nat _).2 (by omega)⟩) (fun h => ?_)
        unfold pre
        simp
        omega
      · have hok' := fun h => hok ((okV_iff _ _).2 h)
        have hp : ¬ pre (c :: d :: x :: r) := fun h => by unfold pre at h; simp at h; exact hok' (by omega)
        exact out_none (by rw [if_neg (by decide), if_neg hok]) (if_neg (fun h => hok' (by have := (valid_nat _).1 h.2.2; omega))) hp
  · have hs : szF c = 4 := by unfold szF; (repeat' split) <;> omega
    have hv : v0F c = c - 240 := by simp [v0F, c1, c3, c4]
    have hl : lowF c = 65536 := by simp [lowF, c1, c3, c4]
    have hp : ¬ pre (c :: r) := fun h => by unfold pre at h; simp at h; omega
    rw [dec_four (by omega) (by omega), hs, hv, hl]
    cases r with
    | nil =>
      have e : okV (ctF [] (4 - 1) (c - 240)) 65536 = false := by simp [ctF, okV]
      exact out_none (by rw [e]; rfl) (if_neg (fun h => by have := z1.1 h.1.1.1; simp at this)) hp
    | cons d r =>
    have hd := hb' d (by simp)
    simp only [List.getD_cons_zero, List.getD_cons_succ] at g1 g2 g3
    by_cases hbad : d < 128 ∨ 192 ≤ d
    · have e : okV (ctF (d :: r) (4 - 1) (c - 240)) 65536 = false := by simp [ctF, hbad, okV]
      exact out_none (by rw [e]; rfl) (if_neg (fun h => by omega)) hp
    cases r with
    | nil =>
      have e : okV (ctF [d] (4 - 1) (c - 240)) 65536 = false := by simp [ctF, hbad, okV]
      exact out_none (by rw [e]; rfl) (if_neg (fun h => by have := z2.1 h.1.2.1.1; simp at this)) hp
    | cons x r =>
    have hx := hb' x (by simp)
    simp only [List.getD_cons_zero, List.getD_cons_succ] at g2 g3
    by_cases hbx : x < 128 ∨ 192 ≤ x
    · have e : okV (ctF (d :: x :: r) (4 - 1) (c - 240)) 65536 = false := by simp [ctF, hbad, hbx, okV]
      exact out_none (by rw [e]; rfl) (if_neg (fun h => by omega)) hp
    cases r with
    | nil =>
      have e : okV (ctF [d, x] (4 - 1) (c - 240)) 65536 = false := by simp [ctF, hbad, hbx, okV]
      exact out_none (by rw [e]; rfl) (if_neg (fun h => by have := z3.1 h.1.2.2.1; simp at this)) hp
    | cons y r =>
    have hy := hb' y (by simp)
    simp only [List.getD_cons_zero] at g3
    by_cases hby : y < 128 ∨ 192 ≤ y
    · have e : okV (ctF (d :: x :: y :: r) (4 - 1) (c - 240)) 65536 = false := by simp [ctF, hbad, hbx, hby, okV]
      exact out_none (by rw [e]; rfl) (if_neg (fun h => by omega)) hp
    · have e : ctF (d :: x :: y :: r) (4 - 1) (c - 240) = (((c - 240) * 64 + d - 128) * 64 + x - 128) * 64 + y - 128 := by simp [ctF, hbad, hbx, hby]
      rw [e]
      have hz : pos + 1 < (strOfNums xs).size := z1.2 (by simp)
      have hz2 : pos + 2 < (strOfNums xs).size := z2.2 (by simp)
      have hz3 : pos + 3 < (strOfNums xs).size := z3.2 (by simp)
      by_cases hok : okV ((((c - 240) * 64 + d - 128) * 64 + x - 128) * 64 + y - 128) 65536 = true
      · have hok' := (okV_iff _ _).1 hok
        exact out_some (by rw [hok]; rfl) (by decide) (if_pos ⟨⟨⟨hz, by omega⟩, ⟨hz2, by omega⟩, hz3, by omega⟩, by omega, (valid_nat _).2 (by omega)⟩) (fun h => by omega)
      · have hok' := fun h => hok ((okV_iff _ _).2 h)
        exact out_none (by rw [if_neg (by decide), if_neg hok]) (if_neg (fun h => hok' (by have := (valid_nat _).1 h.2.2; omega))) hp
end Go.Proofs.YtidimdbnnnpplaaDoor
namespace Go.Proofs.YtidimdbnnnpplaaDoor
open Go.RowKit
set_option maxRecDepth 1000000

theorem str_list (xs : List Int) : (strOfNums xs).toList = xs.map fun n => UInt8.ofNat n.toNat := by
  rw [strOfNums, ByteArray.toList_mk]
theorem str_cut (xs : List Int) (a b : Nat) : (strOfNums xs).extract a b = strOfNums ((xs.take b).drop a) := by
  apply ByteArray.ext
  apply Array.ext'
  simp [strOfNums, ByteArray.data_extract, List.map_drop, List.map_take, List.drop_take]
theorem str_eq {xs ys : List Int} (hx : ∀ x ∈ xs, 0 ≤ x ∧ x ≤ 255) (hy : ∀ x ∈ ys, 0 ≤ x ∧ x ≤ 255) : ((strOfNums xs).toList == (strOfNums ys).toList) = decide (xs = ys) := by
  by_cases h : xs = ys
  · subst h; simp
  · have : (strOfNums xs).toList ≠ (strOfNums ys).toList := fun e => h (strOfNums_inj xs ys hx hy (by
      apply ByteArray.ext; apply Array.ext'
      rw [str_list, str_list] at e
      simpa [strOfNums] using e))
    simp [h, this]

def preB (l : List Int) : Bool := decide (l.take 3 = [239, 191, 189])
theorem preB_iff (l : List Int) : preB l = true ↔ pre l := by simp [preB, pre]

theorem prefixS (l : List Int) (w : World) (hl : l.length ≤ 9223372036854775807) (hb : ∀ x ∈ l, 0 ≤ x ∧ x ≤ 255) : Calls Tryd.prog 50 #[.string (strOfNums l), .string ⟨#[239, 191, 189]⟩] w fun e w' => e = .returned (.bool (preB l)) ∧ w = w' := by
  have hs := strOfNums_size l
  have h1 : Hid ((((strOfNums l).extract 0 3).toList == [239, 191, 189]) = preB l) := by
    show _ = _
    rw [str_cut, List.drop_zero, show ([239, 191, 189] : List UInt8) = (strOfNums [239, 191, 189]).toList by rw [str_list]; rfl, str_eq (fun x hx => hb x (List.mem_of_mem_take hx)) (by simp)]
    rfl
  have h2 : Hid ((l.length : Int) < 3 → preB l = false) := fun h => by
    unfold preB
    simp
    intro e
    have := congrArg List.length e
    simp at this
    omega
  go_enter Tryd.func50, Tryd.ntmps50
  go_wp2
  · go_ret
    exact ⟨ret_bool h1.out, rfl⟩
  · go_ret
    exact ⟨ret_bool (h2.out ‹_›).symm, rfl⟩
theorem prefixW (l : List Int) (w : World) (hl : l.length ≤ 9223372036854775807) (hb : ∀ x ∈ l, 0 ≤ x ∧ x ≤ 255) : Calls Tryd.prog 35 #[.string (strOfNums l), .string ⟨#[239, 191, 189]⟩] w fun e w' => e = .returned (.bool (preB l)) ∧ w = w' := by
  go_enter Tryd.func35, Tryd.ntmps35
  go_wp2_with (go_at_call 50; refine (prefixS l _ hl hb).mono ?_; rintro e w' ⟨rfl, rfl⟩)
  go_ret
  exact ⟨rfl, rfl⟩

/-- One step of the counting. -/
theorem rn_step {xs : List Int} {pos f : Nat} {n : Int} (h : pos < xs.length) (hc : chr (xs.drop pos) ≠ 0) : rnF (f + 1) (xs.drop pos) n = rnF f (xs.drop (pos + chr (xs.drop pos))) (n + 1) := by
  rw [rnF, if_neg (by simp; omega), if_neg hc, List.drop_drop]
theorem rn_bad {xs : List Int} {pos f : Nat} {n : Int} (h : pos < xs.length) (hc : chr (xs.drop pos) = 0) : rnF (f + 1) (xs.drop pos) n = -1 := by
  rw [rnF, if_neg (by simp; omega), if_pos hc]
theorem rn_end {xs : List Int} {pos f : Nat} {n : Int} (h : ¬ pos < xs.length) : rnF f (xs.drop pos) n = n := by
  rw [List.drop_eq_nil_of_le (by omega), rnF_nil]

end Go.Proofs.YtidimdbnnnpplaaDoor
namespace Go.Proofs.YtidimdbnnnpplaaDoor
open Go.RowKit
set_option maxRecDepth 1000000

/-- An append whose run is known, as one step of a region that draws its order. -/
theorem step_append_ran {P : Program} {ops : Array Oper} {o : Oper} {a : Act} {w : World} {K : Act → World → Prop} {Q : Exit → Act → World → Prop} {E : Prop}
    (hg : o.guard = none) (s x : Operand) (t ty : TypeId) (hop : o.op = Op.call { callee := Callee.builtin Builtin.append, args := #[s, x], argTypes := #[t, t] }) (hty : o.type = ty)
    (v xv v' : Value) (w' : World) (hs : a.eval s = v) (hx : a.eval x = xv) (hr : (Builtin.append_ #[t, t] ty #[v, xv]).run P w = .ok v' w') (hK : K (a.put o.dst v') w') :
    if Region.wanted o (yielded ops a.tmps) = true then Oper.wp P o a w K Q else E := by
  have hw : Region.wanted o (yielded ops a.tmps) = true := by simp [Region.wanted, hg]
  rw [if_pos hw]
  subst hty
  unfold Oper.wp
  simp [execOp, hop, resolve, invoke, builtin, hs, hx, hr, Result.andThen]
  exact hK

/-- Bytes that have just been laid in a block of their own, appended. -/
theorem own_kept_drew {w : World} {base e size n : Nat} {v : Value} {xs : List Value} (h : w.ownsRow base e size v n xs) : w.drew.ownsRow base e size v n xs := own_kept h ⟨rfl, rfl, rfl, Nat.le_refl _, fun _ _ => rfl⟩
theorem append_row (ys : List Int) (base : Nat) (v : Value) (n : Nat) (xs : List Value) (w : World) (hb : ∀ x ∈ ys, 0 ≤ x ∧ x ≤ 255) (hown : w.ownsRow base 5 1 v n xs) (hbase : base ≤ w.heap.size) (hn : n + ys.length ≤ 140737488355328) :
    ∃ v' w', (Builtin.append_ #[83, 83] 83 #[v, .slice (some ⟨w.heap.size, 0, none⟩) ys.length ys.length]).run Tryd.prog (w.alloc (.cells (ys.map (Value.int .u8)).toArray 5)) = .ok v' w' ∧ w'.ownsRow base 5 1 v' (n + ys.length) (xs ++ ys.map (Value.int .u8)) ∧ Grow w w' v v' := by
  obtain ⟨v', w', h1, h2, h3⟩ := append_bytes base v n xs (w.alloc (.cells (ys.map (Value.int .u8)).toArray 5)) _ _ _ ys (hown.alloc _) (by simp; omega) (reads_new w ys hb (by omega)) hn
  exact ⟨v', w', h1, h2, ((Grow.refl w v).alloc _).trans h3⟩

/-- The signs of the digits. -/
theorem sign_at (i : Int) (h0 : 0 ≤ i) (h1 : i < 16) (W : World) : (Instr.index 9 (.string ⟨#[48, 49, 50, 51, 52, 53, 54, 55, 56, 57, 97, 98, 99, 100, 101, 102]⟩) (.int .u8 i)).run Tryd.prog W = .ok (.int .u8 (dg i)) W := by
  rw [run_index_string W 9 _ .u8 i Tryd.underlying9, dif_pos ⟨h0, h1⟩]
  obtain ⟨k, rfl⟩ := Int.eq_ofNat_of_zero_le h0
  have hk : k < 16 := by omega
  have key : ∀ k : Fin 16, (((⟨#[48, 49, 50, 51, 52, 53, 54, 55, 56, 57, 97, 98, 99, 100, 101, 102]⟩ : ByteArray)[k.val]'k.isLt).toNat : Int) = dg k.val := by decide
  have := key ⟨k, hk⟩
  simp only at this
  simp only [Int.toNat_natCast]
  rw [this]
theorem and15 (c : Int) (h0 : 0 ≤ c) (h1 : c ≤ 255) : bits .and .u8 c 15 = c % 16 := bits_mask .u8 8 (by decide) wraps_u8 4 (by decide) c h0 (by omega)

/-- What addPart is told, and what it answers. -/
def Added (base : Nat) (v : Value) (n : Nat) (xs : List Value) (w : World) (ys : List Int) (e : Ending) (w' : World) : Prop :=
  ∃ v', e = .returned v' ∧ w'.ownsRow base 5 1 v' (n + ys.length) (xs ++ ys.map (Value.int .u8)) ∧ Grow w w' v v'

end Go.Proofs.YtidimdbnnnpplaaDoor
namespace Go.Proofs.YtidimdbnnnpplaaDoor
open Go.RowKit
set_option maxRecDepth 1000000

theorem qt_bytes {xs : List Int} (h : ∀ x ∈ xs, 0 ≤ x ∧ x ≤ 255) : ∀ x ∈ qt xs, 0 ≤ x ∧ x ≤ 255 := fun x hx => by have := qt_bd h x hx; omega
theorem flat_snoc {xs : List Int} {k : Nat} (h : k < xs.length) : (xs.take (k + 1)).flatMap qp = (xs.take k).flatMap qp ++ qp (xs[k]?.getD 0) := by
  rw [List.take_add_one, List.flatMap_append]
  simp [h]
theorem flat_bytes {xs : List Int} (h : ∀ x ∈ xs, 0 ≤ x ∧ x ≤ 255) (k : Nat) : ∀ x ∈ 34 :: (xs.take k).flatMap qp, 0 ≤ x ∧ x ≤ 255 := by
  intro x hx
  rcases List.mem_cons.1 hx with rfl | hx
  · omega
  · obtain ⟨c, hc, hx⟩ := List.mem_flatMap.1 hx
    have h1 := h c (List.mem_of_mem_take hc)
    have := qp_bd h1.1 h1.2 x hx
    omega
theorem flat_size (xs : List Int) (k : Nat) : (34 :: (xs.take k).flatMap qp).length ≤ 1 + 4 * k := by
  have := (flat_len (xs.take k)).2
  simp only [List.length_cons]
  have h2 : (xs.take k).length ≤ k := by simp; omega
  omega

end Go.Proofs.YtidimdbnnnpplaaDoor
namespace Go.Proofs.YtidimdbnnnpplaaDoor
open Go.RowKit
set_option maxRecDepth 1000000

theorem own_one (W : World) (x : Int) : (W.alloc (.cells #[.int .u8 x] 5)).ownsRow W.heap.size 5 1 (.slice (some ⟨W.heap.size, 0, none⟩) 1 1) 1 (([x] : List Int).map (Value.int .u8)) :=
  ⟨rfl, .inr ⟨W.heap.size, 1, #[.int .u8 x], rfl, Nat.le_refl _, heap_alloc_new W _, Nat.le_refl _, by unfold maxLen; omega, rfl, rfl⟩⟩

/-- How far the loop is. -/
def Quoting (w : World) (xs : List Int) (len : Nat) (o r : Value) (wr : World) : Prop := ∃ (k n : Nat) (ps : List Int), k ≤ len ∧ r = .int .i64 k ∧ n ≤ 1 + 4 * k ∧ Hid (ps.length = n) ∧ Hid (wr.ownsRow w.heap.size 5 1 o n (ps.map (Value.int .u8))) ∧ Hid (ps = 34 :: (xs.take k).flatMap qp) ∧ Hid (Below w.heap.size w wr)
theorem quote_next {w wr w' : World} {xs ps : List Int} {len k n : Nat} {o o' : Value} {c : Int} (_hk : k ≤ len) (hn : n ≤ 1 + 4 * k) (HN : ps.length = n) (HO : wr.ownsRow w.heap.size 5 1 o n (ps.map (Value.int .u8))) (HP : ps = 34 :: (xs.take k).flatMap qp) (HB : Below w.heap.size w wr)
    (hx : k < xs.length) (hlt : k < len) (hcc : xs[k]?.getD 0 = c) (ho' : w'.ownsRow w.heap.size 5 1 o' (n + (qp c).length) (ps.map (Value.int .u8) ++ (qp c).map (Value.int .u8))) (hg' : Grow wr w' o o') : Quoting w xs len o' (.int .i64 ((k : Int) + 1)) w' := by
  have hq := qp_len c
  refine ⟨k + 1, n + (qp c).length, ps ++ qp c, by omega, rfl, by omega, hid (by rw [List.length_append, HN]), hid (by rw [List.map_append]; exact ho'), hid ?_, hid (HB.trans (hg'.below HB.size (fun j hj => (HO.lt j hj).1)))⟩
  rw [flat_snoc hx, hcc, HP]
  rfl

end Go.Proofs.YtidimdbnnnpplaaDoor
namespace Go.Proofs.YtidimdbnnnpplaaDoor
open Go.RowKit
set_option maxRecDepth 1000000

theorem ret_two {a b : Int} {c d : Bool} (h1 : a = b) (h2 : c = d) : Ending.returned (.tuple #[.int .u8 a, .bool c]) = .returned (.tuple #[.int .u8 b, .bool d]) := by rw [h1, h2]
theorem ret_part {g : Int × Nat} {a : Int} {n : Int} (h : g.1 = a) (h2 : (g.2 : Int) = n) : Ending.returned (.tuple #[.int .u8 a, .int .i64 n]) = .returned (.tuple #[.int .u8 g.1, .int .i64 g.2]) := by rw [h, h2]

theorem hx_range (c : Int) : -1 ≤ hx c ∧ hx c < 16 := by unfold hx; (repeat' split) <;> omega
theorem digitW (c : Int) (w : World) (h0 : 0 ≤ c) (h1 : c ≤ 255) : Calls Tryd.prog 81 #[.int .u8 c] w fun e w' => e = .returned (.tuple #[.int .u8 (max (hx c) 0), .bool (decide (0 ≤ hx c))]) ∧ w = w' := by
  by_cases d1 : 48 ≤ c ∧ c ≤ 57
  · have e : hx c = c - 48 := by unfold hx; rw [if_pos d1]
    have H : Hid (c - 48 = max (hx c) 0 ∧ true = decide (0 ≤ hx c)) := hid (by rw [e]; simp; omega)
    obtain ⟨x1, x2⟩ := d1
    clear e
    go_enter Tryd.func81, Tryd.ntmps81
    go_wp2
    go_ret2
    exact ⟨ret_two H.out.1 H.out.2, rfl⟩
  by_cases d2 : 97 ≤ c ∧ c ≤ 102
  · have e : hx c = c - 87 := by unfold hx; rw [if_neg d1, if_pos d2]
    have H : Hid (c - 97 + 10 = max (hx c) 0 ∧ true = decide (0 ≤ hx c)) := hid (by rw [e]; simp; omega)
    obtain ⟨x1, x2⟩ := d2
    clear e d1
    go_enter Tryd.func81, Tryd.ntmps81
    go_wp2
    go_ret2
    exact ⟨ret_two H.out.1 H.out.2, rfl⟩
  by_cases d3 : 65 ≤ c ∧ c ≤ 70
  · have e : hx c = c - 55 := by unfold hx; rw [if_neg d1, if_neg d2, if_pos d3]
    have H : Hid (c - 65 + 10 = max (hx c) 0 ∧ true = decide (0 ≤ hx c)) := hid (by rw [e]; simp; omega)
    obtain ⟨x1, x2⟩ := d3
    clear e d1 d2
    go_enter Tryd.func81, Tryd.ntmps81
    go_wp2
    go_ret2
    exact ⟨ret_two H.out.1 H.out.2, rfl⟩
  · have e : hx c = -1 := by unfold hx; rw [if_neg d1, if_neg d2, if_neg d3]
    have H : Hid (0 = max (hx c) 0 ∧ false = decide (0 ≤ hx c)) := hid (by rw [e]; decide)
    clear e
    go_enter Tryd.func81, Tryd.ntmps81
    go_wp2
    all_goals first
      | omega
      | (go_ret2; exact ⟨ret_two H.out.1 H.out.2, rfl⟩)

/-- A byte of a string. -/
theorem index_str {l : List Int} (hb : ∀ x ∈ l, 0 ≤ x ∧ x ≤ 255) (i : Nat) (h : i < l.length) (k : IntKind) (W : World) : (Instr.index 9 (.string (strOfNums l)) (.int k (i : Int))).run Tryd.prog W = .ok (.int .u8 (l[i]?.getD 0)) W := by
  have hs : i < (strOfNums l).size := by rw [strOfNums_size]; exact h
  rw [run_index_string W 9 _ k i Tryd.underlying9, dif_pos ⟨by omega, by omega⟩]
  simp only [Int.toNat_natCast]
  have e2 : (strOfNums l)[i]'hs = UInt8.ofNat (l[i]).toNat := by
    show (strOfNums l).data[i] = _
    simp [strOfNums]
  have := hb l[i] (List.getElem_mem h)
  rw [e2]
  congr 2
  simp [h]
  omega
theorem or_digit (H L : Int) (h0 : 0 ≤ H) (h1 : H < 16) (l0 : 0 ≤ L) (l1 : L < 16) : bits .or .u8 (H * 16) L = H * 16 + L := by
  obtain ⟨h, rfl⟩ := Int.eq_ofNat_of_zero_le h0
  obtain ⟨l, rfl⟩ := Int.eq_ofNat_of_zero_le l0
  have key : ∀ h l : Fin 16, bits .or .u8 ((h.val : Int) * 16) (l.val : Int) = (h.val : Int) * 16 + l.val := by decide
  exact key ⟨h, by omega⟩ ⟨l, by omega⟩

theorem dgP_short {l : List Int} (h : l.length < 4) : dgP (l.drop 2) = (0, 0) := by
  match l with
  | [] => rfl
  | [_] => rfl
  | [_, _] => rfl
  | [_, _, _] => rfl
  | _ :: _ :: _ :: _ :: _ => simp at h; omega
theorem dgP_at {l : List Int} (h : ¬ l.length < 4) : dgP (l.drop 2) = if hx (l[2]?.getD 0) < 0 ∨ hx (l[3]?.getD 0) < 0 then (0, 0) else (hx (l[2]?.getD 0) * 16 + hx (l[3]?.getD 0), 4) := by
  match l with
  | [] => simp at h
  | [_] => simp at h
  | [_, _] => simp at h
  | [_, _, _] => simp at h
  | _ :: _ :: _ :: _ :: _ => rfl

set_option maxHeartbeats 1000000 in
theorem getDigitsW (l : List Int) (w : World) (hb : ∀ x ∈ l, 0 ≤ x ∧ x ≤ 255) (hl : l.length ≤ 9223372036854775807) :
    Calls Tryd.prog 76 #[.string (strOfNums l)] w fun e w' => e = .returned (.tuple #[.int .u8 (dgP (l.drop 2)).1, .int .i64 (dgP (l.drop 2)).2]) ∧ w = w' := by
  have hs := strOfNums_size l
  by_cases h4 : l.length < 4
  · have H := hid (dgP_short h4)
    go_enter Tryd.func76, Tryd.ntmps76
    go_wp2
    go_ret2
    exact ⟨by rw [H.out]; rfl, rfl⟩
  · have H := hid (dgP_at h4)
    have i2 : ∀ (k : IntKind) (W : World), (Instr.index 9 (.string (strOfNums l)) (.int k 2)).run Tryd.prog W = .ok (.int .u8 (l[2]?.getD 0)) W := fun k W => index_str hb 2 (by omega) k W
    have i3 : ∀ (k : IntKind) (W : World), (Instr.index 9 (.string (strOfNums l)) (.int k 3)).run Tryd.prog W = .ok (.int .u8 (l[3]?.getD 0)) W := fun k W => index_str hb 3 (by omega) k W
    have b2 : (0 : Int) ≤ l[2]?.getD 0 ∧ l[2]?.getD 0 ≤ 255 := by have := bd_get hb 2; rwa [List.getD_eq_getElem?_getD] at this
    have b3 : (0 : Int) ≤ l[3]?.getD 0 ∧ l[3]?.getD 0 ≤ 255 := by have := bd_get hb 3; rwa [List.getD_eq_getElem?_getD] at this
    obtain ⟨x, hx2⟩ : ∃ x, l[2]?.getD 0 = x := ⟨_, rfl⟩
    obtain ⟨y, hy3⟩ : ∃ y, l[3]?.getD 0 = y := ⟨_, rfl⟩
    rw [hx2] at i2 b2 H
    rw [hy3] at i3 b3 H
    clear hx2 hy3
    have rx := hx_range x
    have ry := hx_range y
    have HX := hid b2
    have HY := hid b3
    clear hb b2 b3
    by_cases dx : hx x < 0
    · have e : decide (0 ≤ hx x) = false := by simp; omega
      have H2 : Hid (dgP (l.drop 2) = (0, 0)) := hid (by rw [H.out, if_pos (.inl dx)])
      clear H
      go_enter Tryd.func76, Tryd.ntmps76
      go_wp2_with (first
        | (go_at_call_of 81 x; refine (digitW x _ HX.out.1 HX.out.2).mono ?_; rintro e w' ⟨rfl, rfl⟩)
        | (go_at_call_of 81 y; refine (digitW y _ HY.out.1 HY.out.2).mono ?_; rintro e w' ⟨rfl, rfl⟩))
      go_ret2
      exact ⟨by rw [H2.out]; rfl, rfl⟩
    by_cases dy : hx y < 0
    · have e : decide (0 ≤ hx y) = false := by simp; omega
      have e' : decide (0 ≤ hx x) = true := by simp; omega
      have H2 : Hid (dgP (l.drop 2) = (0, 0)) := hid (by rw [H.out, if_pos (.inr dy)])
      clear H
      go_enter Tryd.func76, Tryd.ntmps76
      go_wp2_with (first
        | (go_at_call_of 81 x; refine (digitW x _ HX.out.1 HX.out.2).mono ?_; rintro e w' ⟨rfl, rfl⟩)
        | (go_at_call_of 81 y; refine (digitW y _ HY.out.1 HY.out.2).mono ?_; rintro e w' ⟨rfl, rfl⟩))
      go_ret2
      exact ⟨by rw [H2.out]; rfl, rfl⟩
    · have e : decide (0 ≤ hx y) = true := by simp; omega
      have e' : decide (0 ≤ hx x) = true := by simp; omega
      have m1 : max (hx x) 0 = hx x := by omega
      have m2 : max (hx y) 0 = hx y := by omega
      have ho := or_digit (hx x) (hx y) (by omega) (by omega) (by omega) (by omega)
      have H2 : Hid (dgP (l.drop 2) = (hx x * 16 + hx y, 4)) := hid (by rw [H.out, if_neg (by omega)])
      clear H
      go_enter Tryd.func76, Tryd.ntmps76
      go_wp2_with (first
        | (go_at_call_of 81 x; refine (digitW x _ HX.out.1 HX.out.2).mono ?_; rintro e w' ⟨rfl, rfl⟩)
        | (go_at_call_of 81 y; refine (digitW y _ HY.out.1 HY.out.2).mono ?_; rintro e w' ⟨rfl, rfl⟩))
      go_ret2
      exact ⟨by rw [H2.out]; rfl, rfl⟩

theorem sgP_short {l : List Int} (h : l.length < 2) : sgP (l.drop 1) = (0, 0) := by
  match l with
  | [] => rfl
  | [_] => rfl
  | _ :: _ :: _ => simp at h; omega
theorem sgP_at {l : List Int} (h : ¬ l.length < 2) : sgP (l.drop 1) = sgP (l[1]?.getD 0 :: l.drop 2) := by
  match l with
  | [] => simp at h
  | [_] => simp at h
  | _ :: _ :: _ => rfl
theorem pt_at {l : List Int} (h : 0 < l.length) : qpart l = qpart (l[0]?.getD 0 :: l.drop 1) := by
  match l with
  | [] => simp at h
  | _ :: _ => rfl

set_option maxHeartbeats 1000000 in
theorem getSignW (l : List Int) (w : World) (hb : ∀ x ∈ l, 0 ≤ x ∧ x ≤ 255) (hl : l.length ≤ 9223372036854775807) :
    Calls Tryd.prog 68 #[.string (strOfNums l)] w fun e w' => e = .returned (.tuple #[.int .u8 (sgP (l.drop 1)).1, .int .i64 (sgP (l.drop 1)).2]) ∧ w = w' := by
  have hs := strOfNums_size l
  by_cases h2 : l.length < 2
  · have H := hid (sgP_short h2)
    go_enter Tryd.func68, Tryd.ntmps68
    go_wp2
    go_ret2
    exact ⟨by rw [H.out]; rfl, rfl⟩
  have H := hid (sgP_at h2)
  have i1 : ∀ (k : IntKind) (W : World), (Instr.index 9 (.string (strOfNums l)) (.int k 1)).run Tryd.prog W = .ok (.int .u8 (l[1]?.getD 0)) W := fun k W => index_str hb 1 (by omega) k W
  obtain ⟨d, hd⟩ : ∃ d, l[1]?.getD 0 = d := ⟨_, rfl⟩
  rw [hd] at i1 H
  clear hd
  have HB := hid hb
  clear hb
  by_cases c34 : d = 34
  · subst c34
    have H2 : Hid (sgP (l.drop 1) = (34, 2)) := hid (by rw [H.out]; rfl)
    clear H
    go_enter Tryd.func68, Tryd.ntmps68
    go_wp2
    go_ret2
    exact ⟨by rw [H2.out]; rfl, rfl⟩
  by_cases c92 : d = 92
  · subst c92
    have H2 : Hid (sgP (l.drop 1) = (92, 2)) := hid (by rw [H.out]; rfl)
    clear H
    go_enter Tryd.func68, Tryd.ntmps68
    go_wp2
    go_ret2
    exact ⟨by rw [H2.out]; rfl, rfl⟩
  by_cases c110 : d = 110
  · subst c110
    have H2 : Hid (sgP (l.drop 1) = (10, 2)) := hid (by rw [H.out]; rfl)
    clear H
    go_enter Tryd.func68, Tryd.ntmps68
    go_wp2
    go_ret2
    exact ⟨by rw [H2.out]; rfl, rfl⟩
  by_cases c116 : d = 116
  · subst c116
    have H2 : Hid (sgP (l.drop 1) = (9, 2)) := hid (by rw [H.out]; rfl)
    clear H
    go_enter Tryd.func68, Tryd.ntmps68
    go_wp2
    go_ret2
    exact ⟨by rw [H2.out]; rfl, rfl⟩
  by_cases c114 : d = 114
  · subst c114
    have H2 : Hid (sgP (l.drop 1) = (13, 2)) := hid (by rw [H.out]; rfl)
    clear H
    go_enter Tryd.func68, Tryd.ntmps68
    go_wp2
    go_ret2
    exact ⟨by rw [H2.out]; rfl, rfl⟩
  by_cases c120 : d = 120
  · subst c120
    have H2 : Hid (sgP (l.drop 1) = dgP (l.drop 2)) := hid (by rw [H.out]; rfl)
    clear H
    go_enter Tryd.func68, Tryd.ntmps68
    go_wp2_with (go_at_call 76; refine (getDigitsW l _ HB.out hl).mono ?_; rintro e w' ⟨rfl, rfl⟩)
    go_ret2
    exact ⟨by rw [H2.out]; rfl, rfl⟩
  have H2 : Hid (sgP (l.drop 1) = (0, 0)) := hid (by rw [H.out, sgP, if_neg (by omega), if_neg c110, if_neg c116, if_neg c114, if_neg c120])
  have e1 : (d == 34) = false := by simpa using c34
  have e2 : (d == 92) = false := by simpa using c92
  have e3 : (d == 110) = false := by simpa using c110
  have e4 : (d == 116) = false := by simpa using c116
  have e5 : (d == 114) = false := by simpa using c114
  have e6 : (d == 120) = false := by simpa using c120
  clear H c34 c92 c110 c116 c114 c120
  go_enter Tryd.func68, Tryd.ntmps68
  go_wp2
  go_ret2
  exact ⟨by rw [H2.out]; rfl, rfl⟩

set_option maxHeartbeats 1000000 in
theorem getPartW (l : List Int) (w : World) (hb : ∀ x ∈ l, 0 ≤ x ∧ x ≤ 255) (hl : l.length ≤ 9223372036854775807) (h0 : 0 < l.length) :
    Calls Tryd.prog 53 #[.string (strOfNums l)] w fun e w' => e = .returned (.tuple #[.int .u8 (qpart l).1, .int .i64 (qpart l).2]) ∧ w = w' := by
  have hs := strOfNums_size l
  have H := hid (pt_at h0)
  have i1 : ∀ (k : IntKind) (W : World), (Instr.index 9 (.string (strOfNums l)) (.int k 0)).run Tryd.prog W = .ok (.int .u8 (l[0]?.getD 0)) W := fun k W => index_str hb 0 (by omega) k W
  obtain ⟨d, hd⟩ : ∃ d, l[0]?.getD 0 = d := ⟨_, rfl⟩
  rw [hd] at i1 H
  clear hd
  have HB := hid hb
  clear hb
  by_cases c34 : d = 34
  · subst c34
    have H2 : Hid (qpart l = (0, 0)) := hid (by rw [H.out]; rfl)
    clear H
    go_enter Tryd.func53, Tryd.ntmps53
    go_wp2
    go_ret2
    exact ⟨by rw [H2.out]; rfl, rfl⟩
  by_cases c10 : d = 10
  · subst c10
    have H2 : Hid (qpart l = (0, 0)) := hid (by rw [H.out]; rfl)
    clear H
    go_enter Tryd.func53, Tryd.ntmps53
    go_wp2
    go_ret2
    exact ⟨by rw [H2.out]; rfl, rfl⟩
  by_cases c92 : d = 92
  · subst c92
    have H2 : Hid (qpart l = sgP (l.drop 1)) := hid (by rw [H.out]; rfl)
    clear H
    go_enter Tryd.func53, Tryd.ntmps53
    go_wp2_with (go_at_call 68; refine (getSignW l _ HB.out hl).mono ?_; rintro e w' ⟨rfl, rfl⟩)
    go_ret2
    exact ⟨by rw [H2.out, List.drop_one]; rfl, rfl⟩
  have H2 : Hid (qpart l = (d, 1)) := hid (by rw [H.out, qpart, if_neg (by omega), if_neg c92])
  have e1 : (d == 34) = false := by simpa using c34
  have e2 : (d == 10) = false := by simpa using c10
  have e3 : (d == 92) = false := by simpa using c92
  clear H c34 c10 c92
  go_enter Tryd.func53, Tryd.ntmps53
  go_wp2
  go_ret2
  exact ⟨by rw [H2.out]; rfl, rfl⟩
end Go.Proofs.YtidimdbnnnpplaaDoor
namespace Go.Proofs.YtidimdbnnnpplaaDoor
open Go.RowKit
set_option maxRecDepth 1000000

/-- What Unquote answers: the bytes and the error. -/
def uqE (xs : List Int) : List Int × Int := if 65536 < xs.length then ([], 1) else match uq xs with
  | none => ([], 11)
  | some ys => (ys, 0)

theorem dgP_bd (l : List Int) : (0 ≤ (dgP l).1 ∧ (dgP l).1 ≤ 255) ∧ (dgP l).2 ≤ l.length + 2 := by
  match l with
  | [] => simp [dgP]
  | [_] => simp [dgP]
  | x :: y :: r =>
    have hx' := hx_range x
    have hy' := hx_range y
    show (0 ≤ (if hx x < 0 ∨ hx y < 0 then ((0 : Int), 0) else (hx x * 16 + hx y, 4)).1 ∧ (if hx x < 0 ∨ hx y < 0 then ((0 : Int), 0) else (hx x * 16 + hx y, 4)).1 ≤ 255) ∧ (if hx x < 0 ∨ hx y < 0 then ((0 : Int), 0) else (hx x * 16 + hx y, 4)).2 ≤ _
    split
    · simp
    · simp; omega
theorem sgP_bd {l : List Int} (hb : ∀ x ∈ l, 0 ≤ x ∧ x ≤ 255) : (0 ≤ (sgP l).1 ∧ (sgP l).1 ≤ 255) ∧ (sgP l).2 ≤ l.length + 1 := by
  cases l with
  | nil => simp [sgP]
  | cons d r =>
    have hd := hb d (by simp)
    have hr := dgP_bd r
    rw [sgP]
    by_cases h1 : d = 34 ∨ d = 92
    · rw [if_pos h1]; simp; omega
    rw [if_neg h1]
    by_cases h2 : d = 110
    · rw [if_pos h2]; simp
    rw [if_neg h2]
    by_cases h3 : d = 116
    · rw [if_pos h3]; simp
    rw [if_neg h3]
    by_cases h4 : d = 114
    · rw [if_pos h4]; simp
    rw [if_neg h4]
    by_cases h5 : d = 120
    · rw [if_pos h5]; exact ⟨hr.1, by simp only [List.length_cons]; omega⟩
    rw [if_neg h5]; simp
theorem pt_both {l : List Int} (hb : ∀ x ∈ l, 0 ≤ x ∧ x ≤ 255) : (0 ≤ (qpart l).1 ∧ (qpart l).1 ≤ 255) ∧ (qpart l).2 ≤ l.length := by
  cases l with
  | nil => simp [qpart]
  | cons c r =>
    have hc := hb c (by simp)
    have hr := sgP_bd (l := r) (fun x hx => hb x (by simp [hx]))
    rw [qpart]
    by_cases h1 : c = 34 ∨ c = 10
    · rw [if_pos h1]; simp
    rw [if_neg h1]
    by_cases h2 : c = 92
    · rw [if_pos h2]; exact ⟨hr.1, by simp only [List.length_cons]; omega⟩
    rw [if_neg h2]; simp; omega
theorem pt_bd {l : List Int} (hb : ∀ x ∈ l, 0 ≤ x ∧ x ≤ 255) : 0 ≤ (qpart l).1 ∧ (qpart l).1 ≤ 255 := (pt_both hb).1
theorem pt_le {l : List Int} (hb : ∀ x ∈ l, 0 ≤ x ∧ x ≤ 255) : (qpart l).2 ≤ l.length := (pt_both hb).2
theorem uq_step {P : List Int} {k f : Nat} {acc : List Int} (h : k < P.length) (hz : (qpart (P.drop k)).2 ≠ 0) : uqF (f + 1) (P.drop k) acc = uqF f (P.drop (k + (qpart (P.drop k)).2)) (acc ++ [(qpart (P.drop k)).1]) := by
  rw [uqF, if_neg (by simp; omega), if_neg hz, List.drop_drop]
theorem uq_bad {P : List Int} {k f : Nat} {acc : List Int} (h : k < P.length) (hz : (qpart (P.drop k)).2 = 0) : uqF (f + 1) (P.drop k) acc = none := by
  rw [uqF, if_neg (by simp; omega), if_pos hz]
theorem uq_end {P : List Int} {k f : Nat} {acc : List Int} (h : ¬ k < P.length) : uqF f (P.drop k) acc = some acc := by
  rw [List.drop_eq_nil_of_le (by omega)]
  cases f <;> simp [uqF]
theorem parts_len (xs : List Int) : (parts xs).length = xs.length - 2 := by unfold parts; simp; omega
theorem parts_bd {xs : List Int} (h : ∀ x ∈ xs, 0 ≤ x ∧ x ≤ 255) : ∀ x ∈ parts xs, 0 ≤ x ∧ x ≤ 255 := fun x hx => h x (List.mem_of_mem_drop (List.mem_of_mem_take hx))
theorem parts_cut (xs : List Int) (m : Nat) (h : xs.length = m + 2) : (strOfNums xs).extract 1 (m + 1) = strOfNums (parts xs) := by
  rw [str_cut, parts, h, List.drop_take]
  rfl
theorem uqE_big {xs : List Int} (h : 65536 < xs.length) : uqE xs = ([], 1) := by unfold uqE; rw [if_pos h]
theorem uqE_none {xs : List Int} (h : ¬ 65536 < xs.length) (hn : uq xs = none) : uqE xs = ([], 11) := by unfold uqE; rw [if_neg h, hn]
theorem uqE_some {xs ys : List Int} (h : ¬ 65536 < xs.length) (hn : uq xs = some ys) : uqE xs = (ys, 0) := by unfold uqE; rw [if_neg h, hn]

/-- What the callers of Unquote are told. -/
def Unquoted (w : World) (g : List Int × Int) (e : Ending) (w' : World) : Prop := ∃ a c, e = .returned (.tuple #[.slice a g.1.length c, .int .i64 g.2]) ∧ Reads w' a g.1.length c g.1 ∧ Below w.heap.size w w' ∧ ∀ x, a = some x → w.heap.size ≤ x.block
theorem unq_nil {w w' : World} {er : Int} (hb : Below w.heap.size w w') : Unquoted w ([], er) (.returned (.tuple #[.slice none 0 0, .int .i64 er])) w' := ⟨none, 0, rfl, reads_nil _, hb, fun _ h => by cases h⟩

set_option maxRecDepth 1000000 in
set_option maxHeartbeats 4000000 in
theorem unquoteLoop (xs : List Int) (n0 m : Nat) (w : World) (hb : ∀ x ∈ xs, 0 ≤ x ∧ x ≤ 255) (hn : xs.length = n0) (hlen : n0 = m + 2) (hm : m + 2 ≤ 65536) (h0 : xs[0]?.getD 0 = 34) (h1 : xs[m + 1]?.getD 0 = 34) :
    Calls Tryd.prog 40 #[.string (strOfNums xs)] w fun e w' => Unquoted w (uqE xs) e w' := by
  have hs : (strOfNums xs).size = n0 := by rw [strOfNums_size, hn]
  have hcut' : (strOfNums xs).extract 1 (n0 - 1) = strOfNums (parts xs) := by rw [hlen]; exact parts_cut xs m (hn.trans hlen)
  have hpl : (parts xs).length = m := by rw [parts_len, hn, hlen]; rfl
  have hps : (strOfNums (parts xs)).size = m := by rw [strOfNums_size, hpl]
  have i0 : ∀ (k : IntKind) (W : World), (Instr.index 9 (.string (strOfNums xs)) (.int k 0)).run Tryd.prog W = .ok (.int .u8 34) W := fun k W => by rw [← h0]; exact index_str hb 0 (by omega) k W
  have i1 : ∀ (k : IntKind) (W : World), (Instr.index 9 (.string (strOfNums xs)) (.int k ((n0 : Int) - 1))).run Tryd.prog W = .ok (.int .u8 34) W := fun k W => by
    have := index_str hb (m + 1) (by omega) k W
    rw [h1, show ((m + 1 : Nat) : Int) = (n0 : Int) - 1 by omega] at this
    exact this
  have HU : Hid (uq xs = uqF m (parts xs) []) := hid (by
    unfold uq
    rw [if_neg ?_, hpl]
    rw [List.getD_eq_getElem?_getD, List.getD_eq_getElem?_getD, hn, hlen, h0, show m + 2 - 1 = m + 1 by omega, h1]
    simp)
  have HPb := hid (parts_bd hb)
  have HL : Hid (¬ 65536 < xs.length) := hid (by omega)
  have hm1 : (n0 : Int) ≤ 65536 := by omega
  have hm2 : (2 : Int) ≤ (n0 : Int) := by omega
  have hm3 : (m : Int) ≤ 65536 := by omega
  obtain ⟨i5, hi, hz0, hz1, hz2⟩ := info_parts Tryd.info5
  obtain ⟨w1, hrun, hown, hgr⟩ := run_makeSlice_owned (P := Tryd.prog) w w.heap.size 83 5 i5 (.int .u8 0) 1 Tryd.underlying83 hi hz0 hz1 .i64 .i64 m (by omega) (by rw [hz2]; omega) (by unfold maxLen; omega) (Nat.le_refl _)
  have hb1 : Below w.heap.size w w1 := Below.grown (Below.refl _ _) hgr (Nat.le_refl _) (fun k hk => by cases hk)
  have HO := hid hown
  have HB1 := hid hb1
  have HPl := hid hpl
  clear hb hlen h0 h1 hpl hown hb1 hgr hn hm
  go_enter Tryd.func40, Tryd.ntmps40
  go_wp2
  go_loopw [6, 7] (fun o r wr => ∃ (k f n : Nat) (acc : List Int), k ≤ m ∧ r = .int .i64 k ∧ n ≤ k ∧ m ≤ k + f ∧ Hid (acc.length = n) ∧ Hid (wr.ownsRow w.heap.size 5 1 o n (acc.map (Value.int .u8))) ∧ Hid (∀ x ∈ acc, 0 ≤ x ∧ x ≤ 255) ∧ Hid (uqF f ((parts xs).drop k) acc = uq xs) ∧ Hid (Below w.heap.size w wr)) (fun _ r _ => m - (intOf r).toNat)
  case atStart => exact ⟨0, m, 0, [], by omega, rfl, by omega, by omega, hid rfl, HO, hid (by simp), hid (by rw [HU.out]; rfl), HB1⟩
  case round =>
    obtain ⟨k, f, n, acc, hk, rfl, hn, hf, HN, HO, HA, HQ, HB⟩ := hrel
    by_cases hlt : k < m
    · obtain ⟨f, rfl⟩ : ∃ f', f = f' + 1 := ⟨f - 1, by omega⟩
      have hcut2 : (strOfNums (parts xs)).extract k m = strOfNums ((parts xs).drop k) := by rw [str_cut, List.take_of_length_le (by rw [HPl.out]; exact Nat.le_refl _)]
      have HDb : Hid (∀ x ∈ (parts xs).drop k, 0 ≤ x ∧ x ≤ 255) := hid fun x hx => HPb.out x (List.mem_of_mem_drop hx)
      have HDl : Hid (((parts xs).drop k).length = m - k) := hid (by rw [List.length_drop, HPl.out])
      have hp1 := pt_bd HDb.out
      have hp2 : (qpart ((parts xs).drop k)).2 ≤ m - k := by rw [← HDl.out]; exact pt_le HDb.out
      have HKl : Hid (k < (parts xs).length) := hid (by rw [HPl.out]; exact hlt)
      have HBad : Hid ((qpart ((parts xs).drop k)).2 = 0 → uq xs = none) := hid fun hz => by rw [← HQ.out, uq_bad HKl.out hz]
      have HGood : Hid ((qpart ((parts xs).drop k)).2 ≠ 0 → uqF f ((parts xs).drop (k + (qpart ((parts xs).drop k)).2)) (acc ++ [(qpart ((parts xs).drop k)).1]) = uq xs) := hid fun hz => by rw [← HQ.out, uq_step HKl.out hz]
      clear HQ
      have HCall : Hid (∀ W, Calls Tryd.prog 53 #[.string (strOfNums ((parts xs).drop k))] W fun e w' => e = .returned (.tuple #[.int .u8 (qpart ((parts xs).drop k)).1, .int .i64 (qpart ((parts xs).drop k)).2]) ∧ W = w') := hid fun W => getPartW _ W HDb.out (by rw [HDl.out]; omega) (by rw [HDl.out]; omega)
      obtain ⟨pc, hpc⟩ : ∃ pc, (qpart ((parts xs).drop k)).1 = pc := ⟨_, rfl⟩
      obtain ⟨ps, hpsz⟩ : ∃ ps, (qpart ((parts xs).drop k)).2 = ps := ⟨_, rfl⟩
      rw [hpc] at HGood HCall hp1
      rw [hpsz] at HGood HBad HCall hp2
      clear hpc hpsz HDb HDl HKl
      by_cases hz : ps = 0
      · subst hz
        have HE : Hid (uqE xs = ([], 11)) := hid (uqE_none HL.out (HBad.out rfl))
        clear HGood HBad
        go_wp2_with (go_at_call 53; refine (HCall.out _).mono ?_; rintro e w' ⟨rfl, rfl⟩)
        try rw [Exit.noGoto_ret]
        go_ret2
        rw [HE.out]
        exact unq_nil HB.out
      · have hzb : ((ps : Int) == 0) = false := by simp; omega
        obtain ⟨v', w3, hr3, ho3, hg3⟩ := append_byte w.heap.size _ n _ wr pc HO.out HB.out.size (by omega)
        have hb3 : Below w.heap.size w w3 := HB.out.trans (hg3.below HB.out.size (fun j hj => (HO.out.lt j hj).1))
        have HR3 := hid hr3
        have HB3 := hid hb3
        have HO3 := hid ho3
        clear hr3 hb3 ho3 hg3
        go_wp2_with (first
          | (go_at_call 53; refine (HCall.out _).mono ?_; rintro e w' ⟨rfl, rfl⟩)
          | (at_builtin; refine wpList_append_ran rfl _ _ 83 83 rfl rfl _ _ v' w3 rfl rfl HR3.out ?_))
        exact ⟨⟨k + ps, f, n + 1, acc ++ [pc], by omega, by go_num, by omega, by omega, hid (by rw [List.length_append, HN.out]; rfl), hid (by rw [List.map_append]; exact HO3.out), hid (fun x hx => by rcases List.mem_append.1 hx with hx | hx; exact HA.out x hx; simp at hx; subst hx; exact hp1), hid (HGood.out hz), HB3⟩, by simp [intOf]; omega⟩
    · have HE : Hid (uqE xs = (acc, 0)) := hid (uqE_some HL.out (by rw [← HQ.out, uq_end (by rw [HPl.out]; exact hlt)]))
      obtain ⟨a3, c3, e3, hrd⟩ := own_reads HO.out HA.out
      subst e3
      have HRd := hid hrd
      clear hrd HQ
      go_wp2
      go_ret2
      rw [HE.out]
      exact ⟨a3, c3, by rw [HN.out]; rfl, by rw [HN.out]; exact HRd.out, HB.out, fun x hx => by subst hx; exact (HO.out.lt _ rfl).1⟩
end Go.Proofs.YtidimdbnnnpplaaDoor
namespace Go.Proofs.YtidimdbnnnpplaaDoor
open Go.RowKit
set_option maxRecDepth 1000000

theorem uq_short {xs : List Int} (h : xs.length < 2) : uq xs = none := by unfold uq; rw [if_pos (.inl h)]
theorem uq_first {xs : List Int} (h : xs[0]?.getD 0 ≠ 34) : uq xs = none := by unfold uq; rw [if_pos (.inr (.inl (by rw [List.getD_eq_getElem?_getD]; exact h)))]
theorem uq_last {xs : List Int} (h : xs[xs.length - 1]?.getD 0 ≠ 34) : uq xs = none := by unfold uq; rw [if_pos (.inr (.inr (by rw [List.getD_eq_getElem?_getD]; exact h)))]

set_option maxHeartbeats 400000 in
theorem unquoteC (xs : List Int) (w : World) (hb : ∀ x ∈ xs, 0 ≤ x ∧ x ≤ 255) (hl : xs.length ≤ 65536) (h2 : ¬ xs.length < 2) (h0 : xs[0]?.getD 0 ≠ 34) :
    Calls Tryd.prog 40 #[.string (strOfNums xs)] w fun e w' => Unquoted w (uqE xs) e w' := by
  have HE := hid (uqE_none (by omega) (uq_first h0))
  have hs : (strOfNums xs).size = xs.length := strOfNums_size xs
  have i0 : ∀ (k : IntKind) (W : World), (Instr.index 9 (.string (strOfNums xs)) (.int k 0)).run Tryd.prog W = .ok (.int .u8 (xs[0]?.getD 0)) W := fun k W => index_str hb 0 (by omega) k W
  obtain ⟨d, hd⟩ : ∃ d, xs[0]?.getD 0 = d := ⟨_, rfl⟩
  rw [hd] at i0 h0
  have e1 : (d != 34) = true := by simpa using h0
  have hm1 : (xs.length : Int) ≤ 65536 := by omega
  have hm2 : (2 : Int) ≤ (xs.length : Int) := by omega
  generalize xs.length = n at *
  clear hb hd h0 hl h2
  go_enter Tryd.func40, Tryd.ntmps40
  go_wp2
  go_ret2
  rw [HE.out]
  exact unq_nil (Below.refl _ _)
set_option maxHeartbeats 400000 in
theorem unquoteD (xs : List Int) (w : World) (hb : ∀ x ∈ xs, 0 ≤ x ∧ x ≤ 255) (hl : xs.length ≤ 65536) (h2 : ¬ xs.length < 2) (h0 : xs[0]?.getD 0 = 34) (h1 : xs[xs.length - 1]?.getD 0 ≠ 34) :
    Calls Tryd.prog 40 #[.string (strOfNums xs)] w fun e w' => Unquoted w (uqE xs) e w' := by
  have HE := hid (uqE_none (by omega) (uq_last h1))
  have hs : (strOfNums xs).size = xs.length := strOfNums_size xs
  have i0 : ∀ (k : IntKind) (W : World), (Instr.index 9 (.string (strOfNums xs)) (.int k 0)).run Tryd.prog W = .ok (.int .u8 34) W := fun k W => by rw [← h0]; exact index_str hb 0 (by omega) k W
  have i1 : ∀ (k : IntKind) (W : World), (Instr.index 9 (.string (strOfNums xs)) (.int k ((xs.length : Int) - 1))).run Tryd.prog W = .ok (.int .u8 (xs[xs.length - 1]?.getD 0)) W := fun k W => by
    have := index_str hb (xs.length - 1) (by omega) k W
    rw [show ((xs.length - 1 : Nat) : Int) = (xs.length : Int) - 1 by omega] at this
    exact this
  obtain ⟨d, hd⟩ : ∃ d, xs[xs.length - 1]?.getD 0 = d := ⟨_, rfl⟩
  rw [hd] at i1 h1
  have e1 : (d != 34) = true := by simpa using h1
  have hm1 : (xs.length : Int) ≤ 65536 := by omega
  have hm2 : (2 : Int) ≤ (xs.length : Int) := by omega
  clear hb h0 hl h2 hd h1
  generalize xs.length = n at *
  go_enter Tryd.func40, Tryd.ntmps40
  go_wp2
  go_ret2
  rw [HE.out]
  exact unq_nil (Below.refl _ _)

set_option maxHeartbeats 400000 in
/-- The program's Unquote. -/
theorem unquoteW (xs : List Int) (w : World) (hb : ∀ x ∈ xs, 0 ≤ x ∧ x ≤ 255) (hl : xs.length ≤ 9223372036854775807) :
    Calls Tryd.prog 40 #[.string (strOfNums xs)] w fun e w' => Unquoted w (uqE xs) e w' := by
  by_cases hbig : 65536 < xs.length
  · rw [uqE_big hbig]
    have hs : (strOfNums xs).size = xs.length := strOfNums_size xs
    go_enter Tryd.func40, Tryd.ntmps40
    go_wp2
    go_ret2
    exact unq_nil (Below.refl _ _)
  by_cases h2 : xs.length < 2
  · rw [uqE_none hbig (uq_short h2)]
    have hs : (strOfNums xs).size = xs.length := strOfNums_size xs
    go_enter Tryd.func40, Tryd.ntmps40
    go_wp2
    go_ret2
    exact unq_nil (Below.refl _ _)
  by_cases h0 : xs[0]?.getD 0 = 34
  · by_cases h1 : xs[xs.length - 1]?.getD 0 = 34
    · exact unquoteLoop xs xs.length (xs.length - 2) w hb rfl (by omega) (by omega) h0 (by rw [show xs.length - 2 + 1 = xs.length - 1 by omega]; exact h1)
    · exact unquoteD xs w hb (by omega) h2 h0 h1
  · exact unquoteC xs w hb (by omega) h2 h0
end Go.Proofs.YtidimdbnnnpplaaDoor
