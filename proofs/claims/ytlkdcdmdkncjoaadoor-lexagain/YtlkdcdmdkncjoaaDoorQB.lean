/-
  The model's decoding of a string's bytes, held against the widths of chapter 2.
-/
import Derived.Test.YtlkdcdmdkncjoaaDoorQA
import Derived.Laws.RangeAny
namespace Go.Proofs.YtlkdcdmdkncjoaaDoor
open Go.RowKit
set_option maxRecDepth 1000000

/-- The three bytes of the character FFFD stand ahead. -/
def pre (l : List Int) : Prop := l.take 3 = [239, 191, 189]

section
variable {s : ByteArray} {pos : Nat}
theorem dec_none (h : 128 ≤ (s.get! pos).toNat) (hc : (s.get! pos).toNat < 192 ∨ 248 ≤ (s.get! pos).toNat) : Utf8.decode s pos = (65533, 1) := by
  have h1 : ¬ (s.get! pos).toNat < 128 := by omega
  have h2 : ¬ (s.get! pos).toNat / 32 = 6 := by omega
  have h3 : ¬ (s.get! pos).toNat / 16 = 14 := by omega
  have h4 : ¬ (s.get! pos).toNat / 8 = 30 := by omega
  simp only [Utf8.decode, Nat.add_zero, h1, if_false, Utf8.runeError]
  simp [h2, h3, h4]
theorem dec_two (h0 : 192 ≤ (s.get! pos).toNat) (h : (s.get! pos).toNat < 224) :
    Utf8.decode s pos = if (pos + 1 < s.size ∧ (s.get! (pos + 1)).toNat / 64 = 2) ∧ 128 ≤ (s.get! pos).toNat % 32 * 64 + (s.get! (pos + 1)).toNat % 64 then ((s.get! pos).toNat % 32 * 64 + (s.get! (pos + 1)).toNat % 64, 2) else (65533, 1) := by
  have h1 : ¬ (s.get! pos).toNat < 128 := by omega
  have h2 : (s.get! pos).toNat / 32 = 6 := by omega
  have h3 : ¬ (s.get! pos).toNat / 16 = 14 := by omega
  have h4 : ¬ (s.get! pos).toNat / 8 = 30 := by omega
  simp only [Utf8.decode, Nat.add_zero, h1, if_false, Utf8.runeError]
  by_cases k1 : pos + 1 < s.size ∧ (s.get! (pos + 1)).toNat / 64 = 2
  · simp [h2, k1]
  · simp only [k1, false_and, if_false]
    simp only [not_and] at k1
    by_cases k2 : pos + 1 < s.size
    · simp [h3, h4, k2, k1 k2]
    · simp [k2]
theorem dec_three (h0 : 224 ≤ (s.get! pos).toNat) (h : (s.get! pos).toNat < 240) :
    Utf8.decode s pos = if ((pos + 1 < s.size ∧ (s.get! (pos + 1)).toNat / 64 = 2) ∧ (pos + 2 < s.size ∧ (s.get! (pos + 2)).toNat / 64 = 2)) ∧ (2048 ≤ (s.get! pos).toNat % 16 * 4096 + (s.get! (pos + 1)).toNat % 64 * 64 + (s.get! (pos + 2)).toNat % 64 ∧ Utf8.valid ((s.get! pos).toNat % 16 * 4096 + (s.get! (pos + 1)).toNat % 64 * 64 + (s.get! (pos + 2)).toNat % 64 : Nat) = true) then ((s.get! pos).toNat % 16 * 4096 + (s.get! (pos + 1)).toNat % 64 * 64 + (s.get! (pos + 2)).toNat % 64, 3) else (65533, 1) := by
  have h1 : ¬ (s.get! pos).toNat < 128 := by omega
  have h2 : ¬ (s.get! pos).toNat / 32 = 6 := by omega
  have h3 : (s.get! pos).toNat / 16 = 14 := by omega
  have h4 : ¬ (s.get! pos).toNat / 8 = 30 := by omega
  simp only [Utf8.decode, Nat.add_zero, h1, if_false, Utf8.runeError]
  by_cases k1 : (pos + 1 < s.size ∧ (s.get! (pos + 1)).toNat / 64 = 2) ∧ (pos + 2 < s.size ∧ (s.get! (pos + 2)).toNat / 64 = 2)
  · obtain ⟨⟨a, b⟩, c, d⟩ := k1
    simp only [a, b, c, d, h3]
    simp [h2]
  · have e : ((s.get! pos).toNat / 16 == 14 && (decide (pos + 1 < s.size) && (s.get! (pos + 1)).toNat / 64 == 2) && (decide (pos + 2 < s.size) && (s.get! (pos + 2)).toNat / 64 == 2)) = false := by
      rw [Bool.eq_false_iff]
      intro hh
      simp only [Bool.and_eq_true, decide_eq_true_eq, beq_iff_eq] at hh
      exact k1 ⟨hh.1.2, hh.2⟩
    simp only [e]
    simp [h2, h4]
    intro a b c d
    exact absurd ⟨⟨a, b⟩, c, d⟩ k1
theorem dec_four (h0 : 240 ≤ (s.get! pos).toNat) (h : (s.get! pos).toNat < 248) :
    Utf8.decode s pos = if ((pos + 1 < s.size ∧ (s.get! (pos + 1)).toNat / 64 = 2) ∧ (pos + 2 < s.size ∧ (s.get! (pos + 2)).toNat / 64 = 2) ∧ (pos + 3 < s.size ∧ (s.get! (pos + 3)).toNat / 64 = 2)) ∧ (65536 ≤ (s.get! pos).toNat % 8 * 262144 + (s.get! (pos + 1)).toNat % 64 * 4096 + (s.get! (pos + 2)).toNat % 64 * 64 + (s.get! (pos + 3)).toNat % 64 ∧ Utf8.valid ((s.get! pos).toNat % 8 * 262144 + (s.get! (pos + 1)).toNat % 64 * 4096 + (s.get! (pos + 2)).toNat % 64 * 64 + (s.get! (pos + 3)).toNat % 64 : Nat) = true) then ((s.get! pos).toNat % 8 * 262144 + (s.get! (pos + 1)).toNat % 64 * 4096 + (s.get! (pos + 2)).toNat % 64 * 64 + (s.get! (pos + 3)).toNat % 64, 4) else (65533, 1) := by
  have h1 : ¬ (s.get! pos).toNat < 128 := by omega
  have h2 : ¬ (s.get! pos).toNat / 32 = 6 := by omega
  have h3 : ¬ (s.get! pos).toNat / 16 = 14 := by omega
  have h4 : (s.get! pos).toNat / 8 = 30 := by omega
  simp only [Utf8.decode, Nat.add_zero, h1, if_false, Utf8.runeError]
  by_cases k1 : (pos + 1 < s.size ∧ (s.get! (pos + 1)).toNat / 64 = 2) ∧ (pos + 2 < s.size ∧ (s.get! (pos + 2)).toNat / 64 = 2) ∧ (pos + 3 < s.size ∧ (s.get! (pos + 3)).toNat / 64 = 2)
  · obtain ⟨⟨a, b⟩, ⟨c, d⟩, e, f⟩ := k1
    simp only [a, b, c, d, e, f, h4]
    simp [h2, h3]
  · have e : ((s.get! pos).toNat / 8 == 30 && (decide (pos + 1 < s.size) && (s.get! (pos + 1)).toNat / 64 == 2) && (decide (pos + 2 < s.size) && (s.get! (pos + 2)).toNat / 64 == 2) && (decide (pos + 3 < s.size) && (s.get! (pos + 3)).toNat / 64 == 2)) = false := by
      rw [Bool.eq_false_iff]
      intro hh
      simp only [Bool.and_eq_true, decide_eq_true_eq, beq_iff_eq] at hh
      exact k1 ⟨hh.1.1.2, hh.1.2, hh.2⟩
    simp only [e]
    simp [h2, h3]
    intro a b c d e f
    exact absurd ⟨⟨a, b⟩, ⟨c, d⟩, e, f⟩ k1
end

theorem get_num {xs : List Int} (hb : ∀ x ∈ xs, 0 ≤ x ∧ x ≤ 255) (j : Nat) : (((strOfNums xs).get! j).toNat : Int) = xs.getD j 0 := by
  by_cases h : j < xs.length
  · have h' : j < (strOfNums xs).size := by rw [strOfNums_size]; exact h
    have e := get_at (strOfNums xs) j h'
    rw [Nat.add_zero] at e
    rw [e]
    have e2 : (strOfNums xs)[j]'h' = UInt8.ofNat (xs[j]).toNat := by
      show (strOfNums xs).data[j] = _
      simp [strOfNums]
    have := hb xs[j] (List.getElem_mem h)
    rw [e2]
    simp [h]
    omega
  · have e : (strOfNums xs).get! j = 0 := by
      have h' : ¬ j < (strOfNums xs).data.size := by simpa [strOfNums] using h
      simp only [ByteArray.get!]
      rw [getElem!_neg (strOfNums xs).data j h']
      rfl
    rw [e]
    simp [h]

theorem valid_nat (n : Nat) : Utf8.valid (n : Int) = true ↔ n ≤ 1114111 ∧ ¬ (55296 ≤ n ∧ n ≤ 57343) := by
  simp only [Utf8.valid, Bool.or_eq_true, Bool.and_eq_true, decide_eq_true_eq]
  omega

theorem okV_iff (v low : Int) : okV v low = true ↔ low ≤ v ∧ v ≤ 1114111 ∧ ¬ (55296 ≤ v ∧ v ≤ 57343) := by unfold okV; exact decide_eq_true_iff
theorem out_none {D : Nat × Nat} {l : List Int} {k : Nat} (hk : k = 0) (hD : D = (65533, 1)) (hp : ¬ pre l) : (k = 0 → D = (65533, 1) ∧ ¬ pre l) ∧ (k ≠ 0 → D.2 = k ∧ (D.1 = 65533 → pre l)) := ⟨fun _ => ⟨hD, hp⟩, fun h => absurd hk h⟩
theorem out_some {D : Nat × Nat} {l : List Int} {k n v : Nat} (hk : k = n) (hn : n ≠ 0) (hD : D = (v, n)) (hp : v = 65533 → pre l) : (k = 0 → D = (65533, 1) ∧ ¬ pre l) ∧ (k ≠ 0 → D.2 = k ∧ (D.1 = 65533 → pre l)) := by
  subst hk hD
  exact ⟨fun h => absurd h hn, fun _ => ⟨rfl, hp⟩⟩
/-- What ranging over a string tells at a place, by the width of the character that stands there. -/
theorem dec_chr {xs : List Int} (hb : ∀ x ∈ xs, 0 ≤ x ∧ x ≤ 255) {pos : Nat} (h : pos < xs.length) :
    (chr (xs.drop pos) = 0 → Utf8.decode (strOfNums xs) pos = (65533, 1) ∧ ¬ pre (xs.drop pos)) ∧
    (chr (xs.drop pos) ≠ 0 → (Utf8.decode (strOfNums xs) pos).2 = chr (xs.drop pos) ∧ ((Utf8.decode (strOfNums xs) pos).1 = 65533 → pre (xs.drop pos))) := by
  have g : ∀ k, (((strOfNums xs).get! (pos + k)).toNat : Int) = (xs.drop pos).getD k 0 := fun k => by rw [get_num hb]; simp
  have sz : ∀ k, pos + k < (strOfNums xs).size ↔ k < (xs.drop pos).length := fun k => by rw [strOfNums_size]; simp; omega
  have hb' : ∀ x ∈ xs.drop pos, 0 ≤ x ∧ x ≤ 255 := fun x hx => hb x (List.mem_of_mem_drop hx)
  have hne : xs.drop pos ≠ [] := by simp; omega
  generalize xs.drop pos = l at *
  have g0 := g 0; have g1 := g 1; have g2 := g 2; have g3 := g 3
  have z1 := sz 1; have z2 := sz 2; have z3 := sz 3
  clear g sz
  rw [Nat.add_zero] at g0
  obtain ⟨c, r, rfl⟩ : ∃ c r, l = c :: r := by cases l with
    | nil => exact absurd rfl hne
    | cons c r => exact ⟨c, r, rfl⟩
  have hc := hb' c (by simp)
  simp only [List.getD_cons_zero, List.getD_cons_succ] at g0 g1 g2 g3
  simp only [List.length_cons] at z1 z2 z3
  rw [chr_cons]
  by_cases c1 : c < 128
  · have hs : szF c = 1 := by simp [szF, c1]
    have e : Utf8.decode (strOfNums xs) pos = (((strOfNums xs).get! pos).toNat, 1) := by
      simp only [Utf8.decode, Nat.add_zero]
      rw [if_pos (by omega)]
    have hok : okV (ctF r (szF c - 1) (v0F c)) (lowF c) = true := by
      rw [hs, okV_iff]; simp [v0F, lowF, c1, ctF]; omega
    rw [hok, hs, e]
    exact ⟨fun h => by simp at h, fun _ => ⟨rfl, fun h => by simp at h; omega⟩⟩
  by_cases c2 : c < 192 ∨ 248 ≤ c
  · have hs : szF c = 0 := by unfold szF; (repeat' split) <;> omega
    rw [hs, dec_none (by omega) (by omega)]
    refine ⟨fun _ => ⟨rfl, fun h => ?_⟩, fun h => by simp at h⟩
    unfold pre at h
    simp at h
    omega
  by_cases c3 : c < 224
  · have hs : szF c = 2 := by unfold szF; (repeat' split) <;> omega
    have hv : v0F c = c - 192 := by simp [v0F, c1, c3]
    have hl : lowF c = 128 := by simp [lowF, c1, c3]
    have hp : ¬ pre (c :: r) := fun h => by unfold pre at h; simp at h; omega
    rw [dec_two (by omega) (by omega), hs, hv, hl]
    cases r with
    | nil =>
      have e : okV (ctF [] (2 - 1) (c - 192)) 128 = false := by simp [ctF, okV]
      exact out_none (by rw [e]; rfl) (if_neg (fun h => by have := z1.1 h.1.1; simp at this)) hp
    | cons d r =>
      have hd := hb' d (by simp)
      simp only [List.getD_cons_zero] at g1
      by_cases hbad : d < 128 ∨ 192 ≤ d
      · have e : okV (ctF (d :: r) (2 - 1) (c - 192)) 128 = false := by simp [ctF, hbad, okV]
        exact out_none (by rw [e]; rfl) (if_neg (fun h => by omega)) hp
      · have e : ctF (d :: r) (2 - 1) (c - 192) = (c - 192) * 64 + d - 128 := by simp [ctF, hbad]
        rw [e]
        have hz : pos + 1 < (strOfNums xs).size := z1.2 (by simp)
        by_cases hok : okV ((c - 192) * 64 + d - 128) 128 = true
        · have hok' := (okV_iff _ _).1 hok
          exact out_some (by rw [hok]; rfl) (by decide) (if_pos ⟨⟨hz, by omega⟩, by omega⟩) (fun h => by omega)
        · have hok' := fun h => hok ((okV_iff _ _).2 h)
          exact out_none (by rw [if_neg (by decide), if_neg hok]) (if_neg (fun h => hok' (by omega))) hp
  by_cases c4 : c < 240
  · have hs : szF c = 3 := by unfold szF; (repeat' split) <;> omega
    have hv : v0F c = c - 224 := by simp [v0F, c1, c3, c4]
    have hl : lowF c = 2048 := by simp [lowF, c1, c3, c4]
    rw [dec_three (by omega) (by omega), hs, hv, hl]
    cases r with
    | nil =>
      have hp : ¬ pre [c] := fun h => by unfold pre at h; simp at h
      have e : okV (ctF [] (3 - 1) (c - 224)) 2048 = false := by simp [ctF, okV]
      exact out_none (by rw [e]; rfl) (if_neg (fun h => by have := z1.1 h.1.1.1; simp at this)) hp
    | cons d r =>
    have hd := hb' d (by simp)
    simp only [List.getD_cons_zero, List.getD_cons_succ] at g1 g2
    by_cases hbad : d < 128 ∨ 192 ≤ d
    · have hp : ¬ pre (c :: d :: r) := fun h => by unfold pre at h; simp at h; omega
      have e : okV (ctF (d :: r) (3 - 1) (c - 224)) 2048 = false := by simp [ctF, hbad, okV]
      exact out_none (by rw [e]; rfl) (if_neg (fun h => by omega)) hp
    cases r with
    | nil =>
      have hp : ¬ pre [c, d] := fun h => by unfold pre at h; simp at h
      have e : okV (ctF [d] (3 - 1) (c - 224)) 2048 = false := by simp [ctF, hbad, okV]
      exact out_none (by rw [e]; rfl) (if_neg (fun h => by have := z2.1 h.1.2.1; simp at this)) hp
    | cons x r =>
    have hx := hb' x (by simp)
    simp only [List.getD_cons_zero] at g2
    by_cases hbx : x < 128 ∨ 192 ≤ x
    · have hp : ¬ pre (c :: d :: x :: r) := fun h => by unfold pre at h; simp at h; omega
      have e : okV (ctF (d :: x :: r) (3 - 1) (c - 224)) 2048 = false := by simp [ctF, hbad, hbx, okV]
      exact out_none (by rw [e]; rfl) (if_neg (fun h => by omega)) hp
    · have e : ctF (d :: x :: r) (3 - 1) (c - 224) = ((c - 224) * 64 + d - 128) * 64 + x - 128 := by simp [ctF, hbad, hbx]
      rw [e]
      have hz : pos + 1 < (strOfNums xs).size := z1.2 (by simp)
      have hz2 : pos + 2 < (strOfNums xs).size := z2.2 (by simp)
      by_cases hok : okV (((c - 224) * 64 + d - 128) * 64 + x - 128) 2048 = true
      · have hok' := (okV_iff _ _).1 hok
        refine out_some (by rw [hok]; rfl) (by decide) (if_pos ⟨⟨⟨hz, by omega⟩, hz2, by omega⟩, by omega, (valid_nat _).2 (by omega)⟩) (fun h => ?_)
        unfold pre
        simp
        omega
      · have hok' := fun h => hok ((okV_iff _ _).2 h)
        have hp : ¬ pre (c :: d :: x :: r) := fun h => by unfold pre at h; simp at h; exact hok' (by omega)
        exact out_none (by rw [if_neg (by decide), if_neg hok]) (if_neg (fun h => hok' (by have := (valid_nat _).1 h.2.2; omega))) hp
  · have hs : szF c = 4 := by unfold szF; (repeat' split) <;> omega
    have hv : v0F c = c - 240 := by simp [v0F, c1, c3, c4]
    have hl : lowF c = 65536 := by simp [lowF, c1, c3, c4]
    have hp : ¬ pre (c :: r) := fun h => by unfold pre at h; simp at h; omega
    rw [dec_four (by omega) (by omega), hs, hv, hl]
    cases r with
    | nil =>
      have e : okV (ctF [] (4 - 1) (c - 240)) 65536 = false := by simp [ctF, okV]
      exact out_none (by rw [e]; rfl) (if_neg (fun h => by have := z1.1 h.1.1.1; simp at this)) hp
    | cons d r =>
    have hd := hb' d (by simp)
    simp only [List.getD_cons_zero, List.getD_cons_succ] at g1 g2 g3
    by_cases hbad : d < 128 ∨ 192 ≤ d
    · have e : okV (ctF (d :: r) (4 - 1) (c - 240)) 65536 = false := by simp [ctF, hbad, okV]
      exact out_none (by rw [e]; rfl) (if_neg (fun h => by omega)) hp
    cases r with
    | nil =>
      have e : okV (ctF [d] (4 - 1) (c - 240)) 65536 = false := by simp [ctF, hbad, okV]
      exact out_none (by rw [e]; rfl) (if_neg (fun h => by have := z2.1 h.1.2.1.1; simp at this)) hp
    | cons x r =>
    have hx := hb' x (by simp)
    simp only [List.getD_cons_zero, List.getD_cons_succ] at g2 g3
    by_cases hbx : x < 128 ∨ 192 ≤ x
    · have e : okV (ctF (d :: x :: r) (4 - 1) (c - 240)) 65536 = false := by simp [ctF, hbad, hbx, okV]
      exact out_none (by rw [e]; rfl) (if_neg (fun h => by omega)) hp
    cases r with
    | nil =>
      have e : okV (ctF [d, x] (4 - 1) (c - 240)) 65536 = false := by simp [ctF, hbad, hbx, okV]
      exact out_none (by rw [e]; rfl) (if_neg (fun h => by have := z3.1 h.1.2.2.1; simp at this)) hp
    | cons y r =>
    have hy := hb' y (by simp)
    simp only [List.getD_cons_zero] at g3
    by_cases hby : y < 128 ∨ 192 ≤ y
    · have e : okV (ctF (d :: x :: y :: r) (4 - 1) (c - 240)) 65536 = false := by simp [ctF, hbad, hbx, hby, okV]
      exact out_none (by rw [e]; rfl) (if_neg (fun h => by omega)) hp
    · have e : ctF (d :: x :: y :: r) (4 - 1) (c - 240) = (((c - 240) * 64 + d - 128) * 64 + x - 128) * 64 + y - 128 := by simp [ctF, hbad, hbx, hby]
      rw [e]
      have hz : pos + 1 < (strOfNums xs).size := z1.2 (by simp)
      have hz2 : pos + 2 < (strOfNums xs).size := z2.2 (by simp)
      have hz3 : pos + 3 < (strOfNums xs).size := z3.2 (by simp)
      by_cases hok : okV ((((c - 240) * 64 + d - 128) * 64 + x - 128) * 64 + y - 128) 65536 = true
      · have hok' := (okV_iff _ _).1 hok
        exact out_some (by rw [hok]; rfl) (by decide) (if_pos ⟨⟨⟨hz, by omega⟩, ⟨hz2, by omega⟩, hz3, by omega⟩, by omega, (valid_nat _).2 (by omega)⟩) (fun h => by omega)
      · have hok' := fun h => hok ((okV_iff _ _).2 h)
        exact out_none (by rw [if_neg (by decide), if_neg hok]) (if_neg (fun h => hok' (by have := (valid_nat _).1 h.2.2; omega))) hp
end Go.Proofs.YtlkdcdmdkncjoaaDoor
