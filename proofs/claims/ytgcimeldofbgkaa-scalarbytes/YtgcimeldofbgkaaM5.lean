/-
  Plain mathematics for reading entries; nothing of the program.
-/
import Derived.Test.YtgcimeldofbgkaaM4
namespace Go.Proofs.Ytgcimeldofbgkaa
open Go.RowKit
set_option maxRecDepth 1000000

/-- What reading an entry gives: its parts, the place behind it, the fault. -/
structure Got where
  num : Int
  kind : Int
  n : Int
  b : List Int
  next : Int
  err : Int

def Got.none (e : Int) : Got := ⟨0, 0, 0, [], 0, e⟩
/-- The number behind a tag of a kind but Chunk. -/
def numF (xs : List Int) (kind : Int) (p : Nat) : Int × Int × Int := if kind = 0 then gv xs p else if kind = 1 then gw xs p 8 else gw xs p 4
def ofNum (num kind : Int) (g : Int × Int × Int) : Got := if g.2.2 ≠ 0 then Got.none g.2.2 else ⟨num, kind, g.1, [], g.2.1, 0⟩
def ofChunk (num kind : Int) (c : List Int × Int × Int) : Got := if c.2.2 ≠ 0 then Got.none c.2.2 else ⟨num, kind, 0, c.1, c.2.1, 0⟩
def restF (xs : List Int) (num kind : Int) (p : Nat) : Got := if kind = 2 then ofChunk num kind (gc xs p) else ofNum num kind (numF xs kind p)
def geF (xs : List Int) (t : Int × Int × Int × Int) : Got := if t.2.2.2 ≠ 0 then Got.none t.2.2.2 else restF xs t.1 t.2.1 t.2.2.1.toNat
def ge (xs : List Int) (p : Nat) : Got := geF xs (gt xs p)

theorem ofNum_err {num kind : Int} {g : Int × Int × Int} (h : (g.2.2 != 0) = true) : ofNum num kind g = Got.none g.2.2 := by unfold ofNum; rw [if_pos (by simpa using h)]
theorem ofNum_ok {num kind : Int} {g : Int × Int × Int} (h : (g.2.2 != 0) = false) : ofNum num kind g = ⟨num, kind, g.1, [], g.2.1, 0⟩ := by unfold ofNum; rw [if_neg (by simpa using h)]
theorem ofChunk_err {num kind : Int} {c : List Int × Int × Int} (h : (c.2.2 != 0) = true) : ofChunk num kind c = Got.none c.2.2 := by unfold ofChunk; rw [if_pos (by simpa using h)]
theorem ofChunk_ok {num kind : Int} {c : List Int × Int × Int} (h : (c.2.2 != 0) = false) : ofChunk num kind c = ⟨num, kind, 0, c.1, c.2.1, 0⟩ := by unfold ofChunk; rw [if_neg (by simpa using h)]
theorem geF_err {xs : List Int} {t : Int × Int × Int × Int} (h : (t.2.2.2 != 0) = true) : geF xs t = Got.none t.2.2.2 := by unfold geF; rw [if_pos (by simpa using h)]
theorem geF_ok {xs : List Int} {t : Int × Int × Int × Int} (h : (t.2.2.2 != 0) = false) : geF xs t = restF xs t.1 t.2.1 t.2.2.1.toNat := by unfold geF; rw [if_neg (by simpa using h)]

/-- A tag that is read ends within the bytes, and is of a kind. -/
theorem gt_facts {xs : List Int} {p : Nat} (hp : p ≤ xs.length) (h : (gt xs p).2.2.2 = 0) : tf (gt xs p).1 (gt xs p).2.1 = 0 ∧ (p : Int) + 1 ≤ (gt xs p).2.2.1 ∧ (gt xs p).2.2.1 ≤ xs.length := by
  unfold gt gtF at h ⊢
  by_cases he : (gv xs p).2.2 ≠ 0
  · rw [if_pos he] at h; exact absurd h he
  · rw [if_neg he] at h ⊢
    by_cases ht : tf ((gv xs p).1 / 8) ((gv xs p).1 % 8) ≠ 0
    · rw [if_pos ht] at h; exact absurd h ht
    · rw [if_neg ht]
      have := gv_next hp (by simpa using he)
      exact ⟨by simpa using ht, this.1, this.2⟩
/-- Reading goes on, and stays within the bytes. -/
theorem gw_next {xs : List Int} {p size : Nat} (h : (gw xs p size).2.2 = 0) : (gw xs p size).2.1 = p + size ∧ p + size ≤ xs.length := by
  unfold gw at h ⊢
  by_cases hs : xs.length < p + size
  · rw [if_pos hs] at h; cases h
  · rw [if_neg hs]; exact ⟨rfl, by omega⟩
theorem gc_next {xs : List Int} {p : Nat} (hb : ∀ x ∈ xs, 0 ≤ x ∧ x ≤ 255) (hp : p ≤ xs.length) (h : (gc xs p).2.2 = 0) : (p : Int) + 1 ≤ (gc xs p).2.1 ∧ (gc xs p).2.1 ≤ xs.length := by
  have hv := gv_bd hb p
  have hn := gv_next hp
  unfold gc gcF at h ⊢
  by_cases he : (gv xs p).2.2 ≠ 0
  · rw [if_pos he] at h; exact absurd h he
  · rw [if_neg he] at h ⊢
    have hn := hn (by simpa using he)
    by_cases hf : (xs.length : Int) - (gv xs p).2.1 < (gv xs p).1
    · rw [if_pos hf] at h; cases h
    · rw [if_neg hf]
      exact ⟨by simp only []; omega, by simp only []; omega⟩
theorem ge_next {xs : List Int} {p : Nat} (hb : ∀ x ∈ xs, 0 ≤ x ∧ x ≤ 255) (hp : p ≤ xs.length) (h : (ge xs p).err = 0) : (p : Int) + 2 ≤ (ge xs p).next ∧ (ge xs p).next ≤ xs.length := by
  unfold ge at h ⊢
  cases he : ((gt xs p).2.2.2 != 0) with
  | true =>
    rw [geF_err he] at h
    have : (gt xs p).2.2.2 = 0 := h
    rw [this] at he; cases he
  | false =>
    rw [geF_ok he] at h ⊢
    obtain ⟨ht, h1, h2⟩ := gt_facts hp (by simpa using he)
    have hq : ((gt xs p).2.2.1.toNat : Int) = (gt xs p).2.2.1 := Int.toNat_of_nonneg (by omega)
    generalize (gt xs p).2.2.1.toNat = q at h hq ⊢
    unfold restF at h ⊢
    by_cases hk : (gt xs p).2.1 = 2
    · rw [if_pos hk] at h ⊢
      cases hc : ((gc xs q).2.2 != 0) with
      | true =>
        rw [ofChunk_err hc] at h
        have : (gc xs q).2.2 = 0 := h
        rw [this] at hc; cases hc
      | false =>
        rw [ofChunk_ok hc]
        have := gc_next hb (p := q) (by omega) (by simpa using hc)
        exact ⟨by simp only []; omega, by simp only []; omega⟩
    · rw [if_neg hk] at h ⊢
      cases hc : ((numF xs (gt xs p).2.1 q).2.2 != 0) with
      | true =>
        rw [ofNum_err hc] at h
        have : (numF xs (gt xs p).2.1 q).2.2 = 0 := h
        rw [this] at hc; cases hc
      | false =>
        rw [ofNum_ok hc]
        have hc0 : (numF xs (gt xs p).2.1 q).2.2 = 0 := by simpa using hc
        unfold numF at hc0 ⊢
        split at hc0
        · rename_i hk0
          rw [if_pos hk0]
          have := gv_next (xs := xs) (p := q) (by omega) hc0
          exact ⟨by simp only []; omega, by simp only []; omega⟩
        · rename_i hk0
          rw [if_neg hk0]
          split at hc0
          · rename_i hk1
            rw [if_pos hk1]
            have := gw_next hc0
            exact ⟨by simp only []; omega, by simp only []; omega⟩
          · rename_i hk1
            rw [if_neg hk1]
            have := gw_next hc0
            exact ⟨by simp only []; omega, by simp only []; omega⟩
end Go.Proofs.Ytgcimeldofbgkaa
