/-
  Walks over the program's counting of characters: count, Valid, Runes.
-/
import Derived.Test.YtlkdcdmdkncjoaaDoorG
import Derived.Test.YtlkdcdmdkncjoaaDoorQB
namespace Go.Proofs.YtlkdcdmdkncjoaaDoor
open Go.RowKit
set_option maxRecDepth 1000000

theorem str_list (xs : List Int) : (strOfNums xs).toList = xs.map fun n => UInt8.ofNat n.toNat := by
  rw [strOfNums, ByteArray.toList_mk]
theorem str_cut (xs : List Int) (a b : Nat) : (strOfNums xs).extract a b = strOfNums ((xs.take b).drop a) := by
  apply ByteArray.ext
  apply Array.ext'
  simp [strOfNums, ByteArray.data_extract, List.map_drop, List.map_take, List.drop_take]
theorem str_eq {xs ys : List Int} (hx : ∀ x ∈ xs, 0 ≤ x ∧ x ≤ 255) (hy : ∀ x ∈ ys, 0 ≤ x ∧ x ≤ 255) : ((strOfNums xs).toList == (strOfNums ys).toList) = decide (xs = ys) := by
  by_cases h : xs = ys
  · subst h; simp
  · have : (strOfNums xs).toList ≠ (strOfNums ys).toList := fun e => h (strOfNums_inj xs ys hx hy (by
      apply ByteArray.ext; apply Array.ext'
      rw [str_list, str_list] at e
      simpa [strOfNums] using e))
    simp [h, this]

def preB (l : List Int) : Bool := decide (l.take 3 = [239, 191, 189])
theorem preB_iff (l : List Int) : preB l = true ↔ pre l := by simp [preB, pre]

theorem prefixS (l : List Int) (w : World) (hl : l.length ≤ 9223372036854775807) (hb : ∀ x ∈ l, 0 ≤ x ∧ x ≤ 255) : Calls Tryd.prog 45 #[.string (strOfNums l), .string ⟨#[239, 191, 189]⟩] w fun e w' => e = .returned (.bool (preB l)) ∧ w = w' := by
  have hs := strOfNums_size l
  have h1 : Hid ((((strOfNums l).extract 0 3).toList == [239, 191, 189]) = preB l) := by
    show _ = _
    rw [str_cut, List.drop_zero, show ([239, 191, 189] : List UInt8) = (strOfNums [239, 191, 189]).toList by rw [str_list]; rfl, str_eq (fun x hx => hb x (List.mem_of_mem_take hx)) (by simp)]
    rfl
  have h2 : Hid ((l.length : Int) < 3 → preB l = false) := fun h => by
    unfold preB
    simp
    intro e
    have := congrArg List.length e
    simp at this
    omega
  go_enter Tryd.func45, Tryd.ntmps45
  go_wp2
  · go_ret
    exact ⟨ret_bool h1.out, rfl⟩
  · go_ret
    exact ⟨ret_bool (h2.out ‹_›).symm, rfl⟩
theorem prefixW (l : List Int) (w : World) (hl : l.length ≤ 9223372036854775807) (hb : ∀ x ∈ l, 0 ≤ x ∧ x ≤ 255) : Calls Tryd.prog 37 #[.string (strOfNums l), .string ⟨#[239, 191, 189]⟩] w fun e w' => e = .returned (.bool (preB l)) ∧ w = w' := by
  go_enter Tryd.func37, Tryd.ntmps37
  go_wp2_with (go_at_call 45; refine (prefixS l _ hl hb).mono ?_; rintro e w' ⟨rfl, rfl⟩)
  go_ret
  exact ⟨rfl, rfl⟩

/-- One step of the counting. -/
theorem rn_step {xs : List Int} {pos f : Nat} {n : Int} (h : pos < xs.length) (hc : chr (xs.drop pos) ≠ 0) : rnF (f + 1) (xs.drop pos) n = rnF f (xs.drop (pos + chr (xs.drop pos))) (n + 1) := by
  rw [rnF, if_neg (by simp; omega), if_neg hc, List.drop_drop]
theorem rn_bad {xs : List Int} {pos f : Nat} {n : Int} (h : pos < xs.length) (hc : chr (xs.drop pos) = 0) : rnF (f + 1) (xs.drop pos) n = -1 := by
  rw [rnF, if_neg (by simp; omega), if_pos hc]
theorem rn_end {xs : List Int} {pos f : Nat} {n : Int} (h : ¬ pos < xs.length) : rnF f (xs.drop pos) n = n := by
  rw [List.drop_eq_nil_of_le (by omega), rnF_nil]

end Go.Proofs.YtlkdcdmdkncjoaaDoor
