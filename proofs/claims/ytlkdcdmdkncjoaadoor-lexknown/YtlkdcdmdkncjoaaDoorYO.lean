/-
  Chapter 4's examples: the law's walk.
-/
import Derived.Test.YtlkdcdmdkncjoaaDoorYN
namespace Go.Proofs.YtlkdcdmdkncjoaaDoor
open Go.RowKit
set_option maxRecDepth 1000000
set_option maxHeartbeats 4000000
set_option linter.unusedVariables false

theorem failsW (xs : List Int) (cd l c : Int) (w : World) (hb : ∀ x ∈ xs, 0 ≤ x ∧ x ≤ 255) (hm : xs.length ≤ 1000) (hs : Sentinel w 2) (hE : outE xs = ([], cd, l, c)) :
    Calls Tryd.prog 10 #[.string (strOfNums xs), .int .i64 cd, .int .i64 l, .int .i64 c] w fun e w' => e = .returned (.bool true) ∧ Below w.heap.size w w' := by
  have HSP := hid ((splitW xs w hb (by omega) hs).mono fun e w' h => splitG_is h hE)
  clear hs hb hm hE
  go_enter Tryd.func10, Tryd.ntmps10
  go_wp2_with fail
  refine HSP.out.mono ?_
  rintro e w1 ⟨a, k, rfl, hr, hb⟩
  have HB := hid hb
  clear hr hb HSP
  go_wp2
  go_ret
  exact ⟨by simp, below_trans HB.out (below_alloc _)⟩
def wordsB : List Mw := [⟨3, [34, 97, 92, 110, 34], 0, [97, 10], 1, 1⟩, ⟨5, [], 0, [], 2, 1⟩]
def wordsC : List Mw := [⟨5, [], 0, [], 1, 1⟩]
theorem outE_B : outE [34, 97, 92, 110, 34, 32, 47, 47, 32, 120, 10] = (wordsB, 0, 0, 0) := by rfl
theorem outE_C : outE [] = (wordsC, 0, 0, 0) := by rfl
theorem lexKnownW (w : World) (hs : Sentinel w 2) : Calls Tryd.prog 3 #[] w fun e w' => e = .returned (.bool true) ∧ Below w.heap.size w w' := by
  have HS := hid hs
  have HSP := hid (fun W (g : Sentinel W 2) => (splitW [34, 97, 92, 110, 34, 32, 47, 47, 32, 120, 10] W (by decide) (by decide) g).mono fun e w' h => splitG_is h outE_B)
  have HSQ := hid (fun W (g : Sentinel W 2) => (splitW [] W (by simp) (by decide) g).mono fun e w' h => splitG_is h outE_C)
  have HAW := hid (fun W (g : Sentinel W 2) => awake4 W g)
  have F1 := hid (fun W (g : Sentinel W 2) => failsW [47, 42, 32, 120] 11 1 1 W (by decide) (by decide) g rfl)
  have F2 := hid (fun W (g : Sentinel W 2) => failsW [49, 97] 11 1 1 W (by decide) (by decide) g rfl)
  have F3 := hid (fun W (g : Sentinel W 2) => failsW [48, 120] 11 1 1 W (by decide) (by decide) g rfl)
  have F4 := hid (fun W (g : Sentinel W 2) => failsW [35] 11 1 1 W (by decide) (by decide) g rfl)
  have F5 := hid (fun W (g : Sentinel W 2) => failsW [34, 97] 11 1 1 W (by decide) (by decide) g rfl)
  have F6 := hid (fun W (g : Sentinel W 2) => failsW [49, 56, 52, 52, 54, 55, 52, 52, 48, 55, 51, 55, 48, 57, 53, 53, 49, 54, 49, 54] 7 1 1 W (by decide) (by decide) g rfl)
  have F7 := hid (fun W (g : Sentinel W 2) => failsW [47, 42, 42, 47, 32, 34, 92, 113, 34] 11 1 6 W (by decide) (by decide) g rfl)
  clear hs
  go_enter Tryd.func3, Tryd.ntmps3
  go_wp2_with fail
  refine (HSP.out _ HS.out).mono ?_
  rintro e w1 ⟨a, c, rfl, hr, hb⟩
  have HB := hid hb
  have HA := hid hr
  clear hr hb HSP
  go_wp2_with fail
  refine (HSQ.out _ (HS.out.kept (below_trans HB.out (below_alloc _)))).mono ?_
  rintro e w2 ⟨a2, k2, rfl, hr, hb⟩
  have HE := hid ((Blk.new w1 25 #[.int .i64 0, .int .i64 0, .int .i64 0, .int .i64 0]).kept hb)
  replace HA := hid (readsW_kept HA.out (below_trans (below_alloc _) hb))
  replace HB := hid (below_trans (below_trans HB.out (below_alloc _)) hb)
  have HC := hid hr
  clear hr hb HSQ
  go_wp2_with fail
  refine (HAW.out _ (HS.out.kept (below_trans HB.out (below_alloc _)))).mono ?_
  rintro e w3 ⟨rfl, hb⟩
  have HF := hid ((Blk.new w2 25 #[.int .i64 0, .int .i64 0, .int .i64 0, .int .i64 0]).kept hb)
  replace HE := hid ((HE.out.kept (below_alloc _)).kept hb)
  replace HA := hid (readsW_kept HA.out (below_trans (below_alloc _) hb))
  replace HC := hid (readsW_kept HC.out (below_trans (below_alloc _) hb))
  replace HB := hid (below_trans (below_trans HB.out (below_alloc _)) hb)
  clear hb HAW
  have e0 : w3.cell? ⟨w1.heap.size, 0, none⟩ = some (.int .i64 0) := HE.out.cell 0 _ rfl
  have elt := HE.out.lt
  have HL := hid (readsW_lit (w3.alloc (.cells #[.int .u8 97, .int .u8 10] 5)) 33 [(⟨3, [34, 97, 92, 110, 34], 0, [97, 10], 1, 1⟩, .slice (some ⟨w3.heap.size, 0, none⟩) 2 2), (⟨5, [], 0, [], 2, 1⟩, .slice none 0 0)] #[.int .i64 3, .string ⟨#[34, 97, 92, 110, 34]⟩, .int .u64 0, .slice (some ⟨w3.heap.size, 0, none⟩) 2 2, .int .i64 1, .int .i64 1, .int .i64 5, .string ⟨#[]⟩, .int .u64 0, .slice none 0 0, .int .i64 2, .int .i64 1] rfl (by
    intro x hx
    simp at hx
    rcases hx with rfl | rfl
    · exact ⟨_, _, rfl, reads_new w3 [97, 10] (by decide) (by decide)⟩
    · exact ⟨none, 0, rfl, reads_nil _⟩) (by simp))
  go_wp2_with fail
  refine (sameYes a (some ⟨w3.heap.size + 1, 0, none⟩) 2 c 2 2 wordsB _ (readsW_kept HA.out (below_twoo _ _)) (by have := HL.out; rw [World.size_alloc] at this; exact this)).mono ?_
  rintro e w4 ⟨rfl, hb⟩
  replace HF := hid ((HF.out.kept (below_twoo _ _)).kept hb)
  replace HC := hid (readsW_kept HC.out (below_trans (below_twoo _ _) hb))
  replace HB := hid (below_trans (below_trans HB.out (below_twoo _ _)) hb)
  clear hb HL HA e0 elt HE
  have e1 : w4.cell? ⟨w2.heap.size, 0, none⟩ = some (.int .i64 0) := HF.out.cell 0 _ rfl
  have elt := HF.out.lt
  have HL := hid (readsW_lit w4 33 (wordsC.map fun m => (m, .slice none 0 0)) #[.int .i64 5, .string ⟨#[]⟩, .int .u64 0, .slice none 0 0, .int .i64 1, .int .i64 1] rfl (bare_each _ _ (by simp [wordsC])) (by decide))
  go_wp2_with fail
  refine (sameYes a2 (some ⟨w4.heap.size, 0, none⟩) 1 k2 1 1 wordsC _ (readsW_kept HC.out (below_alloc _)) (by exact HL.out)).mono ?_
  rintro e w5 ⟨rfl, hb⟩
  replace HB := hid (below_trans (below_trans HB.out (below_alloc _)) hb)
  clear hb HL HC e1 elt HF
  go_wp2_with fail
  refine (F1.out _ (HS.out.kept HB.out)).mono ?_
  rintro e w6 ⟨rfl, hb⟩
  replace HB := hid (below_trans HB.out hb)
  clear hb
  go_wp2_with fail
  refine (F2.out _ (HS.out.kept HB.out)).mono ?_
  rintro e w7 ⟨rfl, hb⟩
  replace HB := hid (below_trans HB.out hb)
  clear hb
  go_wp2_with fail
  refine (F3.out _ (HS.out.kept HB.out)).mono ?_
  rintro e w8 ⟨rfl, hb⟩
  replace HB := hid (below_trans HB.out hb)
  clear hb
  go_wp2_with fail
  refine (F4.out _ (HS.out.kept HB.out)).mono ?_
  rintro e w9 ⟨rfl, hb⟩
  replace HB := hid (below_trans HB.out hb)
  clear hb
  go_wp2_with fail
  refine (F5.out _ (HS.out.kept HB.out)).mono ?_
  rintro e w10 ⟨rfl, hb⟩
  replace HB := hid (below_trans HB.out hb)
  clear hb
  go_wp2_with fail
  refine (F6.out _ (HS.out.kept HB.out)).mono ?_
  rintro e w11 ⟨rfl, hb⟩
  replace HB := hid (below_trans HB.out hb)
  clear hb
  go_wp2_with fail
  refine (F7.out _ (HS.out.kept HB.out)).mono ?_
  rintro e w12 ⟨rfl, hb⟩
  replace HB := hid (below_trans HB.out hb)
  clear hb
  go_wp2
  go_ret
  exact ⟨rfl, HB.out⟩
end Go.Proofs.YtlkdcdmdkncjoaaDoor
