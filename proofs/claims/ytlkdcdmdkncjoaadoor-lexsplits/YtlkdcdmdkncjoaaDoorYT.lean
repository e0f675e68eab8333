/-
  P4.1, P4.2: the law's walk.
-/
import Derived.Test.YtlkdcdmdkncjoaaDoorYR
import Derived.Test.YtlkdcdmdkncjoaaDoorGX
namespace Go.Proofs.YtlkdcdmdkncjoaaDoor
open Go.RowKit
set_option maxRecDepth 1000000
set_option maxHeartbeats 4000000
set_option linter.unusedVariables false

theorem refR (xs : List Int) (w : World) (hb : ∀ x ∈ xs, 0 ≤ x ∧ x ≤ 255) (hm : xs.length ≤ 9223372036854775807) : Calls Tryd.prog 11 #[.string (strOfNums xs)] w fun e w' => SplitG w (outE xs) e w' := by
  by_cases h : 65536 < xs.length
  · exact refBig xs w h hm
  · exact refIn xs w hb (by omega)
theorem splitsWith (s : ByteArray) (ms : List Mw) (cd l c : Int) (w : World) (hs : Sentinel w 2)
    (H1 : ∀ W : World, Sentinel W 2 → Calls Tryd.prog 7 #[.string s] W fun e w' => SplitG W (ms, cd, l, c) e w')
    (H2 : ∀ W : World, Calls Tryd.prog 11 #[.string s] W fun e w' => SplitG W (ms, cd, l, c) e w') :
    Calls Tryd.prog 4 #[.string s] w fun e w' => e = .returned (.bool true) ∧ Below w.heap.size w w' := by
  have HS := hid hs
  replace H1 := hid H1
  replace H2 := hid H2
  clear hs
  go_enter Tryd.func4, Tryd.ntmps4
  go_wp2_with fail
  refine (H1.out _ HS.out).mono ?_
  rintro e w1 ⟨a1, c1, rfl, hr1, hb1⟩
  have HB := hid hb1
  have HR1 := hid hr1
  clear hb1 hr1
  go_wp2_with fail
  refine (H2.out _).mono ?_
  rintro e w2 ⟨a2, c2, rfl, hr2, hb2⟩
  have HE := hid ((Blk.new w1 25 #[.int .i64 cd, .int .i64 0, .int .i64 l, .int .i64 c]).kept hb2)
  replace HR1 := hid (readsW_kept HR1.out (below_trans (below_alloc _) hb2))
  have HR2 := hid hr2
  replace HB := hid (below_trans (below_trans HB.out (below_alloc _)) hb2)
  clear hb2 hr2
  go_wp2_with fail
  refine (awake4 _ (HS.out.kept (below_trans HB.out (below_alloc _)))).mono ?_
  rintro e w3 ⟨rfl, hb3⟩
  have HF := hid ((Blk.new w2 25 #[.int .i64 cd, .int .i64 0, .int .i64 l, .int .i64 c]).kept hb3)
  replace HE := hid ((HE.out.kept (below_alloc _)).kept hb3)
  replace HR1 := hid (readsW_kept HR1.out (below_trans (below_alloc _) hb3))
  replace HR2 := hid (readsW_kept HR2.out (below_trans (below_alloc _) hb3))
  replace HB := hid (below_trans (below_trans HB.out (below_alloc _)) hb3)
  clear hb3
  have e0 : w3.cell? ⟨w1.heap.size, 0, none⟩ = some (.int .i64 cd) := HE.out.cell 0 _ rfl
  have e1 : w3.cell? ⟨w1.heap.size, 1, none⟩ = some (.int .i64 0) := HE.out.cell 1 _ rfl
  have e2 : w3.cell? ⟨w1.heap.size, 2, none⟩ = some (.int .i64 l) := HE.out.cell 2 _ rfl
  have e3 : w3.cell? ⟨w1.heap.size, 3, none⟩ = some (.int .i64 c) := HE.out.cell 3 _ rfl
  have f0 : w3.cell? ⟨w2.heap.size, 0, none⟩ = some (.int .i64 cd) := HF.out.cell 0 _ rfl
  have f1 : w3.cell? ⟨w2.heap.size, 1, none⟩ = some (.int .i64 0) := HF.out.cell 1 _ rfl
  have f2 : w3.cell? ⟨w2.heap.size, 2, none⟩ = some (.int .i64 l) := HF.out.cell 2 _ rfl
  have f3 : w3.cell? ⟨w2.heap.size, 3, none⟩ = some (.int .i64 c) := HF.out.cell 3 _ rfl
  go_wp2_with fail
  refine (sameYes a1 a2 ms.length c1 ms.length c2 ms _ HR1.out HR2.out).mono ?_
  rintro e w4 ⟨rfl, hb4⟩
  replace HB := hid (below_trans HB.out hb4)
  clear hb4
  go_wp2
  go_ret
  exact ⟨rfl, HB.out⟩
theorem lexSplitsW (s : ByteArray) (w : World) (hm : s.size ≤ maxLen) (hs : Sentinel w 2) :
    Calls Tryd.prog 4 #[.string s] w fun e w' => e = .returned (.bool true) ∧ Below w.heap.size w w' := by
  have hl : (numsS s).length ≤ 9223372036854775807 := by
    rw [numsS_len]
    unfold maxLen at hm
    have e : s.data.toList.length = s.size := rfl
    rw [e]
    exact Nat.le_trans hm (by decide)
  obtain ⟨O, hO⟩ : ∃ O, outE (numsS s) = O := ⟨_, rfl⟩
  obtain ⟨ms, cd, l, c⟩ := O
  exact splitsWith s ms cd l c w hs (fun W g => by have := splitW (numsS s) W (numsS_bd s) hl g; rw [numsS_str, hO] at this; exact this) (fun W => by have := refR (numsS s) W (numsS_bd s) hl; rw [numsS_str, hO] at this; exact this)
end Go.Proofs.YtlkdcdmdkncjoaaDoor
