/-
  The law's own look: are two rows of words the same, but for places?
-/
import Derived.Test.YtlkdcdmdkncjoaaDoorVD
import Derived.Test.YtlkdcdmdkncjoaaDoorYN
import Derived.BigQuiet
namespace Go.Proofs.YtlkdcdmdkncjoaaDoor
open Go.RowKit
set_option maxRecDepth 1000000
set_option maxHeartbeats 4000000
set_option linter.unusedVariables false
set_option linter.unusedSimpArgs false

theorem likeIn (b1 off1 b2 off2 len c1 c2 : Nat) (ms ns : List Mw) (w : World) (h1 : ReadsW w (some ⟨b1, off1, none⟩) len c1 ms) (h2 : ReadsW w (some ⟨b2, off2, none⟩) len c2 ns) (hlk : LkM ms ns) (h0 : 0 < len) :
    Calls Tryd.prog 12 #[.slice (some ⟨b1, off1, none⟩) len c1, .slice (some ⟨b2, off2, none⟩) len c2] w fun e w' => e = .returned (.bool true) ∧ Below w.heap.size w w' := by
  have hlm : len ≤ 9223372036854775807 := Nat.le_trans h1.le h1.max
  have hln := hid h1.length
  have hln2 := hid h2.length
  have HLK := hid hlk
  have H1 := hid h1
  have H2 := hid h2
  clear h1 h2 hlk
  go_enter Tryd.func12, Tryd.ntmps12
  go_wp2
  go_loopw [5] (fun r wr => ∃ k : Nat, k ≤ len ∧ r = .int .i64 k ∧ Hid (Below w.heap.size w wr)) (fun r _ => len - (intOf r).toNat)
  case atStart => exact ⟨0, by omega, rfl, hid (Below.refl _ _)⟩
  case round =>
    obtain ⟨k, hk, rfl, hbw⟩ := hrel
    by_cases hlt : k < len
    · obtain ⟨x, hx⟩ : ∃ x, ms[k]? = some x := ⟨_, List.getElem?_eq_getElem (by rw [hln.out]; exact hlt)⟩
      obtain ⟨y, hy⟩ : ∃ y, ns[k]? = some y := ⟨_, List.getElem?_eq_getElem (by rw [hln2.out]; exact hlt)⟩
      have hxy := lkM_get _ _ _ _ _ HLK.out hx hy
      have g1 := readsW_kept H1.out hbw.out
      have g2 := readsW_kept H2.out hbw.out
      rcases g1.cells with ⟨h, _⟩ | ⟨b, off, e, hc1⟩
      · omega
      cases e
      rcases g2.cells with ⟨h, _⟩ | ⟨b, off, e, hc2⟩
      · omega
      cases e
      obtain ⟨sa, sc, p0, p1, p2, p3, _, _, hr1⟩ := hc1 k x hx
      obtain ⟨ta, tc, q0, q1, q2, q3, _, _, hr2⟩ := hc2 k y hy
      have hB1 : b1 < wr.heap.size := World.block_lt_of_cell? _ _ p0
      have hB2 : b2 < wr.heap.size := World.block_lt_of_cell? _ _ q0
      clear hc1 hc2 g1 g2 hx hy
      have hki : (k : Int) < (len : Int) := by omega
      have hk0 : (0 : Int) ≤ (k : Int) := by omega
      obtain ⟨kind, s, n, bb, line, col⟩ := x
      obtain ⟨kind', s', n', bb', line', col'⟩ := y
      dsimp only at p0 p1 p2 p3 q0 q1 q2 q3 hr1 hr2 hxy
      obtain ⟨rfl, rfl, rfl, rfl⟩ := hxy
      have k1 : ∀ z, (convert 30 9 (.slice sa bb.length sc)).run Tryd.prog (wr.drewN z) = .ok (.string (strOfNums bb)) (wr.drewN z) := fun z => conv (reads_kept hr1 (below_drewN _ _))
      have k2 : ∀ z, (convert 30 9 (.slice ta bb.length tc)).run Tryd.prog (wr.drewN z) = .ok (.string (strOfNums bb)) (wr.drewN z) := fun z => conv (reads_kept hr2 (below_drewN _ _))
      clear hr1 hr2
      go_wp2_with fail
      go_quiet (fail)
      go_wp2
      exact ⟨⟨k + 1, by omega, by go_num, hid (below_trans hbw.out (below_drewN _ _))⟩, by simp [intOf]; omega⟩
    · go_wp2
      go_ret
      exact ⟨rfl, hbw.out⟩
end Go.Proofs.YtlkdcdmdkncjoaaDoor
