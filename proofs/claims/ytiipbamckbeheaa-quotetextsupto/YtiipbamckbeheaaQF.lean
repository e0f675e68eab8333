/-
  Walks over the program's Quote.
-/
import Derived.Test.YtiipbamckbeheaaQE
namespace Go.Proofs.Ytiipbamckbeheaa
open Go.RowKit

theorem qt_bytes {xs : List Int} (h : ∀ x ∈ xs, 0 ≤ x ∧ x ≤ 255) : ∀ x ∈ qt xs, 0 ≤ x ∧ x ≤ 255 := fun x hx => by have := qt_bd h x hx; omega
theorem flat_snoc {xs : List Int} {k : Nat} (h : k < xs.length) : (xs.take (k + 1)).flatMap qp = (xs.take k).flatMap qp ++ qp (xs[k]?.getD 0) := by
  rw [List.take_add_one, List.flatMap_append]
  simp [h]
theorem flat_bytes {xs : List Int} (h : ∀ x ∈ xs, 0 ≤ x ∧ x ≤ 255) (k : Nat) : ∀ x ∈ 34 :: (xs.take k).flatMap qp, 0 ≤ x ∧ x ≤ 255 := by
  intro x hx
  rcases List.mem_cons.1 hx with rfl | hx
  · omega
  · obtain ⟨c, hc, hx⟩ := List.mem_flatMap.1 hx
    have h1 := h c (List.mem_of_mem_take hc)
    have := qp_bd h1.1 h1.2 x hx
    omega
theorem flat_size (xs : List Int) (k : Nat) : (34 :: (xs.take k).flatMap qp).length ≤ 1 + 4 * k := by
  have := (flat_len (xs.take k)).2
  simp only [List.length_cons]
  have h2 : (xs.take k).length ≤ k := by simp; omega
  omega

set_option maxRecDepth 1000000 in
set_option maxHeartbeats 2000000 in
theorem quoteW (a : Option Addr) (len cap : Nat) (xs : List Int) (w : World) (h : Reads w a len cap xs) (hm : len ≤ 1048576) :
    Calls Try.prog 13 #[.slice a len cap] w fun e w' => e = .returned (.string (strOfNums (qt xs))) ∧ Below w.heap.size w w' := by
  obtain ⟨i0, hi, hz0, hz1, hz2⟩ := info_parts Try.info5
  obtain ⟨w1, hrun, hown, hgr⟩ := run_makeSlice_owned (P := Try.prog) w w.heap.size 22 5 i0 (.int .u8 0) 1 Try.underlying22 hi hz0 hz1 .i64 .i64 (len + 2) (by omega) (by rw [hz2]; omega) (by unfold maxLen; omega) (Nat.le_refl _)
  rw [show ((len + 2 : Nat) : Int) = (len : Int) + 2 by omega] at hrun
  have hb1 : Below w.heap.size w w1 := Below.grown (Below.refl _ _) hgr (Nat.le_refl _) (fun k hk => by cases hk)
  obtain ⟨v2, w2, hr2, ho2, hg2⟩ := append_byte w.heap.size _ 0 _ w1 34 hown hb1.size (by omega)
  have hb2 : Below w.heap.size w w2 := hb1.trans (hg2.below hb1.size (fun k hk => (hown.lt k hk).1))
  have HR2 := hid hr2
  have HO2 := hid ho2
  have HB2 := hid hb2
  have HX := hid h
  have Hl := hid h.length
  have Hb := hid (bd_mem h.bd)
  clear h hr2 ho2 hb2 hg2 hown hb1 hgr
  go_enter Try.func13, Try.ntmps13
  go_wp2_with (first | (at_builtin; refine wpList_append_ran rfl _ _ 22 22 rfl rfl _ _ v2 w2 rfl rfl HR2.out ?_))
  go_loopw [3, 15] (fun o r wr => ∃ (k n : Nat) (ps : List Int), k ≤ len ∧ r = .int .i64 k ∧ n ≤ 1 + 4 * k ∧ Hid (ps.length = n) ∧ Hid (wr.ownsRow w.heap.size 5 1 o n (ps.map (Value.int .u8))) ∧ Hid (ps = 34 :: (xs.take k).flatMap qp) ∧ Hid (Below w.heap.size w wr)) (fun _ r _ => len - (intOf r).toNat)
  case atStart => exact ⟨0, 1, [34], by omega, rfl, by omega, hid rfl, HO2, hid rfl, HB2⟩
  case round =>
    obtain ⟨k, n, ps, hk, rfl, hn, HN, HO, HP, HB⟩ := hrel
    by_cases hlt : k < len
    · rcases HX.out.cells with ⟨h0, _⟩ | ⟨b, off, rfl, hc⟩
      · omega
      obtain ⟨c, hcc⟩ : ∃ c, xs[k]?.getD 0 = c := ⟨_, rfl⟩
      have hcb : 0 ≤ c ∧ c ≤ 255 := by have := HX.out.bd k; rw [List.getD_eq_getElem?_getD, hcc] at this; exact this
      have hck : wr.cell? ⟨b, off + k, none⟩ = some (.int .u8 c) := by
        have h1 := hc k hlt
        rw [List.getD_eq_getElem?_getD, hcc] at h1
        rw [HB.out.cell (p := ⟨b, off + k, none⟩) (World.block_lt_of_cell? _ _ h1)]; exact h1
      have hb0 := hcb.1
      have hb1 := hcb.2
      have Hcc := hid hcc
      clear hcc hcb hc
      go_wp2_with (go_at_call 18; refine (addPartW w.heap.size _ n _ c _ HO.out HB.out.size (by omega) hb0 hb1).mono ?_; rintro e w' ⟨v', rfl, ho', hg'⟩)
      have hq := qp_len c
      refine ⟨⟨k + 1, n + (qp c).length, ps ++ qp c, by omega, by go_num, by omega, hid (by rw [List.length_append, HN.out]), hid (by rw [List.map_append]; exact ho'), hid ?_, hid (HB.out.trans (hg'.below HB.out.size (fun j hj => (HO.out.lt j hj).1)))⟩, by simp [intOf]; omega⟩
      rw [flat_snoc (by rw [Hl.out]; exact hlt), Hcc.out, HP.out]
      rfl
    · obtain rfl : k = len := by omega
      obtain ⟨v3, w3, hr3, ho3, hg3⟩ := append_byte w.heap.size _ n _ wr 34 HO.out HB.out.size (by omega)
      have hb3 : Below w.heap.size w w3 := HB.out.trans (hg3.below HB.out.size (fun j hj => (HO.out.lt j hj).1))
      have hqt : ps ++ [34] = qt xs := by rw [HP.out, ← Hl.out, List.take_length]; rfl
      rw [show ps.map (Value.int .u8) ++ [.int .u8 34] = (qt xs).map (Value.int .u8) by rw [← hqt, List.map_append]; rfl] at ho3
      obtain ⟨a3, c3, rfl, hrd⟩ := own_reads ho3 (qt_bytes Hb.out)
      have hcv := conv hrd
      have HR3 := hid hr3
      have HB3 := hid hb3
      clear hr3 ho3 hg3 hb3 hqt hrd HB
      go_wp2_with (first | (at_builtin; refine wpList_append_ran rfl _ _ 22 22 rfl rfl _ _ _ w3 rfl rfl HR3.out ?_))
      go_ret
      exact ⟨rfl, HB3.out⟩
end Go.Proofs.Ytiipbamckbeheaa
