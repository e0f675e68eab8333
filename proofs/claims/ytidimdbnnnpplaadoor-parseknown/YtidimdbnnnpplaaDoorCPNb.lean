/-
  The reader of the program parse: a map's field.
  The reader of the program parse: a map's field.
  A declaration that the program builds, in a block of its own.
-/
import Derived.Test.YtidimdbnnnpplaaDoorCPKb
import Derived.Deep.RegionHeld2
import Derived.Test.YtidimdbnnnpplaaDoorPN
namespace Go.Proofs.YtidimdbnnnpplaaDoor
open Go.RowKit
set_option maxRecDepth 1000000
set_option linter.unusedVariables false
set_option linter.unusedSimpArgs false
set_option maxHeartbeats 8000000

section
variable (w0 : World) (b off cap : Nat) (ms : List Mw) (p : Nat) (w : World) (i : Nat)
theorem mapped_bad (hT : (prB (stA ms i)).2.2.cd ≠ 0) (hml : ms.length ≤ 70000) (h : PR w0 b off cap ms p w i) : Calls Tryd.prog 58 #[.pointer (some ⟨p, 0, none⟩)] w fun e w' => Keep (· ≠ p) w w' ∧ ((∃ j g, Hid ((prsM (stA ms i)).2 = stA ms j) ∧ Hid (g = (prsM (stA ms i)).1) ∧ e = .returned (.agg #[.string (strOfNums g.name), .string (strOfNums g.ty), .string (strOfNums g.key), .int .u64 g.num, .int .i64 g.label, .int .i64 g.packed, .int .i64 g.oneof, .int .i64 g.at1.1, .int .i64 g.at1.2, .int .i64 g.nat1.1, .int .i64 g.nat1.2, .int .i64 g.tat.1, .int .i64 g.tat.2, .int .i64 g.mat.1, .int .i64 g.mat.2]) ∧ Hid (PR w0 b off cap ms p w' j)) ∨ Fell (prsM (stA ms i)).2 e) := by
  have HML := hid hml
  have HX := hid (prs_is (stA ms i))
  have HT := hid hT
  clear hT
  clear hml
  have hk0 : Hid (Keep (· ≠ p) w w) := hid (Keep.refl _ _)
  have hpl : p < w.heap.size := h.blk.lt
  have HR0 := hid h
  clear h
  go_enter Tryd.func58, Tryd.ntmps58
  go_wp2_with fail
  refine (skipW w0 b off cap ms p _ i ⟨#[109, 97, 112]⟩ wMap rfl plain_map (by have := HR0.out; (repeat (first | with_reducible assumption | with_reducible refine prall15 ?_ (by first | (simp; done) | (simp; omega) | omega) | with_reducible refine prall9 ?_ (by first | (simp; done) | (simp; omega) | omega) | with_reducible refine prall6 ?_ (by first | (simp; done) | (simp; omega) | omega) | with_reducible refine PR.set ?_ (by first | (simp; done) | (simp; omega) | omega) _ | with_reducible refine PR.alloc ?_ _ | with_reducible refine PR.drew ?_)))).mono ?_
  rintro e w1 ⟨hK1, (⟨j1, ua, uc, he1, rfl, HR1⟩ | ⟨hcd, rfl⟩)⟩
  case inr =>
    have hk1 : Hid (Keep (· ≠ p) w w1) := hid (Keep.trans (by have := hk0.out; (repeat (first | with_reducible assumption | with_reducible refine kpall15 ?_ (by first | (refine Or.inr ?_; first | (simp; done) | (simp; omega) | omega)) | with_reducible refine kpall9 ?_ (by first | (refine Or.inr ?_; first | (simp; done) | (simp; omega) | omega)) | with_reducible refine kpall6 ?_ (by first | (refine Or.inr ?_; first | (simp; done) | (simp; omega) | omega)) | with_reducible refine kp_set ?_ (by first | (refine Or.inl ?_; simp; done) | (refine Or.inr ?_; first | (simp; done) | (simp; omega) | omega)) _ | with_reducible refine kp_alloc ?_ _ | with_reducible refine kp_drew ?_ | with_reducible refine kp_drewN ?_ _ | with_reducible exact Keep.refl _ _))) hK1)
    clear hK1
    go_wp2
    exact ⟨rfl, by have := hk1.out; (repeat (first | with_reducible assumption | with_reducible refine kpall15 ?_ (by first | (refine Or.inr ?_; first | (simp; done) | (simp; omega) | omega)) | with_reducible refine kpall9 ?_ (by first | (refine Or.inr ?_; first | (simp; done) | (simp; omega) | omega)) | with_reducible refine kpall6 ?_ (by first | (refine Or.inr ?_; first | (simp; done) | (simp; omega) | omega)) | with_reducible refine kp_set ?_ (by first | (refine Or.inl ?_; simp; done) | (refine Or.inr ?_; first | (simp; done) | (simp; omega) | omega)) _ | with_reducible refine kp_alloc ?_ _ | with_reducible refine kp_drew ?_ | with_reducible refine kp_drewN ?_ _ | with_reducible exact Keep.refl _ _)), .inr (by rw [show (prsM (stA ms i)).2 = eatM (stA ms i) wMap by unfold prsM prC prB prA; simp only [eat_bad hcd, take_bad hcd, typ_bad hcd, nam_bad hcd]]; exact ⟨hcd, rfl⟩)⟩
  have Cr : Blk w1 (w.heap.size) 44 #[.string ⟨#[]⟩, .string ⟨#[]⟩, .string ⟨#[]⟩, .int .u64 0, .int .i64 0, .int .i64 0, .int .i64 0, .int .i64 0, .int .i64 0, .int .i64 0, .int .i64 0, .int .i64 0, .int .i64 0, .int .i64 0, .int .i64 0] := Blk.keep ((Blk.newAt (by simp)).is (by first | rfl | simp)) hK1 (show w.heap.size ≠ p by omega)
  have hs1 := hK1.size
  try simp at hs1
  have Br := Cr
  clear Cr
  have xr := Br.cellF
  have yr := Br.frz
  have zr : w.heap.size < w1.heap.size := by omega
  have hp1 : p < w1.heap.size := by omega
  have hq1 : w.heap.size ≤ w1.heap.size := by omega
  have hk1 : Hid (Keep (· ≠ p) w w1) := hid (Keep.trans (by have := hk0.out; (repeat (first | with_reducible assumption | with_reducible refine kpall15 ?_ (by first | (refine Or.inr ?_; first | (simp; done) | (simp; omega) | omega)) | with_reducible refine kpall9 ?_ (by first | (refine Or.inr ?_; first | (simp; done) | (simp; omega) | omega)) | with_reducible refine kpall6 ?_ (by first | (refine Or.inr ?_; first | (simp; done) | (simp; omega) | omega)) | with_reducible refine kp_set ?_ (by first | (refine Or.inl ?_; simp; done) | (refine Or.inr ?_; first | (simp; done) | (simp; omega) | omega)) _ | with_reducible refine kp_alloc ?_ _ | with_reducible refine kp_drew ?_ | with_reducible refine kp_drewN ?_ _ | with_reducible exact Keep.refl _ _))) hK1)
  clear hK1
  go_wp2_with fail
  refine (skipW w0 b off cap ms p _ j1 ⟨#[60]⟩ [60] rfl plain_lt (by have := HR1.out; (repeat (first | with_reducible assumption | with_reducible refine prall15 ?_ (by first | (simp; done) | (simp; omega) | omega) | with_reducible refine prall9 ?_ (by first | (simp; done) | (simp; omega) | omega) | with_reducible refine prall6 ?_ (by first | (simp; done) | (simp; omega) | omega) | with_reducible refine PR.set ?_ (by first | (simp; done) | (simp; omega) | omega) _ | with_reducible refine PR.alloc ?_ _ | with_reducible refine PR.drew ?_)))).mono ?_
  rintro e w2 ⟨hK2, (⟨j2, ua2, uc2, he2, rfl, HR2⟩ | ⟨hcd, rfl⟩)⟩
  case inr =>
    have hk2 : Hid (Keep (· ≠ p) w w2) := hid (Keep.trans (by have := hk1.out; (repeat (first | with_reducible assumption | with_reducible refine kpall15 ?_ (by first | (refine Or.inr ?_; first | (simp; done) | (simp; omega) | omega)) | with_reducible refine kpall9 ?_ (by first | (refine Or.inr ?_; first | (simp; done) | (simp; omega) | omega)) | with_reducible refine kpall6 ?_ (by first | (refine Or.inr ?_; first | (simp; done) | (simp; omega) | omega)) | with_reducible refine kp_set ?_ (by first | (refine Or.inl ?_; simp; done) | (refine Or.inr ?_; first | (simp; done) | (simp; omega) | omega)) _ | with_reducible refine kp_alloc ?_ _ | with_reducible refine kp_drew ?_ | with_reducible refine kp_drewN ?_ _ | with_reducible exact Keep.refl _ _))) hK2)
    clear hK2
    go_wp2
    exact ⟨rfl, by have := hk2.out; (repeat (first | with_reducible assumption | with_reducible refine kpall15 ?_ (by first | (refine Or.inr ?_; first | (simp; done) | (simp; omega) | omega)) | with_reducible refine kpall9 ?_ (by first | (refine Or.inr ?_; first | (simp; done) | (simp; omega) | omega)) | with_reducible refine kpall6 ?_ (by first | (refine Or.inr ?_; first | (simp; done) | (simp; omega) | omega)) | with_reducible refine kp_set ?_ (by first | (refine Or.inl ?_; simp; done) | (refine Or.inr ?_; first | (simp; done) | (simp; omega) | omega)) _ | with_reducible refine kp_alloc ?_ _ | with_reducible refine kp_drew ?_ | with_reducible refine kp_drewN ?_ _ | with_reducible exact Keep.refl _ _)), .inr (by rw [show (prsM (stA ms i)).2 = eatM (stA ms j1) [60] by unfold prsM prC prB prA; rw [he1.out]; simp only [eat_bad hcd, take_bad hcd, typ_bad hcd, nam_bad hcd]]; exact ⟨hcd, rfl⟩)⟩
  have Cr : Blk w2 (w.heap.size) 44 #[.string ⟨#[]⟩, .string ⟨#[]⟩, .string ⟨#[]⟩, .int .u64 0, .int .i64 0, .int .i64 0, .int .i64 0, .int .i64 0, .int .i64 0, .int .i64 0, .int .i64 0, .int .i64 0, .int .i64 0, .int .i64 0, .int .i64 0] := Blk.keep (Br.is (by first | rfl | simp)) hK2 (show w.heap.size ≠ p by omega)
  clear Br xr yr
  have hs2 := hK2.size
  try simp at hs2
  have Br := Cr
  clear Cr
  have xr := Br.cellF
  have yr := Br.frz
  replace zr : w.heap.size < w2.heap.size := by omega
  have hp2 : p < w2.heap.size := by omega
  have hq2 : w.heap.size ≤ w2.heap.size := by omega
  have hk2 : Hid (Keep (· ≠ p) w w2) := hid (Keep.trans (by have := hk1.out; (repeat (first | with_reducible assumption | with_reducible refine kpall15 ?_ (by first | (refine Or.inr ?_; first | (simp; done) | (simp; omega) | omega)) | with_reducible refine kpall9 ?_ (by first | (refine Or.inr ?_; first | (simp; done) | (simp; omega) | omega)) | with_reducible refine kpall6 ?_ (by first | (refine Or.inr ?_; first | (simp; done) | (simp; omega) | omega)) | with_reducible refine kp_set ?_ (by first | (refine Or.inl ?_; simp; done) | (refine Or.inr ?_; first | (simp; done) | (simp; omega) | omega)) _ | with_reducible refine kp_alloc ?_ _ | with_reducible refine kp_drew ?_ | with_reducible refine kp_drewN ?_ _ | with_reducible exact Keep.refl _ _))) hK2)
  clear hK2
  go_wp2_with fail
  refine (takeW w0 b off cap ms p _ j2 1 (by decide) (by have := HR2.out; (repeat (first | with_reducible assumption | with_reducible refine prall15 ?_ (by first | (simp; done) | (simp; omega) | omega) | with_reducible refine prall9 ?_ (by first | (simp; done) | (simp; omega) | omega) | with_reducible refine prall6 ?_ (by first | (simp; done) | (simp; omega) | omega) | with_reducible refine PR.set ?_ (by first | (simp; done) | (simp; omega) | omega) _ | with_reducible refine PR.alloc ?_ _ | with_reducible refine PR.drew ?_)))).mono ?_
  rintro e w3 ⟨hK3, (⟨j3, m1, sa, sc, he3, hm1, rfl, hr1, ho1, HR3⟩ | ⟨hcd, rfl⟩)⟩
  case inr =>
    have hk3 : Hid (Keep (· ≠ p) w w3) := hid (Keep.trans (by have := hk2.out; (repeat (first | with_reducible assumption | with_reducible refine kpall15 ?_ (by first | (refine Or.inr ?_; first | (simp; done) | (simp; omega) | omega)) | with_reducible refine kpall9 ?_ (by first | (refine Or.inr ?_; first | (simp; done) | (simp; omega) | omega)) | with_reducible refine kpall6 ?_ (by first | (refine Or.inr ?_; first | (simp; done) | (simp; omega) | omega)) | with_reducible refine kp_set ?_ (by first | (refine Or.inl ?_; simp; done) | (refine Or.inr ?_; first | (simp; done) | (simp; omega) | omega)) _ | with_reducible refine kp_alloc ?_ _ | with_reducible refine kp_drew ?_ | with_reducible refine kp_drewN ?_ _ | with_reducible exact Keep.refl _ _))) hK3)
    clear hK3
    go_wp2
    exact ⟨rfl, by have := hk3.out; (repeat (first | with_reducible assumption | with_reducible refine kpall15 ?_ (by first | (refine Or.inr ?_; first | (simp; done) | (simp; omega) | omega)) | with_reducible refine kpall9 ?_ (by first | (refine Or.inr ?_; first | (simp; done) | (simp; omega) | omega)) | with_reducible refine kpall6 ?_ (by first | (refine Or.inr ?_; first | (simp; done) | (simp; omega) | omega)) | with_reducible refine kp_set ?_ (by first | (refine Or.inl ?_; simp; done) | (refine Or.inr ?_; first | (simp; done) | (simp; omega) | omega)) _ | with_reducible refine kp_alloc ?_ _ | with_reducible refine kp_drew ?_ | with_reducible refine kp_drewN ?_ _ | with_reducible exact Keep.refl _ _)), .inr (by rw [show (prsM (stA ms i)).2 = (takeM (stA ms j2) 1).2 by unfold prsM prC prB prA; rw [he1.out, he2.out]; simp only [eat_bad hcd, take_bad hcd, typ_bad hcd, nam_bad hcd]]; exact ⟨hcd, rfl⟩)⟩
  have Cr : Blk w3 (w.heap.size) 44 #[.string ⟨#[]⟩, .string ⟨#[]⟩, .string ⟨#[]⟩, .int .u64 0, .int .i64 0, .int .i64 0, .int .i64 0, .int .i64 0, .int .i64 0, .int .i64 0, .int .i64 0, .int .i64 0, .int .i64 0, .int .i64 0, .int .i64 0] := Blk.keep (Br.is (by first | rfl | simp)) hK3 (show w.heap.size ≠ p by omega)
  clear Br xr yr
  have hs3 := hK3.size
  try simp at hs3
  have Br := Cr
  clear Cr
  have xr := Br.cellF
  have yr := Br.frz
  replace zr : w.heap.size < w3.heap.size := by omega
  have hp3 : p < w3.heap.size := by omega
  have hq3 : w.heap.size ≤ w3.heap.size := by omega
  have hk3 : Hid (Keep (· ≠ p) w w3) := hid (Keep.trans (by have := hk2.out; (repeat (first | with_reducible assumption | with_reducible refine kpall15 ?_ (by first | (refine Or.inr ?_; first | (simp; done) | (simp; omega) | omega)) | with_reducible refine kpall9 ?_ (by first | (refine Or.inr ?_; first | (simp; done) | (simp; omega) | omega)) | with_reducible refine kpall6 ?_ (by first | (refine Or.inr ?_; first | (simp; done) | (simp; omega) | omega)) | with_reducible refine kp_set ?_ (by first | (refine Or.inl ?_; simp; done) | (refine Or.inr ?_; first | (simp; done) | (simp; omega) | omega)) _ | with_reducible refine kp_alloc ?_ _ | with_reducible refine kp_drew ?_ | with_reducible refine kp_drewN ?_ _ | with_reducible exact Keep.refl _ _))) hK3)
  clear hK3
  have HPA : Hid (prA (stA ms i) = (m1, stA ms j3)) := hid (by unfold prA; rw [he1.out, he2.out, hm1.out, ← he3.out])
  go_wp2_with fail
  refine (skipW w0 b off cap ms p _ j3 ⟨#[44]⟩ [44] rfl plain_comma (by have := HR3.out; (repeat (first | with_reducible assumption | with_reducible refine prall15 ?_ (by first | (simp; done) | (simp; omega) | omega) | with_reducible refine prall9 ?_ (by first | (simp; done) | (simp; omega) | omega) | with_reducible refine prall6 ?_ (by first | (simp; done) | (simp; omega) | omega) | with_reducible refine PR.set ?_ (by first | (simp; done) | (simp; omega) | omega) _ | with_reducible refine PR.alloc ?_ _ | with_reducible refine PR.drew ?_)))).mono ?_
  rintro e w4 ⟨hK4, (⟨j4, ua4, uc4, he4, rfl, HR4⟩ | ⟨hcd, rfl⟩)⟩
  case inr =>
    have hk4 : Hid (Keep (· ≠ p) w w4) := hid (Keep.trans (by have := hk3.out; (repeat (first | with_reducible assumption | with_reducible refine kpall15 ?_ (by first | (refine Or.inr ?_; first | (simp; done) | (simp; omega) | omega)) | with_reducible refine kpall9 ?_ (by first | (refine Or.inr ?_; first | (simp; done) | (simp; omega) | omega)) | with_reducible refine kpall6 ?_ (by first | (refine Or.inr ?_; first | (simp; done) | (simp; omega) | omega)) | with_reducible refine kp_set ?_ (by first | (refine Or.inl ?_; simp; done) | (refine Or.inr ?_; first | (simp; done) | (simp; omega) | omega)) _ | with_reducible refine kp_alloc ?_ _ | with_reducible refine kp_drew ?_ | with_reducible refine kp_drewN ?_ _ | with_reducible exact Keep.refl _ _))) hK4)
    clear hK4
    go_wp2
    exact ⟨rfl, by have := hk4.out; (repeat (first | with_reducible assumption | with_reducible refine kpall15 ?_ (by first | (refine Or.inr ?_; first | (simp; done) | (simp; omega) | omega)) | with_reducible refine kpall9 ?_ (by first | (refine Or.inr ?_; first | (simp; done) | (simp; omega) | omega)) | with_reducible refine kpall6 ?_ (by first | (refine Or.inr ?_; first | (simp; done) | (simp; omega) | omega)) | with_reducible refine kp_set ?_ (by first | (refine Or.inl ?_; simp; done) | (refine Or.inr ?_; first | (simp; done) | (simp; omega) | omega)) _ | with_reducible refine kp_alloc ?_ _ | with_reducible refine kp_drew ?_ | with_reducible refine kp_drewN ?_ _ | with_reducible exact Keep.refl _ _)), .inr (by rw [show (prsM (stA ms i)).2 = eatM (stA ms j3) [44] by unfold prsM prC prB; rw [HPA.out]; simp only [eat_bad hcd, typ_bad hcd, nam_bad hcd]]; exact ⟨hcd, rfl⟩)⟩
  have Cr : Blk w4 (w.heap.size) 44 #[.string ⟨#[]⟩, .string ⟨#[]⟩, .string ⟨#[]⟩, .int .u64 0, .int .i64 0, .int .i64 0, .int .i64 0, .int .i64 0, .int .i64 0, .int .i64 0, .int .i64 0, .int .i64 0, .int .i64 0, .int .i64 0, .int .i64 0] := Blk.keep ((Br.kept (below_alloc _)).is (by first | rfl | simp)) hK4 (show w.heap.size ≠ p by omega)
  have Cm : Blk w4 (w3.heap.size) 85 #[.int .i64 m1.kind, .string (strOfNums m1.s), .int .u64 m1.n, .slice sa m1.b.length sc, .int .i64 m1.line, .int .i64 m1.col] := Blk.keep ((Blk.newAt (by simp)).is (by first | rfl | simp)) hK4 (show w3.heap.size ≠ p by omega)
  clear Br xr yr
  have hs4 := hK4.size
  try simp at hs4
  have Br := Cr
  clear Cr
  have xr := Br.cellF
  have yr := Br.frz
  replace zr : w.heap.size < w4.heap.size := by omega
  have Bm := Cm
  clear Cm
  have xm := Bm.cellF
  have ym := Bm.frz
  have zm : w3.heap.size < w4.heap.size := by omega
  have hp4 : p < w4.heap.size := by omega
  have hq4 : w.heap.size ≤ w4.heap.size := by omega
  have hk4 : Hid (Keep (· ≠ p) w w4) := hid (Keep.trans (by have := hk3.out; (repeat (first | with_reducible assumption | with_reducible refine kpall15 ?_ (by first | (refine Or.inr ?_; first | (simp; done) | (simp; omega) | omega)) | with_reducible refine kpall9 ?_ (by first | (refine Or.inr ?_; first | (simp; done) | (simp; omega) | omega)) | with_reducible refine kpall6 ?_ (by first | (refine Or.inr ?_; first | (simp; done) | (simp; omega) | omega)) | with_reducible refine kp_set ?_ (by first | (refine Or.inl ?_; simp; done) | (refine Or.inr ?_; first | (simp; done) | (simp; omega) | omega)) _ | with_reducible refine kp_alloc ?_ _ | with_reducible refine kp_drew ?_ | with_reducible refine kp_drewN ?_ _ | with_reducible exact Keep.refl _ _))) hK4)
  clear hK4
  go_wp2_with fail
  have HTc : Hid ((typM (stA ms j4)).2.2.cd ≠ 0) := hid (by have := HT.out; unfold prB at this; rw [HPA.out] at this; simp only [] at this; rw [he4.out] at this; exact this)
  go_region_held2 (fun W => W.cell? ⟨w3.heap.size, 0, none⟩ = some (.int .i64 m1.kind) ∧ W.cell? ⟨w3.heap.size, 1, none⟩ = some (.string (strOfNums m1.s)) ∧ W.cell? ⟨w3.heap.size, 2, none⟩ = some (.int .u64 m1.n) ∧ W.cell? ⟨w3.heap.size, 3, none⟩ = some (.slice sa m1.b.length sc) ∧ W.cell? ⟨w3.heap.size, 4, none⟩ = some (.int .i64 m1.line) ∧ W.cell? ⟨w3.heap.size, 5, none⟩ = some (.int .i64 m1.col)) (first | (have hB := hbad; exact hB.out.elim) | with_reducible exact blkc6 (Vm.out.kept (below_alloc _)) | with_reducible exact blkc6 Vm.out | with_reducible exact blkc6 ((Bm.kept (below_drew1 _)).kept (below_alloc _)) | with_reducible exact blkc6 ((Bm.kept (below_alloc _)).kept (below_drew1 _)) | with_reducible exact blkc6 (Bm.kept (below_drew1 _))) (first | (go_at_call 43; refine (placeOfW _ m1 sa sc).mono ?_; rintro e w5 ⟨rfl, hb5⟩; have Vm : Hid (Blk w5 w3.heap.size 85 #[.int .i64 m1.kind, .string (strOfNums m1.s), .int .u64 m1.n, .slice sa m1.b.length sc, .int .i64 m1.line, .int .i64 m1.col]) := hid (Blk.kept (by first | exact Bm.kept (below_drew1 _) | exact (Bm.kept (below_alloc _)).kept (below_drew1 _) | exact (Bm.kept (below_drew1 _)).kept (below_alloc _)) hb5); have HR5 : Hid (PR w0 b off cap ms p w5 j4) := hid (PR.kept (by have := HR4.out; (repeat (first | with_reducible assumption | with_reducible refine prall15 ?_ (by first | (simp; done) | (simp; omega) | omega) | with_reducible refine prall9 ?_ (by first | (simp; done) | (simp; omega) | omega) | with_reducible refine prall6 ?_ (by first | (simp; done) | (simp; omega) | omega) | with_reducible refine PR.set ?_ (by first | (simp; done) | (simp; omega) | omega) _ | with_reducible refine PR.alloc ?_ _ | with_reducible refine PR.drew ?_))) hb5); have hk5 : Hid (Keep (· ≠ p) w w5) := hid (Keep.trans (by have := hk4.out; (repeat (first | with_reducible assumption | with_reducible refine kpall15 ?_ (by first | (refine Or.inr ?_; first | (simp; done) | (simp; omega) | omega)) | with_reducible refine kpall9 ?_ (by first | (refine Or.inr ?_; first | (simp; done) | (simp; omega) | omega)) | with_reducible refine kpall6 ?_ (by first | (refine Or.inr ?_; first | (simp; done) | (simp; omega) | omega)) | with_reducible refine kp_set ?_ (by first | (refine Or.inl ?_; simp; done) | (refine Or.inr ?_; first | (simp; done) | (simp; omega) | omega)) _ | with_reducible refine kp_alloc ?_ _ | with_reducible refine kp_drew ?_ | with_reducible refine kp_drewN ?_ _ | with_reducible exact Keep.refl _ _))) (Keep.ofBelow hb5)); have vxm := Vm.out.cellF; have zm5 : w3.heap.size < w5.heap.size := Vm.out.lt; clear hb5) | (go_at_call 71; refine (typedW w0 b off cap ms p _ j4 (fZ 5 0 m1.s (atM m1)) HML.out (by have := HR5.out; (repeat (first | with_reducible assumption | with_reducible refine prall15 ?_ (by first | (simp; done) | (simp; omega) | omega) | with_reducible refine prall9 ?_ (by first | (simp; done) | (simp; omega) | omega) | with_reducible refine prall6 ?_ (by first | (simp; done) | (simp; omega) | omega) | with_reducible refine PR.set ?_ (by first | (simp; done) | (simp; omega) | omega) _ | with_reducible refine PR.alloc ?_ _ | with_reducible refine PR.drew ?_)))).mono ?_; rintro e w6 ⟨hK6, (⟨j6, g6, he6, hg6, rfl, HR6⟩ | ⟨hcd, rfl⟩)⟩; rotate_left; (have hk6 : Hid (Keep (· ≠ p) w w6) := hid (Keep.trans (by have := hk5.out; (repeat (first | with_reducible assumption | with_reducible refine kpall15 ?_ (by first | (refine Or.inr ?_; first | (simp; done) | (simp; omega) | omega)) | with_reducible refine kpall9 ?_ (by first | (refine Or.inr ?_; first | (simp; done) | (simp; omega) | omega)) | with_reducible refine kpall6 ?_ (by first | (refine Or.inr ?_; first | (simp; done) | (simp; omega) | omega)) | with_reducible refine kp_set ?_ (by first | (refine Or.inl ?_; simp; done) | (refine Or.inr ?_; first | (simp; done) | (simp; omega) | omega)) _ | with_reducible refine kp_alloc ?_ _ | with_reducible refine kp_drew ?_ | with_reducible refine kp_drewN ?_ _ | with_reducible exact Keep.refl _ _))) hK6)); (exact ⟨rfl, by have := hk6.out; (repeat (first | with_reducible assumption | with_reducible refine kpall15 ?_ (by first | (refine Or.inr ?_; first | (simp; done) | (simp; omega) | omega)) | with_reducible refine kpall9 ?_ (by first | (refine Or.inr ?_; first | (simp; done) | (simp; omega) | omega)) | with_reducible refine kpall6 ?_ (by first | (refine Or.inr ?_; first | (simp; done) | (simp; omega) | omega)) | with_reducible refine kp_set ?_ (by first | (refine Or.inl ?_; simp; done) | (refine Or.inr ?_; first | (simp; done) | (simp; omega) | omega)) _ | with_reducible refine kp_alloc ?_ _ | with_reducible refine kp_drew ?_ | with_reducible refine kp_drewN ?_ _ | with_reducible exact Keep.refl _ _)), .inr (by rw [show (prsM (stA ms i)).2 = (typM (stA ms j4)).2.2 by unfold prsM prC prB; rw [HPA.out]; simp only [he4.out, eat_bad hcd, nam_bad hcd]]; exact ⟨hcd, rfl⟩)⟩); have hbad : Hid False := hid (absurd (show (typM (stA ms j4)).2.2.cd = 0 by rw [he6.out]; rfl) HTc.out); have u1 : ∀ a, w6.cell? a = some (.int .i64 0) := hbad.out.elim; have u2 : ∀ a, w6.frozen? a = false := hbad.out.elim; clear hK6))
  all_goals exact hbad.out.elim
end
end Go.Proofs.YtidimdbnnnpplaaDoor
namespace Go.Proofs.YtidimdbnnnpplaaDoor
open Go.RowKit
set_option maxRecDepth 1000000
set_option linter.unusedVariables false
set_option linter.unusedSimpArgs false
set_option maxHeartbeats 8000000

section
variable (w0 : World) (b off cap : Nat) (ms : List Mw) (p : Nat) (w : World) (i : Nat)
theorem mappedW (hml : ms.length ≤ 70000) (h : PR w0 b off cap ms p w i) : Calls Tryd.prog 58 #[.pointer (some ⟨p, 0, none⟩)] w fun e w' => Keep (· ≠ p) w w' ∧ ((∃ j g, Hid ((prsM (stA ms i)).2 = stA ms j) ∧ Hid (g = (prsM (stA ms i)).1) ∧ e = .returned (.agg #[.string (strOfNums g.name), .string (strOfNums g.ty), .string (strOfNums g.key), .int .u64 g.num, .int .i64 g.label, .int .i64 g.packed, .int .i64 g.oneof, .int .i64 g.at1.1, .int .i64 g.at1.2, .int .i64 g.nat1.1, .int .i64 g.nat1.2, .int .i64 g.tat.1, .int .i64 g.tat.2, .int .i64 g.mat.1, .int .i64 g.mat.2]) ∧ Hid (PR w0 b off cap ms p w' j)) ∨ Fell (prsM (stA ms i)).2 e) := by
  by_cases hT : (prB (stA ms i)).2.2.cd = 0
  · exact mapped_ok w0 b off cap ms p w i hT hml h
  · exact mapped_bad w0 b off cap ms p w i hT hml h
end
end Go.Proofs.YtidimdbnnnpplaaDoor
namespace Go.Proofs.YtidimdbnnnpplaaDoor
open Go.RowKit
set_option maxRecDepth 1000000
set_option linter.unusedVariables false
set_option linter.unusedSimpArgs false
set_option maxHeartbeats 8000000

def zR : Value := .agg #[.int .u64 0, .int .u64 0, .int .i64 0, .int .i64 0]
def zO : Value := .agg #[.string ⟨#[]⟩, .int .i64 0, .int .i64 0]
def zF : Value := .agg #[.string ⟨#[]⟩, .string ⟨#[]⟩, .string ⟨#[]⟩, .int .u64 0, .int .i64 0, .int .i64 0, .int .i64 0, .int .i64 0, .int .i64 0, .int .i64 0, .int .i64 0, .int .i64 0, .int .i64 0, .int .i64 0, .int .i64 0]
theorem Tryd.infoR : (Tryd.prog.info? 46).map (fun i => (i.zero, i.size, i.bytes)) = some (some zR, 4, 32) := by kernel_rfl
theorem Tryd.infoO : (Tryd.prog.info? 115).map (fun i => (i.zero, i.size, i.bytes)) = some (some zO, 3, 32) := by kernel_rfl
theorem Tryd.infoF : (Tryd.prog.info? 44).map (fun i => (i.zero, i.size, i.bytes)) = some (some zF, 15, 144) := by kernel_rfl
theorem appendR (base : Nat) (v : Value) (l : List MR) (y : MR) (w : World) (h : w.ownsRow base 46 4 v l.length (l.flatMap cR)) (hb : base ≤ w.heap.size) (hn : l.length ≤ 400000) :
    ∃ a c w', (Builtin.append_ #[38, 38] 38 #[v, .slice (some ⟨w.heap.size, 0, none⟩) 1 1]).run Tryd.prog (w.alloc (.cells #[.int .u64 y.low, .int .u64 y.high, .int .i64 y.at1.1, .int .i64 y.at1.2] 46)) = .ok (.slice a (l.length + 1) c) w' ∧
      w'.ownsRow base 46 4 (.slice a (l.length + 1) c) (l ++ [y]).length ((l ++ [y]).flatMap cR) ∧ Grow w w' v (.slice a (l.length + 1) c) := by
  obtain ⟨v', w', h1, h2, h3⟩ := append_st 46 38 4 32 zR Tryd.underlying38 Tryd.infoR rfl (by decide) (by decide) base v l.length (l.flatMap cR) w #[.int .u64 y.low, .int .u64 y.high, .int .i64 y.at1.1, .int .i64 y.at1.2] rfl (fun u hu => by simp at hu; rcases hu with rfl | rfl | rfl | rfl <;> rfl) h hb hn
  obtain ⟨a, c, rfl⟩ := own_shape h2
  exact ⟨a, c, w', h1, by rw [List.flatMap_append, List.length_append]; exact h2, h3⟩
theorem appendO (base : Nat) (v : Value) (l : List MO) (y : MO) (w : World) (h : w.ownsRow base 115 3 v l.length (l.flatMap cO)) (hb : base ≤ w.heap.size) (hn : l.length ≤ 400000) :
    ∃ a c w', (Builtin.append_ #[37, 37] 37 #[v, .slice (some ⟨w.heap.size, 0, none⟩) 1 1]).run Tryd.prog (w.alloc (.cells #[.string (strOfNums y.name), .int .i64 y.at1.1, .int .i64 y.at1.2] 115)) = .ok (.slice a (l.length + 1) c) w' ∧
      w'.ownsRow base 115 3 (.slice a (l.length + 1) c) (l ++ [y]).length ((l ++ [y]).flatMap cO) ∧ Grow w w' v (.slice a (l.length + 1) c) := by
  obtain ⟨v', w', h1, h2, h3⟩ := append_st 115 37 3 32 zO Tryd.underlying37 Tryd.infoO rfl (by decide) (by decide) base v l.length (l.flatMap cO) w #[.string (strOfNums y.name), .int .i64 y.at1.1, .int .i64 y.at1.2] rfl (fun u hu => by simp at hu; rcases hu with rfl | rfl | rfl <;> rfl) h hb hn
  obtain ⟨a, c, rfl⟩ := own_shape h2
  exact ⟨a, c, w', h1, by rw [List.flatMap_append, List.length_append]; exact h2, h3⟩
theorem appendF (base : Nat) (v : Value) (l : List MF) (y : MF) (w : World) (h : w.ownsRow base 44 15 v l.length (l.flatMap cF)) (hb : base ≤ w.heap.size) (hn : l.length ≤ 400000) :
    ∃ a c w', (Builtin.append_ #[36, 36] 36 #[v, .slice (some ⟨w.heap.size, 0, none⟩) 1 1]).run Tryd.prog (w.alloc (.cells #[.string (strOfNums y.name), .string (strOfNums y.ty), .string (strOfNums y.key), .int .u64 y.num, .int .i64 y.label, .int .i64 y.packed, .int .i64 y.oneof, .int .i64 y.at1.1, .int .i64 y.at1.2, .int .i64 y.nat1.1, .int .i64 y.nat1.2, .int .i64 y.tat.1, .int .i64 y.tat.2, .int .i64 y.mat.1, .int .i64 y.mat.2] 44)) = .ok (.slice a (l.length + 1) c) w' ∧
      w'.ownsRow base 44 15 (.slice a (l.length + 1) c) (l ++ [y]).length ((l ++ [y]).flatMap cF) ∧ Grow w w' v (.slice a (l.length + 1) c) := by
  obtain ⟨v', w', h1, h2, h3⟩ := append_st 44 36 15 144 zF Tryd.underlying36 Tryd.infoF rfl (by decide) (by decide) base v l.length (l.flatMap cF) w #[.string (strOfNums y.name), .string (strOfNums y.ty), .string (strOfNums y.key), .int .u64 y.num, .int .i64 y.label, .int .i64 y.packed, .int .i64 y.oneof, .int .i64 y.at1.1, .int .i64 y.at1.2, .int .i64 y.nat1.1, .int .i64 y.nat1.2, .int .i64 y.tat.1, .int .i64 y.tat.2, .int .i64 y.mat.1, .int .i64 y.mat.2] rfl (fun u hu => by simp at hu; rcases hu with rfl | rfl | rfl | rfl | rfl | rfl | rfl | rfl | rfl | rfl | rfl | rfl | rfl | rfl | rfl <;> rfl) h hb hn
  obtain ⟨a, c, rfl⟩ := own_shape h2
  exact ⟨a, c, w', h1, by rw [List.flatMap_append, List.length_append]; exact h2, h3⟩
/-- While the program builds a declaration: the reader, the declaration's block, its lists. -/
structure DI (w0 : World) (b off cap : Nat) (ms : List Mw) (p : Nat) (w : World) (base pd n : Nat) (wr : World) (j : Nat) (x : DV) : Prop where
  pr : PR w0 b off cap ms p wr j
  fr : Keep (fun k => k ≠ p ∧ k < base) w wr
  blk : Blk wr pd 41 #[.bool x.d.enum, .string (strOfNums x.d.name), .int .i64 x.d.at1.1, .int .i64 x.d.at1.2, x.f, x.o, x.dd, x.r, x.s]
  own : OwnD wr base n 44 115 41 46 112 (· = pd) x
  lo : p < base
  up : base ≤ pd
section
variable {w0 : World} {b off cap : Nat} {ms : List Mw} {p : Nat} {w : World} {base pd n : Nat} {wr w' : World} {j k : Nat} {x : DV}
theorem DI.reader (h : DI w0 b off cap ms p w base pd n wr j x) (K : Keep (· ≠ p) wr w') (R : PR w0 b off cap ms p w' k) : DI w0 b off cap ms p w base pd n w' k x :=
  ⟨R, h.fr.trans (K.weak (fun q hq => hq.1)), h.blk.keep K (by have := h.lo; have := h.up; omega), h.own.keep K (fun q hq _ (e : q = p) => by have := h.lo; omega), h.lo, h.up⟩
theorem DI.kept (h : DI w0 b off cap ms p w base pd n wr j x) (g : Below wr.heap.size wr w') : DI w0 b off cap ms p w base pd n w' j x := h.reader (Keep.ofBelow g) (h.pr.kept g)
theorem DI.frame (h : DI w0 b off cap ms p w base pd n wr j x) (K : Keep (· ≠ p) wr w') : Keep (fun k => k ≠ p ∧ k < base) w w' := h.fr.trans (K.weak (fun q hq => hq.1))
theorem DI.base_le (h : DI w0 b off cap ms p w base pd n wr j x) : base ≤ wr.heap.size := Nat.le_trans h.up (Nat.le_of_lt h.blk.lt)
theorem DI.addR (h : DI w0 b off cap ms p w base pd n wr j x) {v' : Value} {l : List MR} (g : Grow wr w' x.r v') (ho : w'.ownsRow base 46 4 v' l.length (l.flatMap cR)) :
    DI w0 b off cap ms p w base pd n (w'.setCell ⟨pd, 7, none⟩ v') j ⟨{ x.d with res := l }, x.f, x.o, x.dd, v', x.s⟩ := by
  have hb : Blk w' pd 41 #[.bool x.d.enum, .string (strOfNums x.d.name), .int .i64 x.d.at1.1, .int .i64 x.d.at1.2, x.f, x.o, x.dd, x.r, x.s] := h.blk.keep (Keep.ofGrow (f := fun q => x.r.ownBlock ≠ some q) g (fun _ hk => hk)) (fun hk => h.own.me pd (.inr (.inr (.inr (.inl hk)))) rfl)
  have ho' := h.own.addR (by decide) (by decide) (by decide) (by decide) g ho
  have hpr := grow_pr g h.own.r h.lo h.pr
  refine ⟨hpr.set (by have := h.lo; have := h.up; show p < pd; omega) _, ?_, (hb.set 7 _).is (by simp), ho'.keep (f := (· ≠ pd)) (Keep.setCell _ _ _ (by simp)) (fun q _ hq => hq), h.lo, h.up⟩
  exact (h.fr.trans ((grow_keep g h.own.r h.lo).weak (fun q hq => hq.2))).trans (Keep.setCell _ _ _ (fun hq => by have := hq.2; have := h.up; simp at *; omega))
theorem DI.addO (h : DI w0 b off cap ms p w base pd n wr j x) {v' : Value} {l : List MO} (g : Grow wr w' x.o v') (ho : w'.ownsRow base 115 3 v' l.length (l.flatMap cO)) :
    DI w0 b off cap ms p w base pd n (w'.setCell ⟨pd, 5, none⟩ v') j ⟨{ x.d with oneofs := l }, x.f, v', x.dd, x.r, x.s⟩ := by
  have hb : Blk w' pd 41 #[.bool x.d.enum, .string (strOfNums x.d.name), .int .i64 x.d.at1.1, .int .i64 x.d.at1.2, x.f, x.o, x.dd, x.r, x.s] := h.blk.keep (Keep.ofGrow (f := fun q => x.o.ownBlock ≠ some q) g (fun _ hk => hk)) (fun hk => h.own.me pd (.inr (.inl hk)) rfl)
  have ho' := h.own.addO (by decide) (by decide) (by decide) (by decide) g ho
  have hpr := grow_pr g h.own.o h.lo h.pr
  refine ⟨hpr.set (by have := h.lo; have := h.up; show p < pd; omega) _, ?_, (hb.set 5 _).is (by simp), ho'.keep (f := (· ≠ pd)) (Keep.setCell _ _ _ (by simp)) (fun q _ hq => hq), h.lo, h.up⟩
  exact (h.fr.trans ((grow_keep g h.own.o h.lo).weak (fun q hq => hq.2))).trans (Keep.setCell _ _ _ (fun hq => by have := hq.2; have := h.up; simp at *; omega))
theorem DI.addF (h : DI w0 b off cap ms p w base pd n wr j x) {v' : Value} {l : List MF} (g : Grow wr w' x.f v') (ho : w'.ownsRow base 44 15 v' l.length (l.flatMap cF)) :
    DI w0 b off cap ms p w base pd n (w'.setCell ⟨pd, 4, none⟩ v') j ⟨{ x.d with fields := l }, v', x.o, x.dd, x.r, x.s⟩ := by
  have hb : Blk w' pd 41 #[.bool x.d.enum, .string (strOfNums x.d.name), .int .i64 x.d.at1.1, .int .i64 x.d.at1.2, x.f, x.o, x.dd, x.r, x.s] := h.blk.keep (Keep.ofGrow (f := fun q => x.f.ownBlock ≠ some q) g (fun _ hk => hk)) (fun hk => h.own.me pd (.inl hk) rfl)
  have ho' := h.own.addF (by decide) (by decide) (by decide) (by decide) g ho
  have hpr := grow_pr g h.own.f h.lo h.pr
  refine ⟨hpr.set (by have := h.lo; have := h.up; show p < pd; omega) _, ?_, (hb.set 4 _).is (by simp), ho'.keep (f := (· ≠ pd)) (Keep.setCell _ _ _ (by simp)) (fun q _ hq => hq), h.lo, h.up⟩
  exact (h.fr.trans ((grow_keep g h.own.f h.lo).weak (fun q hq => hq.2))).trans (Keep.setCell _ _ _ (fun hq => by have := hq.2; have := h.up; simp at *; omega))
end
theorem rngL_go {l : List MR} {s : PS} (h : isM s [44] = true) : rngL (l, s) = rngL (l ++ [(rngM (eatM s [44])).1], (rngM (eatM s [44])).2) := by
  unfold rngL
  exact whM_go (p := fun x : List MR × PS => x.2) (x := (l, s)) rng_dec h
theorem rngL_stop {l : List MR} {s : PS} (h : isM s [44] = false) : rngL (l, s) = (l, s) := by
  unfold rngL
  exact whM_stop h
end Go.Proofs.YtidimdbnnnpplaaDoor
