/-
  The reader of the program parse: a map's field.
-/
import Derived.Test.YtidimdbnnnpplaaDoorCPKb
import Derived.Deep.CutRange
namespace Go.Proofs.YtidimdbnnnpplaaDoor
open Go.RowKit
set_option maxRecDepth 1000000
set_option linter.unusedVariables false
set_option linter.unusedSimpArgs false
set_option maxHeartbeats 8000000

section
variable (w0 : World) (b off cap : Nat) (ms : List Mw) (p : Nat) (w : World) (i : Nat)
theorem mapped_ok (hT : (prB (stA ms i)).2.2.cd = 0) (hml : ms.length ≤ 70000) (h : PR w0 b off cap ms p w i) : Calls Tryd.prog 58 #[.pointer (some ⟨p, 0, none⟩)] w fun e w' => Keep (· ≠ p) w w' ∧ ((∃ j g, Hid ((prsM (stA ms i)).2 = stA ms j) ∧ Hid (g = (prsM (stA ms i)).1) ∧ e = .returned (.agg #[.string (strOfNums g.name), .string (strOfNums g.ty), .string (strOfNums g.key), .int .u64 g.num, .int .i64 g.label, .int .i64 g.packed, .int .i64 g.oneof, .int .i64 g.at1.1, .int .i64 g.at1.2, .int .i64 g.nat1.1, .int .i64 g.nat1.2, .int .i64 g.tat.1, .int .i64 g.tat.2, .int .i64 g.mat.1, .int .i64 g.mat.2]) ∧ Hid (PR w0 b off cap ms p w' j)) ∨ Fell (prsM (stA ms i)).2 e) := by
  have HML := hid hml
  have HX := hid (prs_is (stA ms i))
  have HT := hid hT
  clear hT
  clear hml
  have hk0 : Hid (Keep (· ≠ p) w w) := hid (Keep.refl _ _)
  have hpl : p < w.heap.size := h.blk.lt
  have HR0 := hid h
  clear h
  go_enter Tryd.func58, Tryd.ntmps58
  go_wp2_with fail
  refine (skipW w0 b off cap ms p _ i ⟨#[109, 97, 112]⟩ wMap rfl plain_map (by have := HR0.out; (repeat (first | with_reducible assumption | with_reducible refine prall15 ?_ (by first | (simp; done) | (simp; omega) | omega) | with_reducible refine prall9 ?_ (by first | (simp; done) | (simp; omega) | omega) | with_reducible refine prall6 ?_ (by first | (simp; done) | (simp; omega) | omega) | with_reducible refine PR.set ?_ (by first | (simp; done) | (simp; omega) | omega) _ | with_reducible refine PR.alloc ?_ _ | with_reducible refine PR.drew ?_)))).mono ?_
  rintro e w1 ⟨hK1, (⟨j1, ua, uc, he1, rfl, HR1⟩ | ⟨hcd, rfl⟩)⟩
  case inr =>
    have hk1 : Hid (Keep (· ≠ p) w w1) := hid (Keep.trans (by have := hk0.out; (repeat (first | with_reducible assumption | with_reducible refine kpall15 ?_ (by first | (refine Or.inr ?_; first | (simp; done) | (simp; omega) | omega)) | with_reducible refine kpall9 ?_ (by first | (refine Or.inr ?_; first | (simp; done) | (simp; omega) | omega)) | with_reducible refine kpall6 ?_ (by first | (refine Or.inr ?_; first | (simp; done) | (simp; omega) | omega)) | with_reducible refine kp_set ?_ (by first | (refine Or.inl ?_; simp; done) | (refine Or.inr ?_; first | (simp; done) | (simp; omega) | omega)) _ | with_reducible refine kp_alloc ?_ _ | with_reducible refine kp_drew ?_ | with_reducible refine kp_drewN ?_ _ | with_reducible exact Keep.refl _ _))) hK1)
    clear hK1
    go_wp2
    exact ⟨rfl, by have := hk1.out; (repeat (first | with_reducible assumption | with_reducible refine kpall15 ?_ (by first | (refine Or.inr ?_; first | (simp; done) | (simp; omega) | omega)) | with_reducible refine kpall9 ?_ (by first | (refine Or.inr ?_; first | (simp; done) | (simp; omega) | omega)) | with_reducible refine kpall6 ?_ (by first | (refine Or.inr ?_; first | (simp; done) | (simp; omega) | omega)) | with_reducible refine kp_set ?_ (by first | (refine Or.inl ?_; simp; done) | (refine Or.inr ?_; first | (simp; done) | (simp; omega) | omega)) _ | with_reducible refine kp_alloc ?_ _ | with_reducible refine kp_drew ?_ | with_reducible refine kp_drewN ?_ _ | with_reducible exact Keep.refl _ _)), .inr (by rw [show (prsM (stA ms i)).2 = eatM (stA ms i) wMap by unfold prsM prC prB prA; simp only [eat_bad hcd, take_bad hcd, typ_bad hcd, nam_bad hcd]]; exact ⟨hcd, rfl⟩)⟩
  have Cr : Blk w1 (w.heap.size) 44 #[.string ⟨#[]⟩, .string ⟨#[]⟩, .string ⟨#[]⟩, .int .u64 0, .int .i64 0, .int .i64 0, .int .i64 0, .int .i64 0, .int .i64 0, .int .i64 0, .int .i64 0, .int .i64 0, .int .i64 0, .int .i64 0, .int .i64 0] := Blk.keep ((Blk.newAt (by simp)).is (by first | rfl | simp)) hK1 (show w.heap.size ≠ p by omega)
  have hs1 := hK1.size
  try simp at hs1
  have Br := Cr
  clear Cr
  have xr := Br.cellF
  have yr := Br.frz
  have zr : w.heap.size < w1.heap.size := by omega
  have hp1 : p < w1.heap.size := by omega
  have hq1 : w.heap.size ≤ w1.heap.size := by omega
  have hk1 : Hid (Keep (· ≠ p) w w1) := hid (Keep.trans (by have := hk0.out; (repeat (first | with_reducible assumption | with_reducible refine kpall15 ?_ (by first | (refine Or.inr ?_; first | (simp; done) | (simp; omega) | omega)) | with_reducible refine kpall9 ?_ (by first | (refine Or.inr ?_; first | (simp; done) | (simp; omega) | omega)) | with_reducible refine kpall6 ?_ (by first | (refine Or.inr ?_; first | (simp; done) | (simp; omega) | omega)) | with_reducible refine kp_set ?_ (by first | (refine Or.inl ?_; simp; done) | (refine Or.inr ?_; first | (simp; done) | (simp; omega) | omega)) _ | with_reducible refine kp_alloc ?_ _ | with_reducible refine kp_drew ?_ | with_reducible refine kp_drewN ?_ _ | with_reducible exact Keep.refl _ _))) hK1)
  clear hK1
  go_wp2_with fail
  refine (skipW w0 b off cap ms p _ j1 ⟨#[60]⟩ [60] rfl plain_lt (by have := HR1.out; (repeat (first | with_reducible assumption | with_reducible refine prall15 ?_ (by first | (simp; done) | (simp; omega) | omega) | with_reducible refine prall9 ?_ (by first | (simp; done) | (simp; omega) | omega) | with_reducible refine prall6 ?_ (by first | (simp; done) | (simp; omega) | omega) | with_reducible refine PR.set ?_ (by first | (simp; done) | (simp; omega) | omega) _ | with_reducible refine PR.alloc ?_ _ | with_reducible refine PR.drew ?_)))).mono ?_
  rintro e w2 ⟨hK2, (⟨j2, ua2, uc2, he2, rfl, HR2⟩ | ⟨hcd, rfl⟩)⟩
  case inr =>
    have hk2 : Hid (Keep (· ≠ p) w w2) := hid (Keep.trans (by have := hk1.out; (repeat (first | with_reducible assumption | with_reducible refine kpall15 ?_ (by first | (refine Or.inr ?_; first | (simp; done) | (simp; omega) | omega)) | with_reducible refine kpall9 ?_ (by first | (refine Or.inr ?_; first | (simp; done) | (simp; omega) | omega)) | with_reducible refine kpall6 ?_ (by first | (refine Or.inr ?_; first | (simp; done) | (simp; omega) | omega)) | with_reducible refine kp_set ?_ (by first | (refine Or.inl ?_; simp; done) | (refine Or.inr ?_; first | (simp; done) | (simp; omega) | omega)) _ | with_reducible refine kp_alloc ?_ _ | with_reducible refine kp_drew ?_ | with_reducible refine kp_drewN ?_ _ | with_reducible exact Keep.refl _ _))) hK2)
    clear hK2
    go_wp2
    exact ⟨rfl, by have := hk2.out; (repeat (first | with_reducible assumption | with_reducible refine kpall15 ?_ (by first | (refine Or.inr ?_; first | (simp; done) | (simp; omega) | omega)) | with_reducible refine kpall9 ?_ (by first | (refine Or.inr ?_; first | (simp; done) | (simp; omega) | omega)) | with_reducible refine kpall6 ?_ (by first | (refine Or.inr ?_; first | (simp; done) | (simp; omega) | omega)) | with_reducible refine kp_set ?_ (by first | (refine Or.inl ?_; simp; done) | (refine Or.inr ?_; first | (simp; done) | (simp; omega) | omega)) _ | with_reducible refine kp_alloc ?_ _ | with_reducible refine kp_drew ?_ | with_reducible refine kp_drewN ?_ _ | with_reducible exact Keep.refl _ _)), .inr (by rw [show (prsM (stA ms i)).2 = eatM (stA ms j1) [60] by unfold prsM prC prB prA; rw [he1.out]; simp only [eat_bad hcd, take_bad hcd, typ_bad hcd, nam_bad hcd]]; exact ⟨hcd, rfl⟩)⟩
  have Cr : Blk w2 (w.heap.size) 44 #[.string ⟨#[]⟩, .string ⟨#[]⟩, .string ⟨#[]⟩, .int .u64 0, .int .i64 0, .int .i64 0, .int .i64 0, .int .i64 0, .int .i64 0, .int .i64 0, .int .i64 0, .int .i64 0, .int .i64 0, .int .i64 0, .int .i64 0] := Blk.keep (Br.is (by first | rfl | simp)) hK2 (show w.heap.size ≠ p by omega)
  clear Br xr yr
  have hs2 := hK2.size
  try simp at hs2
  have Br := Cr
  clear Cr
  have xr := Br.cellF
  have yr := Br.frz
  replace zr : w.heap.size < w2.heap.size := by omega
  have hp2 : p < w2.heap.size := by omega
  have hq2 : w.heap.size ≤ w2.heap.size := by omega
  have hk2 : Hid (Keep (· ≠ p) w w2) := hid (Keep.trans (by have := hk1.out; (repeat (first | with_reducible assumption | with_reducible refine kpall15 ?_ (by first | (refine Or.inr ?_; first | (simp; done) | (simp; omega) | omega)) | with_reducible refine kpall9 ?_ (by first | (refine Or.inr ?_; first | (simp; done) | (simp; omega) | omega)) | with_reducible refine kpall6 ?_ (by first | (refine Or.inr ?_; first | (simp; done) | (simp; omega) | omega)) | with_reducible refine kp_set ?_ (by first | (refine Or.inl ?_; simp; done) | (refine Or.inr ?_; first | (simp; done) | (simp; omega) | omega)) _ | with_reducible refine kp_alloc ?_ _ | with_reducible refine kp_drew ?_ | with_reducible refine kp_drewN ?_ _ | with_reducible exact Keep.refl _ _))) hK2)
  clear hK2
  go_wp2_with fail
  refine (takeW w0 b off cap ms p _ j2 1 (by decide) (by have := HR2.out; (repeat (first | with_reducible assumption | with_reducible refine prall15 ?_ (by first | (simp; done) | (simp; omega) | omega) | with_reducible refine prall9 ?_ (by first | (simp; done) | (simp; omega) | omega) | with_reducible refine prall6 ?_ (by first | (simp; done) | (simp; omega) | omega) | with_reducible refine PR.set ?_ (by first | (simp; done) | (simp; omega) | omega) _ | with_reducible refine PR.alloc ?_ _ | with_reducible refine PR.drew ?_)))).mono ?_
  rintro e w3 ⟨hK3, (⟨j3, m1, sa, sc, he3, hm1, rfl, hr1, ho1, HR3⟩ | ⟨hcd, rfl⟩)⟩
  case inr =>
    have hk3 : Hid (Keep (· ≠ p) w w3) := hid (Keep.trans (by have := hk2.out; (repeat (first | with_reducible assumption | with_reducible refine kpall15 ?_ (by first | (refine Or.inr ?_; first | (simp; done) | (simp; omega) | omega)) | with_reducible refine kpall9 ?_ (by first | (refine Or.inr ?_; first | (simp; done) | (simp; omega) | omega)) | with_reducible refine kpall6 ?_ (by first | (refine Or.inr ?_; first | (simp; done) | (simp; omega) | omega)) | with_reducible refine kp_set ?_ (by first | (refine Or.inl ?_; simp; done) | (refine Or.inr ?_; first | (simp; done) | (simp; omega) | omega)) _ | with_reducible refine kp_alloc ?_ _ | with_reducible refine kp_drew ?_ | with_reducible refine kp_drewN ?_ _ | with_reducible exact Keep.refl _ _))) hK3)
    clear hK3
    go_wp2
    exact ⟨rfl, by have := hk3.out; (repeat (first | with_reducible assumption | with_reducible refine kpall15 ?_ (by first | (refine Or.inr ?_; first | (simp; done) | (simp; omega) | omega)) | with_reducible refine kpall9 ?_ (by first | (refine Or.inr ?_; first | (simp; done) | (simp; omega) | omega)) | with_reducible refine kpall6 ?_ (by first | (refine Or.inr ?_; first | (simp; done) | (simp; omega) | omega)) | with_reducible refine kp_set ?_ (by first | (refine Or.inl ?_; simp; done) | (refine Or.inr ?_; first | (simp; done) | (simp; omega) | omega)) _ | with_reducible refine kp_alloc ?_ _ | with_reducible refine kp_drew ?_ | with_reducible refine kp_drewN ?_ _ | with_reducible exact Keep.refl _ _)), .inr (by rw [show (prsM (stA ms i)).2 = (takeM (stA ms j2) 1).2 by unfold prsM prC prB prA; rw [he1.out, he2.out]; simp only [eat_bad hcd, take_bad hcd, typ_bad hcd, nam_bad hcd]]; exact ⟨hcd, rfl⟩)⟩
  have Cr : Blk w3 (w.heap.size) 44 #[.string ⟨#[]⟩, .string ⟨#[]⟩, .string ⟨#[]⟩, .int .u64 0, .int .i64 0, .int .i64 0, .int .i64 0, .int .i64 0, .int .i64 0, .int .i64 0, .int .i64 0, .int .i64 0, .int .i64 0, .int .i64 0, .int .i64 0] := Blk.keep (Br.is (by first | rfl | simp)) hK3 (show w.heap.size ≠ p by omega)
  clear Br xr yr
  have hs3 := hK3.size
  try simp at hs3
  have Br := Cr
  clear Cr
  have xr := Br.cellF
  have yr := Br.frz
  replace zr : w.heap.size < w3.heap.size := by omega
  have hp3 : p < w3.heap.size := by omega
  have hq3 : w.heap.size ≤ w3.heap.size := by omega
  have hk3 : Hid (Keep (· ≠ p) w w3) := hid (Keep.trans (by have := hk2.out; (repeat (first | with_reducible assumption | with_reducible refine kpall15 ?_ (by first | (refine Or.inr ?_; first | (simp; done) | (simp; omega) | omega)) | with_reducible refine kpall9 ?_ (by first | (refine Or.inr ?_; first | (simp; done) | (simp; omega) | omega)) | with_reducible refine kpall6 ?_ (by first | (refine Or.inr ?_; first | (simp; done) | (simp; omega) | omega)) | with_reducible refine kp_set ?_ (by first | (refine Or.inl ?_; simp; done) | (refine Or.inr ?_; first | (simp; done) | (simp; omega) | omega)) _ | with_reducible refine kp_alloc ?_ _ | with_reducible refine kp_drew ?_ | with_reducible refine kp_drewN ?_ _ | with_reducible exact Keep.refl _ _))) hK3)
  clear hK3
  have HPA : Hid (prA (stA ms i) = (m1, stA ms j3)) := hid (by unfold prA; rw [he1.out, he2.out, hm1.out, ← he3.out])
  go_wp2_with fail
  refine (skipW w0 b off cap ms p _ j3 ⟨#[44]⟩ [44] rfl plain_comma (by have := HR3.out; (repeat (first | with_reducible assumption | with_reducible refine prall15 ?_ (by first | (simp; done) | (simp; omega) | omega) | with_reducible refine prall9 ?_ (by first | (simp; done) | (simp; omega) | omega) | with_reducible refine prall6 ?_ (by first | (simp; done) | (simp; omega) | omega) | with_reducible refine PR.set ?_ (by first | (simp; done) | (simp; omega) | omega) _ | with_reducible refine PR.alloc ?_ _ | with_reducible refine PR.drew ?_)))).mono ?_
  rintro e w4 ⟨hK4, (⟨j4, ua4, uc4, he4, rfl, HR4⟩ | ⟨hcd, rfl⟩)⟩
  case inr =>
    have hk4 : Hid (Keep (· ≠ p) w w4) := hid (Keep.trans (by have := hk3.out; (repeat (first | with_reducible assumption | with_reducible refine kpall15 ?_ (by first | (refine Or.inr ?_; first | (simp; done) | (simp; omega) | omega)) | with_reducible refine kpall9 ?_ (by first | (refine Or.inr ?_; first | (simp; done) | (simp; omega) | omega)) | with_reducible refine kpall6 ?_ (by first | (refine Or.inr ?_; first | (simp; done) | (simp; omega) | omega)) | with_reducible refine kp_set ?_ (by first | (refine Or.inl ?_; simp; done) | (refine Or.inr ?_; first | (simp; done) | (simp; omega) | omega)) _ | with_reducible refine kp_alloc ?_ _ | with_reducible refine kp_drew ?_ | with_reducible refine kp_drewN ?_ _ | with_reducible exact Keep.refl _ _))) hK4)
    clear hK4
    go_wp2
    exact ⟨rfl, by have := hk4.out; (repeat (first | with_reducible assumption | with_reducible refine kpall15 ?_ (by first | (refine Or.inr ?_; first | (simp; done) | (simp; omega) | omega)) | with_reducible refine kpall9 ?_ (by first | (refine Or.inr ?_; first | (simp; done) | (simp; omega) | omega)) | with_reducible refine kpall6 ?_ (by first | (refine Or.inr ?_; first | (simp; done) | (simp; omega) | omega)) | with_reducible refine kp_set ?_ (by first | (refine Or.inl ?_; simp; done) | (refine Or.inr ?_; first | (simp; done) | (simp; omega) | omega)) _ | with_reducible refine kp_alloc ?_ _ | with_reducible refine kp_drew ?_ | with_reducible refine kp_drewN ?_ _ | with_reducible exact Keep.refl _ _)), .inr (by rw [show (prsM (stA ms i)).2 = eatM (stA ms j3) [44] by unfold prsM prC prB; rw [HPA.out]; simp only [eat_bad hcd, typ_bad hcd, nam_bad hcd]]; exact ⟨hcd, rfl⟩)⟩
  have Cr : Blk w4 (w.heap.size) 44 #[.string ⟨#[]⟩, .string ⟨#[]⟩, .string ⟨#[]⟩, .int .u64 0, .int .i64 0, .int .i64 0, .int .i64 0, .int .i64 0, .int .i64 0, .int .i64 0, .int .i64 0, .int .i64 0, .int .i64 0, .int .i64 0, .int .i64 0] := Blk.keep ((Br.kept (below_alloc _)).is (by first | rfl | simp)) hK4 (show w.heap.size ≠ p by omega)
  have Cm : Blk w4 (w3.heap.size) 85 #[.int .i64 m1.kind, .string (strOfNums m1.s), .int .u64 m1.n, .slice sa m1.b.length sc, .int .i64 m1.line, .int .i64 m1.col] := Blk.keep ((Blk.newAt (by simp)).is (by first | rfl | simp)) hK4 (show w3.heap.size ≠ p by omega)
  clear Br xr yr
  have hs4 := hK4.size
  try simp at hs4
  have Br := Cr
  clear Cr
  have xr := Br.cellF
  have yr := Br.frz
  replace zr : w.heap.size < w4.heap.size := by omega
  have Bm := Cm
  clear Cm
  have xm := Bm.cellF
  have ym := Bm.frz
  have zm : w3.heap.size < w4.heap.size := by omega
  have hp4 : p < w4.heap.size := by omega
  have hq4 : w.heap.size ≤ w4.heap.size := by omega
  have hk4 : Hid (Keep (· ≠ p) w w4) := hid (Keep.trans (by have := hk3.out; (repeat (first | with_reducible assumption | with_reducible refine kpall15 ?_ (by first | (refine Or.inr ?_; first | (simp; done) | (simp; omega) | omega)) | with_reducible refine kpall9 ?_ (by first | (refine Or.inr ?_; first | (simp; done) | (simp; omega) | omega)) | with_reducible refine kpall6 ?_ (by first | (refine Or.inr ?_; first | (simp; done) | (simp; omega) | omega)) | with_reducible refine kp_set ?_ (by first | (refine Or.inl ?_; simp; done) | (refine Or.inr ?_; first | (simp; done) | (simp; omega) | omega)) _ | with_reducible refine kp_alloc ?_ _ | with_reducible refine kp_drew ?_ | with_reducible refine kp_drewN ?_ _ | with_reducible exact Keep.refl _ _))) hK4)
  clear hK4
  go_upto_region 5 with fail
  go_cut [4] from 13 to 19 (fun s4 wc => ∃ Q j6 g6, s4 = .pointer (some ⟨Q, 0, none⟩) ∧ Hid ((typM (stA ms j4)).2.2 = stA ms j6) ∧ Hid (g6 = { (fZ 5 0 m1.s (atM m1)) with ty := (typM (stA ms j4)).1, tat := (typM (stA ms j4)).2.1 }) ∧ Hid (PR w0 b off cap ms p wc j6) ∧ Hid (Keep (· ≠ p) w wc) ∧ Hid (w.heap.size < Q ∧ Q < wc.heap.size) ∧ Hid (Blk wc Q 44 #[.string (strOfNums g6.name), .string (strOfNums g6.ty), .string (strOfNums g6.key), .int .u64 g6.num, .int .i64 g6.label, .int .i64 g6.packed, .int .i64 g6.oneof, .int .i64 g6.at1.1, .int .i64 g6.at1.2, .int .i64 g6.nat1.1, .int .i64 g6.nat1.2, .int .i64 g6.tat.1, .int .i64 g6.tat.2, .int .i64 g6.mat.1, .int .i64 g6.mat.2]) ∧ Hid (Blk wc (w.heap.size) 44 #[.string ⟨#[]⟩, .string ⟨#[]⟩, .string ⟨#[]⟩, .int .u64 0, .int .i64 0, .int .i64 0, .int .i64 0, .int .i64 0, .int .i64 0, .int .i64 0, .int .i64 0, .int .i64 0, .int .i64 0, .int .i64 0, .int .i64 0]))
  case first =>
    have HTc : Hid ((typM (stA ms j4)).2.2.cd = 0) := hid (by have := HT.out; unfold prB at this; rw [HPA.out] at this; simp only [] at this; rw [he4.out] at this; exact this)
    go_region_held3 (fun W => W.cell? ⟨w3.heap.size, 0, none⟩ = some (.int .i64 m1.kind) ∧ W.cell? ⟨w3.heap.size, 1, none⟩ = some (.string (strOfNums m1.s)) ∧ W.cell? ⟨w3.heap.size, 2, none⟩ = some (.int .u64 m1.n) ∧ W.cell? ⟨w3.heap.size, 3, none⟩ = some (.slice sa m1.b.length sc) ∧ W.cell? ⟨w3.heap.size, 4, none⟩ = some (.int .i64 m1.line) ∧ W.cell? ⟨w3.heap.size, 5, none⟩ = some (.int .i64 m1.col)) (first | with_reducible exact blkc6 (blkoth15 Ym.out (show w3.heap.size ≠ w4.heap.size by omega)) | with_reducible exact blkc6 (blkoth15 Ym.out (show w3.heap.size ≠ w5.heap.size by omega)) | with_reducible exact blkc6 (Ym.out.kept (below_alloc _)) | with_reducible exact blkc6 Ym.out | with_reducible exact blkc6 (Vm.out.kept (below_alloc _)) | with_reducible exact blkc6 Vm.out | with_reducible exact blkc6 ((Bm.kept (below_drew1 _)).kept (below_alloc _)) | with_reducible exact blkc6 ((Bm.kept (below_alloc _)).kept (below_drew1 _)) | with_reducible exact blkc6 (Bm.kept (below_drew1 _))) (first | (go_at_call 43; refine (placeOfW _ m1 sa sc).mono ?_; rintro e w5 ⟨rfl, hb5⟩; have Vr : Hid (Blk w5 w.heap.size 44 #[.string ⟨#[]⟩, .string ⟨#[]⟩, .string ⟨#[]⟩, .int .u64 0, .int .i64 0, .int .i64 0, .int .i64 0, .int .i64 0, .int .i64 0, .int .i64 0, .int .i64 0, .int .i64 0, .int .i64 0, .int .i64 0, .int .i64 0]) := hid (Blk.kept (by first | exact Br.kept (below_drew1 _) | exact (Br.kept (below_alloc _)).kept (below_drew1 _) | exact (Br.kept (below_drew1 _)).kept (below_alloc _)) hb5); have Vm : Hid (Blk w5 w3.heap.size 85 #[.int .i64 m1.kind, .string (strOfNums m1.s), .int .u64 m1.n, .slice sa m1.b.length sc, .int .i64 m1.line, .int .i64 m1.col]) := hid (Blk.kept (by first | exact Bm.kept (below_drew1 _) | exact (Bm.kept (below_alloc _)).kept (below_drew1 _) | exact (Bm.kept (below_drew1 _)).kept (below_alloc _)) hb5); have HR5 : Hid (PR w0 b off cap ms p w5 j4) := hid (PR.kept (by have := HR4.out; (repeat (first | with_reducible assumption | with_reducible refine prall15 ?_ (by first | (simp; done) | (simp; omega) | omega) | with_reducible refine prall9 ?_ (by first | (simp; done) | (simp; omega) | omega) | with_reducible refine prall6 ?_ (by first | (simp; done) | (simp; omega) | omega) | with_reducible refine PR.set ?_ (by first | (simp; done) | (simp; omega) | omega) _ | with_reducible refine PR.alloc ?_ _ | with_reducible refine PR.drew ?_))) hb5); have hk5 : Hid (Keep (· ≠ p) w w5) := hid (Keep.trans (by have := hk4.out; (repeat (first | with_reducible assumption | with_reducible refine kpall15 ?_ (by first | (refine Or.inr ?_; first | (simp; done) | (simp; omega) | omega)) | with_reducible refine kpall9 ?_ (by first | (refine Or.inr ?_; first | (simp; done) | (simp; omega) | omega)) | with_reducible refine kpall6 ?_ (by first | (refine Or.inr ?_; first | (simp; done) | (simp; omega) | omega)) | with_reducible refine kp_set ?_ (by first | (refine Or.inl ?_; simp; done) | (refine Or.inr ?_; first | (simp; done) | (simp; omega) | omega)) _ | with_reducible refine kp_alloc ?_ _ | with_reducible refine kp_drew ?_ | with_reducible refine kp_drewN ?_ _ | with_reducible exact Keep.refl _ _))) (Keep.ofBelow hb5)); (try have Vf : Hid (Blk w5 w4.heap.size 44 #[.string ⟨#[]⟩, .string ⟨#[]⟩, .string ⟨#[]⟩, .int .u64 0, .int .i64 0, .int .i64 0, .int .i64 0, .int .i64 0, .int .i64 0, .int .i64 0, .int .i64 0, .int .i64 0, .int .i64 0, .int .i64 0, .int .i64 0]) := hid (Blk.kept (by first | exact (Blk.newAt (w := w4) rfl).kept (below_drew1 _) | exact Blk.newAt (w := w4.drew) rfl) hb5)); have hs5 := hb5.size; (try simp at hs5); have vxm := Vm.out.cellF; have zm5 : w3.heap.size < w5.heap.size := (by omega); clear hb5) | (go_at_call 71; refine (typedW w0 b off cap ms p _ j4 (fZ 5 0 m1.s (atM m1)) HML.out (by have := HR5.out; (repeat (first | with_reducible assumption | with_reducible refine prall15 ?_ (by first | (simp; done) | (simp; omega) | omega) | with_reducible refine prall9 ?_ (by first | (simp; done) | (simp; omega) | omega) | with_reducible refine prall6 ?_ (by first | (simp; done) | (simp; omega) | omega) | with_reducible refine PR.set ?_ (by first | (simp; done) | (simp; omega) | omega) _ | with_reducible refine PR.alloc ?_ _ | with_reducible refine PR.drew ?_)))).mono ?_; rintro e w6 ⟨hK6, (⟨j6, g6, he6, hg6, rfl, HR6⟩ | ⟨hcd, rfl⟩)⟩; rotate_left; (exact absurd HTc.out hcd); have Ym : Hid (Blk w6 w3.heap.size 85 #[.int .i64 m1.kind, .string (strOfNums m1.s), .int .u64 m1.n, .slice sa m1.b.length sc, .int .i64 m1.line, .int .i64 m1.col]) := hid (Blk.keep (by first | exact Vm.out | exact Vm.out.kept (below_alloc _)) hK6 (show w3.heap.size ≠ p by omega)); have Xr : Hid (Blk w6 w.heap.size 44 #[.string ⟨#[]⟩, .string ⟨#[]⟩, .string ⟨#[]⟩, .int .u64 0, .int .i64 0, .int .i64 0, .int .i64 0, .int .i64 0, .int .i64 0, .int .i64 0, .int .i64 0, .int .i64 0, .int .i64 0, .int .i64 0, .int .i64 0]) := hid (Blk.keep (by first | exact Vr.out | exact Vr.out.kept (below_alloc _)) hK6 (show w.heap.size ≠ p by omega)); (try have Xf : Hid (Blk w6 w4.heap.size 44 #[.string ⟨#[]⟩, .string ⟨#[]⟩, .string ⟨#[]⟩, .int .u64 0, .int .i64 0, .int .i64 0, .int .i64 0, .int .i64 0, .int .i64 0, .int .i64 0, .int .i64 0, .int .i64 0, .int .i64 0, .int .i64 0, .int .i64 0]) := hid (Blk.keep Vf.out hK6 (show w4.heap.size ≠ p by omega))); (try have Xg : Hid (Blk w6 w5.heap.size 44 #[.string ⟨#[]⟩, .string ⟨#[]⟩, .string ⟨#[]⟩, .int .u64 0, .int .i64 0, .int .i64 0, .int .i64 0, .int .i64 0, .int .i64 0, .int .i64 0, .int .i64 0, .int .i64 0, .int .i64 0, .int .i64 0, .int .i64 0]) := hid (Blk.keep (Blk.newAt (w := w5) rfl) hK6 (show w5.heap.size ≠ p by omega))); (try have xf := Xf.out.cellF); (try have yf := Xf.out.frz); (try have xg := Xg.out.cellF); (try have yg := Xg.out.frz); have hk6 : Hid (Keep (· ≠ p) w w6) := hid (Keep.trans (by have := hk5.out; (repeat (first | with_reducible assumption | with_reducible refine kpall15 ?_ (by first | (refine Or.inr ?_; first | (simp; done) | (simp; omega) | omega)) | with_reducible refine kpall9 ?_ (by first | (refine Or.inr ?_; first | (simp; done) | (simp; omega) | omega)) | with_reducible refine kpall6 ?_ (by first | (refine Or.inr ?_; first | (simp; done) | (simp; omega) | omega)) | with_reducible refine kp_set ?_ (by first | (refine Or.inl ?_; simp; done) | (refine Or.inr ?_; first | (simp; done) | (simp; omega) | omega)) _ | with_reducible refine kp_alloc ?_ _ | with_reducible refine kp_drew ?_ | with_reducible refine kp_drewN ?_ _ | with_reducible exact Keep.refl _ _))) hK6); have hs6 := hK6.size; (try simp at hs6); clear hK6))
    all_goals (go_wp2_with fail; go_meet; first | (have hq := Xf; exact ⟨w4.heap.size, j6, g6, rfl, he6, hg6, hid (by have := HR6.out; (repeat (first | with_reducible assumption | with_reducible refine prall15 ?_ (by first | (simp; done) | (simp; omega) | omega) | with_reducible refine prall9 ?_ (by first | (simp; done) | (simp; omega) | omega) | with_reducible refine prall6 ?_ (by first | (simp; done) | (simp; omega) | omega) | with_reducible refine PR.set ?_ (by first | (simp; done) | (simp; omega) | omega) _ | with_reducible refine PR.alloc ?_ _ | with_reducible refine PR.drew ?_))), hid (by have := hk6.out; (repeat (first | with_reducible assumption | with_reducible refine kpall15 ?_ (by first | (refine Or.inr ?_; first | (simp; done) | (simp; omega) | omega)) | with_reducible refine kpall9 ?_ (by first | (refine Or.inr ?_; first | (simp; done) | (simp; omega) | omega)) | with_reducible refine kpall6 ?_ (by first | (refine Or.inr ?_; first | (simp; done) | (simp; omega) | omega)) | with_reducible refine kp_set ?_ (by first | (refine Or.inl ?_; simp; done) | (refine Or.inr ?_; first | (simp; done) | (simp; omega) | omega)) _ | with_reducible refine kp_alloc ?_ _ | with_reducible refine kp_drew ?_ | with_reducible refine kp_drewN ?_ _ | with_reducible exact Keep.refl _ _))), hid ⟨by omega, by first | (simp; done) | (simp; omega) | omega⟩, hid (blkall15 Xf.out), hid (blkoth15 Xr.out (show w.heap.size ≠ w4.heap.size by omega))⟩) | (have hq := Xg; exact ⟨w5.heap.size, j6, g6, rfl, he6, hg6, hid (by have := HR6.out; (repeat (first | with_reducible assumption | with_reducible refine prall15 ?_ (by first | (simp; done) | (simp; omega) | omega) | with_reducible refine prall9 ?_ (by first | (simp; done) | (simp; omega) | omega) | with_reducible refine prall6 ?_ (by first | (simp; done) | (simp; omega) | omega) | with_reducible refine PR.set ?_ (by first | (simp; done) | (simp; omega) | omega) _ | with_reducible refine PR.alloc ?_ _ | with_reducible refine PR.drew ?_))), hid (by have := hk6.out; (repeat (first | with_reducible assumption | with_reducible refine kpall15 ?_ (by first | (refine Or.inr ?_; first | (simp; done) | (simp; omega) | omega)) | with_reducible refine kpall9 ?_ (by first | (refine Or.inr ?_; first | (simp; done) | (simp; omega) | omega)) | with_reducible refine kpall6 ?_ (by first | (refine Or.inr ?_; first | (simp; done) | (simp; omega) | omega)) | with_reducible refine kp_set ?_ (by first | (refine Or.inl ?_; simp; done) | (refine Or.inr ?_; first | (simp; done) | (simp; omega) | omega)) _ | with_reducible refine kp_alloc ?_ _ | with_reducible refine kp_drew ?_ | with_reducible refine kp_drewN ?_ _ | with_reducible exact Keep.refl _ _))), hid ⟨by omega, by first | (simp; done) | (simp; omega) | omega⟩, hid (blkall15 Xg.out), hid (blkoth15 Xr.out (show w.heap.size ≠ w5.heap.size by omega))⟩) | (exact ⟨w6.heap.size, j6, g6, rfl, he6, hg6, hid (by have := HR6.out; (repeat (first | with_reducible assumption | with_reducible refine prall15 ?_ (by first | (simp; done) | (simp; omega) | omega) | with_reducible refine prall9 ?_ (by first | (simp; done) | (simp; omega) | omega) | with_reducible refine prall6 ?_ (by first | (simp; done) | (simp; omega) | omega) | with_reducible refine PR.set ?_ (by first | (simp; done) | (simp; omega) | omega) _ | with_reducible refine PR.alloc ?_ _ | with_reducible refine PR.drew ?_))), hid (by have := hk6.out; (repeat (first | with_reducible assumption | with_reducible refine kpall15 ?_ (by first | (refine Or.inr ?_; first | (simp; done) | (simp; omega) | omega)) | with_reducible refine kpall9 ?_ (by first | (refine Or.inr ?_; first | (simp; done) | (simp; omega) | omega)) | with_reducible refine kpall6 ?_ (by first | (refine Or.inr ?_; first | (simp; done) | (simp; omega) | omega)) | with_reducible refine kp_set ?_ (by first | (refine Or.inl ?_; simp; done) | (refine Or.inr ?_; first | (simp; done) | (simp; omega) | omega)) _ | with_reducible refine kp_alloc ?_ _ | with_reducible refine kp_drew ?_ | with_reducible refine kp_drewN ?_ _ | with_reducible exact Keep.refl _ _))), hid ⟨by omega, by first | (simp; done) | (simp; omega) | omega⟩, hid (Blk.newAt rfl), hid (Xr.out.kept (below_alloc _))⟩))
  case rest =>
    obtain ⟨Q, j6, g6, rfl, he6, hg6, HR0, hk0, hQ, BF, BR⟩ := hcut
    have hQ1 := hQ.out.1
    have hQ2 := hQ.out.2
    clear Br xr yr zr Bm xm ym zm
    have Br := BR.out
    have Bf := BF.out
    have xr := Br.cellF
    have yr := Br.frz
    have zr : w.heap.size < wc.heap.size := by omega
    have xf := Bf.cellF
    have yf := Bf.frz
    have zf : Q < wc.heap.size := by omega
    have HPB : Hid (prB (stA ms i) = (g6.ty, g6.tat, stA ms j6)) := hid (by unfold prB; rw [HPA.out]; simp only []; rw [he4.out, hg6.out, ← he6.out])
    go_wp2_with fail
    refine (skipW w0 b off cap ms p _ j6 ⟨#[62]⟩ [62] rfl plain_gt (by have := HR0.out; (repeat (first | with_reducible assumption | with_reducible refine prall15 ?_ (by first | (simp; done) | (simp; omega) | omega) | with_reducible refine prall9 ?_ (by first | (simp; done) | (simp; omega) | omega) | with_reducible refine prall6 ?_ (by first | (simp; done) | (simp; omega) | omega) | with_reducible refine PR.set ?_ (by first | (simp; done) | (simp; omega) | omega) _ | with_reducible refine PR.alloc ?_ _ | with_reducible refine PR.drew ?_)))).mono ?_
    rintro e v1 ⟨hK1, (⟨j7, ua7, uc7, he7, rfl, HR1⟩ | ⟨hcd, rfl⟩)⟩
    case inr =>
      have hk1 : Hid (Keep (· ≠ p) w v1) := hid (Keep.trans (by have := hk0.out; (repeat (first | with_reducible assumption | with_reducible refine kpall15 ?_ (by first | (refine Or.inr ?_; first | (simp; done) | (simp; omega) | omega)) | with_reducible refine kpall9 ?_ (by first | (refine Or.inr ?_; first | (simp; done) | (simp; omega) | omega)) | with_reducible refine kpall6 ?_ (by first | (refine Or.inr ?_; first | (simp; done) | (simp; omega) | omega)) | with_reducible refine kp_set ?_ (by first | (refine Or.inl ?_; simp; done) | (refine Or.inr ?_; first | (simp; done) | (simp; omega) | omega)) _ | with_reducible refine kp_alloc ?_ _ | with_reducible refine kp_drew ?_ | with_reducible refine kp_drewN ?_ _ | with_reducible exact Keep.refl _ _))) hK1)
      clear hK1
      go_wp2
      exact ⟨rfl, by have := hk1.out; (repeat (first | with_reducible assumption | with_reducible refine kpall15 ?_ (by first | (refine Or.inr ?_; first | (simp; done) | (simp; omega) | omega)) | with_reducible refine kpall9 ?_ (by first | (refine Or.inr ?_; first | (simp; done) | (simp; omega) | omega)) | with_reducible refine kpall6 ?_ (by first | (refine Or.inr ?_; first | (simp; done) | (simp; omega) | omega)) | with_reducible refine kp_set ?_ (by first | (refine Or.inl ?_; simp; done) | (refine Or.inr ?_; first | (simp; done) | (simp; omega) | omega)) _ | with_reducible refine kp_alloc ?_ _ | with_reducible refine kp_drew ?_ | with_reducible refine kp_drewN ?_ _ | with_reducible exact Keep.refl _ _)), .inr (by rw [show (prsM (stA ms i)).2 = eatM (stA ms j6) [62] by unfold prsM prC; rw [HPB.out]; simp only [eat_bad hcd, nam_bad hcd]]; exact ⟨hcd, rfl⟩)⟩
    have Cr : Blk v1 (w.heap.size) 44 #[.string ⟨#[]⟩, .string ⟨#[]⟩, .string ⟨#[]⟩, .int .u64 0, .int .i64 0, .int .i64 0, .int .i64 0, .int .i64 0, .int .i64 0, .int .i64 0, .int .i64 0, .int .i64 0, .int .i64 0, .int .i64 0, .int .i64 0] := Blk.keep (Br.is (by first | rfl | simp)) hK1 (show w.heap.size ≠ p by omega)
    have Cf : Blk v1 (Q) 44 #[.string (strOfNums g6.name), .string (strOfNums g6.ty), .string (strOfNums g6.key), .int .u64 g6.num, .int .i64 g6.label, .int .i64 g6.packed, .int .i64 g6.oneof, .int .i64 g6.at1.1, .int .i64 g6.at1.2, .int .i64 g6.nat1.1, .int .i64 g6.nat1.2, .int .i64 g6.tat.1, .int .i64 g6.tat.2, .int .i64 g6.mat.1, .int .i64 g6.mat.2] := Blk.keep (Bf.is (by first | rfl | simp)) hK1 (show Q ≠ p by omega)
    clear Br xr yr Bf xf yf
    have hs1 := hK1.size
    try simp at hs1
    have Br := Cr
    clear Cr
    have xr := Br.cellF
    have yr := Br.frz
    replace zr : w.heap.size < v1.heap.size := by omega
    have Bf := Cf
    clear Cf
    have xf := Bf.cellF
    have yf := Bf.frz
    replace zf : Q < v1.heap.size := by omega
    have hp1 : p < v1.heap.size := by omega
    have hq1 : w.heap.size ≤ v1.heap.size := by omega
    have hk1 : Hid (Keep (· ≠ p) w v1) := hid (Keep.trans (by have := hk0.out; (repeat (first | with_reducible assumption | with_reducible refine kpall15 ?_ (by first | (refine Or.inr ?_; first | (simp; done) | (simp; omega) | omega)) | with_reducible refine kpall9 ?_ (by first | (refine Or.inr ?_; first | (simp; done) | (simp; omega) | omega)) | with_reducible refine kpall6 ?_ (by first | (refine Or.inr ?_; first | (simp; done) | (simp; omega) | omega)) | with_reducible refine kp_set ?_ (by first | (refine Or.inl ?_; simp; done) | (refine Or.inr ?_; first | (simp; done) | (simp; omega) | omega)) _ | with_reducible refine kp_alloc ?_ _ | with_reducible refine kp_drew ?_ | with_reducible refine kp_drewN ?_ _ | with_reducible exact Keep.refl _ _))) hK1)
    clear hK1
    go_wp2_with fail
    refine (namedW w0 b off cap ms p _ j7 g6 (by have := HR1.out; (repeat (first | with_reducible assumption | with_reducible refine prall15 ?_ (by first | (simp; done) | (simp; omega) | omega) | with_reducible refine prall9 ?_ (by first | (simp; done) | (simp; omega) | omega) | with_reducible refine prall6 ?_ (by first | (simp; done) | (simp; omega) | omega) | with_reducible refine PR.set ?_ (by first | (simp; done) | (simp; omega) | omega) _ | with_reducible refine PR.alloc ?_ _ | with_reducible refine PR.drew ?_)))).mono ?_
    rintro e v2 ⟨hK2, (⟨j8, g8, he8, hg8, rfl, ho8, HR2⟩ | ⟨hcd, rfl⟩)⟩
    case inr =>
      have hk2 : Hid (Keep (· ≠ p) w v2) := hid (Keep.trans (by have := hk1.out; (repeat (first | with_reducible assumption | with_reducible refine kpall15 ?_ (by first | (refine Or.inr ?_; first | (simp; done) | (simp; omega) | omega)) | with_reducible refine kpall9 ?_ (by first | (refine Or.inr ?_; first | (simp; done) | (simp; omega) | omega)) | with_reducible refine kpall6 ?_ (by first | (refine Or.inr ?_; first | (simp; done) | (simp; omega) | omega)) | with_reducible refine kp_set ?_ (by first | (refine Or.inl ?_; simp; done) | (refine Or.inr ?_; first | (simp; done) | (simp; omega) | omega)) _ | with_reducible refine kp_alloc ?_ _ | with_reducible refine kp_drew ?_ | with_reducible refine kp_drewN ?_ _ | with_reducible exact Keep.refl _ _))) hK2)
      clear hK2
      go_wp2
      exact ⟨rfl, by have := hk2.out; (repeat (first | with_reducible assumption | with_reducible refine kpall15 ?_ (by first | (refine Or.inr ?_; first | (simp; done) | (simp; omega) | omega)) | with_reducible refine kpall9 ?_ (by first | (refine Or.inr ?_; first | (simp; done) | (simp; omega) | omega)) | with_reducible refine kpall6 ?_ (by first | (refine Or.inr ?_; first | (simp; done) | (simp; omega) | omega)) | with_reducible refine kp_set ?_ (by first | (refine Or.inl ?_; simp; done) | (refine Or.inr ?_; first | (simp; done) | (simp; omega) | omega)) _ | with_reducible refine kp_alloc ?_ _ | with_reducible refine kp_drew ?_ | with_reducible refine kp_drewN ?_ _ | with_reducible exact Keep.refl _ _)), .inr (by rw [show (prsM (stA ms i)).2 = (namM (stA ms j7)).2.2 by unfold prsM prC; rw [HPB.out]; simp only []; rw [he7.out]; simp only [eat_bad hcd]]; exact ⟨hcd, rfl⟩)⟩
    have Cr : Blk v2 (w.heap.size) 44 #[.string ⟨#[]⟩, .string ⟨#[]⟩, .string ⟨#[]⟩, .int .u64 0, .int .i64 0, .int .i64 0, .int .i64 0, .int .i64 0, .int .i64 0, .int .i64 0, .int .i64 0, .int .i64 0, .int .i64 0, .int .i64 0, .int .i64 0] := Blk.keep (Br.is (by first | rfl | simp)) hK2 (show w.heap.size ≠ p by omega)
    have Cf : Blk v2 (Q) 44 #[.string (strOfNums g6.name), .string (strOfNums g6.ty), .string (strOfNums g6.key), .int .u64 g6.num, .int .i64 g6.label, .int .i64 g6.packed, .int .i64 g6.oneof, .int .i64 g6.at1.1, .int .i64 g6.at1.2, .int .i64 g6.nat1.1, .int .i64 g6.nat1.2, .int .i64 g6.tat.1, .int .i64 g6.tat.2, .int .i64 g6.mat.1, .int .i64 g6.mat.2] := Blk.keep (Bf.is (by first | rfl | simp)) hK2 (show Q ≠ p by omega)
    clear Br xr yr Bf xf yf
    have hs2 := hK2.size
    try simp at hs2
    have Br := Cr
    clear Cr
    have xr := Br.cellF
    have yr := Br.frz
    replace zr : w.heap.size < v2.heap.size := by omega
    have Bf := Cf
    clear Cf
    have xf := Bf.cellF
    have yf := Bf.frz
    replace zf : Q < v2.heap.size := by omega
    have hp2 : p < v2.heap.size := by omega
    have hq2 : w.heap.size ≤ v2.heap.size := by omega
    have hk2 : Hid (Keep (· ≠ p) w v2) := hid (Keep.trans (by have := hk1.out; (repeat (first | with_reducible assumption | with_reducible refine kpall15 ?_ (by first | (refine Or.inr ?_; first | (simp; done) | (simp; omega) | omega)) | with_reducible refine kpall9 ?_ (by first | (refine Or.inr ?_; first | (simp; done) | (simp; omega) | omega)) | with_reducible refine kpall6 ?_ (by first | (refine Or.inr ?_; first | (simp; done) | (simp; omega) | omega)) | with_reducible refine kp_set ?_ (by first | (refine Or.inl ?_; simp; done) | (refine Or.inr ?_; first | (simp; done) | (simp; omega) | omega)) _ | with_reducible refine kp_alloc ?_ _ | with_reducible refine kp_drew ?_ | with_reducible refine kp_drewN ?_ _ | with_reducible exact Keep.refl _ _))) hK2)
    clear hK2
    go_wp2_with fail
    refine (skipW w0 b off cap ms p _ j8 ⟨#[59]⟩ [59] rfl plain_sc (by have := HR2.out; (repeat (first | with_reducible assumption | with_reducible refine prall15 ?_ (by first | (simp; done) | (simp; omega) | omega) | with_reducible refine prall9 ?_ (by first | (simp; done) | (simp; omega) | omega) | with_reducible refine prall6 ?_ (by first | (simp; done) | (simp; omega) | omega) | with_reducible refine PR.set ?_ (by first | (simp; done) | (simp; omega) | omega) _ | with_reducible refine PR.alloc ?_ _ | with_reducible refine PR.drew ?_)))).mono ?_
    rintro e v3 ⟨hK3, (⟨j9, ua9, uc9, he9, rfl, HR3⟩ | ⟨hcd, rfl⟩)⟩
    case inr =>
      have hk3 : Hid (Keep (· ≠ p) w v3) := hid (Keep.trans (by have := hk2.out; (repeat (first | with_reducible assumption | with_reducible refine kpall15 ?_ (by first | (refine Or.inr ?_; first | (simp; done) | (simp; omega) | omega)) | with_reducible refine kpall9 ?_ (by first | (refine Or.inr ?_; first | (simp; done) | (simp; omega) | omega)) | with_reducible refine kpall6 ?_ (by first | (refine Or.inr ?_; first | (simp; done) | (simp; omega) | omega)) | with_reducible refine kp_set ?_ (by first | (refine Or.inl ?_; simp; done) | (refine Or.inr ?_; first | (simp; done) | (simp; omega) | omega)) _ | with_reducible refine kp_alloc ?_ _ | with_reducible refine kp_drew ?_ | with_reducible refine kp_drewN ?_ _ | with_reducible exact Keep.refl _ _))) hK3)
      clear hK3
      go_wp2
      exact ⟨rfl, by have := hk3.out; (repeat (first | with_reducible assumption | with_reducible refine kpall15 ?_ (by first | (refine Or.inr ?_; first | (simp; done) | (simp; omega) | omega)) | with_reducible refine kpall9 ?_ (by first | (refine Or.inr ?_; first | (simp; done) | (simp; omega) | omega)) | with_reducible refine kpall6 ?_ (by first | (refine Or.inr ?_; first | (simp; done) | (simp; omega) | omega)) | with_reducible refine kp_set ?_ (by first | (refine Or.inl ?_; simp; done) | (refine Or.inr ?_; first | (simp; done) | (simp; omega) | omega)) _ | with_reducible refine kp_alloc ?_ _ | with_reducible refine kp_drew ?_ | with_reducible refine kp_drewN ?_ _ | with_reducible exact Keep.refl _ _)), .inr (by rw [show (prsM (stA ms i)).2 = eatM (stA ms j8) [59] by unfold prsM prC; rw [HPB.out]; simp only []; rw [he7.out, he8.out]]; exact ⟨hcd, rfl⟩)⟩
    have Cr : Blk v3 (w.heap.size) 44 #[.string ⟨#[]⟩, .string ⟨#[]⟩, .string ⟨#[]⟩, .int .u64 0, .int .i64 0, .int .i64 0, .int .i64 0, .int .i64 0, .int .i64 0, .int .i64 0, .int .i64 0, .int .i64 0, .int .i64 0, .int .i64 0, .int .i64 0] := Blk.keep ((blkoth15 Br (show w.heap.size ≠ Q by omega)).is (by first | rfl | simp)) hK3 (show w.heap.size ≠ p by omega)
    have Cf : Blk v3 (Q) 44 #[.string (strOfNums g8.name), .string (strOfNums g8.ty), .string (strOfNums g8.key), .int .u64 g8.num, .int .i64 g8.label, .int .i64 g8.packed, .int .i64 g8.oneof, .int .i64 g8.at1.1, .int .i64 g8.at1.2, .int .i64 g8.nat1.1, .int .i64 g8.nat1.2, .int .i64 g8.tat.1, .int .i64 g8.tat.2, .int .i64 g8.mat.1, .int .i64 g8.mat.2] := Blk.keep ((blkall15 Bf).is (by first | rfl | simp)) hK3 (show Q ≠ p by omega)
    clear Br xr yr Bf xf yf
    have hs3 := hK3.size
    try simp at hs3
    have Br := Cr
    clear Cr
    have xr := Br.cellF
    have yr := Br.frz
    replace zr : w.heap.size < v3.heap.size := by omega
    have Bf := Cf
    clear Cf
    have xf := Bf.cellF
    have yf := Bf.frz
    replace zf : Q < v3.heap.size := by omega
    have hp3 : p < v3.heap.size := by omega
    have hq3 : w.heap.size ≤ v3.heap.size := by omega
    have hk3 : Hid (Keep (· ≠ p) w v3) := hid (Keep.trans (by have := hk2.out; (repeat (first | with_reducible assumption | with_reducible refine kpall15 ?_ (by first | (refine Or.inr ?_; first | (simp; done) | (simp; omega) | omega)) | with_reducible refine kpall9 ?_ (by first | (refine Or.inr ?_; first | (simp; done) | (simp; omega) | omega)) | with_reducible refine kpall6 ?_ (by first | (refine Or.inr ?_; first | (simp; done) | (simp; omega) | omega)) | with_reducible refine kp_set ?_ (by first | (refine Or.inl ?_; simp; done) | (refine Or.inr ?_; first | (simp; done) | (simp; omega) | omega)) _ | with_reducible refine kp_alloc ?_ _ | with_reducible refine kp_drew ?_ | with_reducible refine kp_drewN ?_ _ | with_reducible exact Keep.refl _ _))) hK3)
    clear hK3
    go_wp2
    exact bodyPost_ret (v := .agg #[.string (strOfNums g8.name), .string (strOfNums g8.ty), .string (strOfNums g8.key), .int .u64 g8.num, .int .i64 g8.label, .int .i64 g8.packed, .int .i64 g8.oneof, .int .i64 g8.at1.1, .int .i64 g8.at1.2, .int .i64 g8.nat1.1, .int .i64 g8.nat1.2, .int .i64 g8.tat.1, .int .i64 g8.tat.2, .int .i64 g8.mat.1, .int .i64 g8.mat.2]) (by simp [results, Tryd.results58, go_sem, xf, zf, xr, zr]) rfl ⟨by have := hk3.out; (repeat (first | with_reducible assumption | with_reducible refine kpall15 ?_ (by first | (refine Or.inr ?_; first | (simp; done) | (simp; omega) | omega)) | with_reducible refine kpall9 ?_ (by first | (refine Or.inr ?_; first | (simp; done) | (simp; omega) | omega)) | with_reducible refine kpall6 ?_ (by first | (refine Or.inr ?_; first | (simp; done) | (simp; omega) | omega)) | with_reducible refine kp_set ?_ (by first | (refine Or.inl ?_; simp; done) | (refine Or.inr ?_; first | (simp; done) | (simp; omega) | omega)) _ | with_reducible refine kp_alloc ?_ _ | with_reducible refine kp_drew ?_ | with_reducible refine kp_drewN ?_ _ | with_reducible exact Keep.refl _ _)), .inl ⟨j9, g8, hid (by unfold prsM prC; rw [HPB.out]; simp only []; rw [he7.out, he8.out]; exact he9.out), hid (by rw [HX.out, HPA.out, hg8.out]; unfold prC; rw [HPB.out]; simp only []; rw [he7.out, hg6.out]; rfl), rfl, hid (by have := HR3.out; (repeat (first | with_reducible assumption | with_reducible refine prall15 ?_ (by first | (simp; done) | (simp; omega) | omega) | with_reducible refine prall9 ?_ (by first | (simp; done) | (simp; omega) | omega) | with_reducible refine prall6 ?_ (by first | (simp; done) | (simp; omega) | omega) | with_reducible refine PR.set ?_ (by first | (simp; done) | (simp; omega) | omega) _ | with_reducible refine PR.alloc ?_ _ | with_reducible refine PR.drew ?_)))⟩⟩
end
end Go.Proofs.YtidimdbnnnpplaaDoor
