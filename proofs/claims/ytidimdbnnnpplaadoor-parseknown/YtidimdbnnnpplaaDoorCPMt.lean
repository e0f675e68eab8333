/-
  The reader of the program parse: fields.
  The reader of the program parse: fields.
  The reader of the program parse: fields.
-/
import Derived.Test.YtidimdbnnnpplaaDoorCPKb
namespace Go.Proofs.YtidimdbnnnpplaaDoor
open Go.RowKit
set_option maxRecDepth 1000000
set_option linter.unusedVariables false
set_option linter.unusedSimpArgs false
set_option maxHeartbeats 8000000

section
variable (w0 : World) (b off cap : Nat) (ms : List Mw) (p : Nat) (w : World) (i : Nat)
theorem fieldW_true (f : MF) (hml : ms.length ≤ 70000) (hi0 : isM (fA f (stA ms i)).2 [91] = true) (h : PR w0 b off cap ms p w i) : Calls Tryd.prog 59 #[.pointer (some ⟨p, 0, none⟩), .agg #[.string (strOfNums f.name), .string (strOfNums f.ty), .string (strOfNums f.key), .int .u64 f.num, .int .i64 f.label, .int .i64 f.packed, .int .i64 f.oneof, .int .i64 f.at1.1, .int .i64 f.at1.2, .int .i64 f.nat1.1, .int .i64 f.nat1.2, .int .i64 f.tat.1, .int .i64 f.tat.2, .int .i64 f.mat.1, .int .i64 f.mat.2]] w fun e w' => Keep (· ≠ p) w w' ∧ ((∃ j g, Hid ((fB f (stA ms i)).2 = stA ms j) ∧ Hid (g = (fB f (stA ms i)).1) ∧ e = .returned (.agg #[.string (strOfNums g.name), .string (strOfNums g.ty), .string (strOfNums g.key), .int .u64 g.num, .int .i64 g.label, .int .i64 g.packed, .int .i64 g.oneof, .int .i64 g.at1.1, .int .i64 g.at1.2, .int .i64 g.nat1.1, .int .i64 g.nat1.2, .int .i64 g.tat.1, .int .i64 g.tat.2, .int .i64 g.mat.1, .int .i64 g.mat.2]) ∧ Hid (PR w0 b off cap ms p w' j)) ∨ Fell (fB f (stA ms i)).2 e) := by
  have HML := hid hml
  have HI0 := hid hi0
  clear hml hi0
  have HXb : Hid (∀ S, (fA f (stA ms i)).2 = S → S.cd ≠ 0 → (fB f (stA ms i)).2 = S) := hid (fun S e h => by unfold fB; rw [e, is_bad h, if_neg (by simp)]; simp only [eat_bad h])
  have hk0 : Hid (Keep (· ≠ p) w w) := hid (Keep.refl _ _)
  have hpl : p < w.heap.size := h.blk.lt
  have HR0 := hid h
  clear h
  go_enter Tryd.func59, Tryd.ntmps59
  go_wp2_with fail
  refine (typedW w0 b off cap ms p _ i f HML.out (by have := HR0.out; (repeat (first | with_reducible assumption | with_reducible refine prall15 ?_ (by first | (simp; done) | (simp; omega) | omega) | with_reducible refine prall9 ?_ (by first | (simp; done) | (simp; omega) | omega) | with_reducible refine prall6 ?_ (by first | (simp; done) | (simp; omega) | omega) | with_reducible refine PR.set ?_ (by first | (simp; done) | (simp; omega) | omega) _ | with_reducible refine PR.alloc ?_ _ | with_reducible refine PR.drew ?_)))).mono ?_
  rintro e w1 ⟨hK1, (⟨j1, g1, he1, hg1, rfl, HR1⟩ | ⟨hcd, rfl⟩)⟩
  case inr =>
    have hk1 : Hid (Keep (· ≠ p) w w1) := hid (Keep.trans (by have := hk0.out; (repeat (first | with_reducible assumption | with_reducible refine kpall15 ?_ (by first | (refine Or.inr ?_; first | (simp; done) | (simp; omega) | omega)) | with_reducible refine kpall9 ?_ (by first | (refine Or.inr ?_; first | (simp; done) | (simp; omega) | omega)) | with_reducible refine kpall6 ?_ (by first | (refine Or.inr ?_; first | (simp; done) | (simp; omega) | omega)) | with_reducible refine kp_set ?_ (by first | (refine Or.inl ?_; simp; done) | (refine Or.inr ?_; first | (simp; done) | (simp; omega) | omega)) _ | with_reducible refine kp_alloc ?_ _ | with_reducible refine kp_drew ?_ | with_reducible refine kp_drewN ?_ _ | with_reducible exact Keep.refl _ _))) hK1)
    clear hK1
    go_wp2
    exact ⟨rfl, by have := hk1.out; (repeat (first | with_reducible assumption | with_reducible refine kpall15 ?_ (by first | (refine Or.inr ?_; first | (simp; done) | (simp; omega) | omega)) | with_reducible refine kpall9 ?_ (by first | (refine Or.inr ?_; first | (simp; done) | (simp; omega) | omega)) | with_reducible refine kpall6 ?_ (by first | (refine Or.inr ?_; first | (simp; done) | (simp; omega) | omega)) | with_reducible refine kp_set ?_ (by first | (refine Or.inl ?_; simp; done) | (refine Or.inr ?_; first | (simp; done) | (simp; omega) | omega)) _ | with_reducible refine kp_alloc ?_ _ | with_reducible refine kp_drew ?_ | with_reducible refine kp_drewN ?_ _ | with_reducible exact Keep.refl _ _)), .inr (by rw [HXb.out (typM (stA ms i)).2.2 (by unfold fA; simp only [nam_bad hcd]) hcd]; exact ⟨hcd, rfl⟩)⟩
  have Cf : Blk w1 (w.heap.size) 44 #[.string (strOfNums f.name), .string (strOfNums f.ty), .string (strOfNums f.key), .int .u64 f.num, .int .i64 f.label, .int .i64 f.packed, .int .i64 f.oneof, .int .i64 f.at1.1, .int .i64 f.at1.2, .int .i64 f.nat1.1, .int .i64 f.nat1.2, .int .i64 f.tat.1, .int .i64 f.tat.2, .int .i64 f.mat.1, .int .i64 f.mat.2] := Blk.keep (((Blk.newAt (by simp)).kept (below_alloc _)).is (by first | rfl | simp)) hK1 (show w.heap.size ≠ p by omega)
  have Cr : Blk w1 (w.heap.size + 1) 44 #[.string ⟨#[]⟩, .string ⟨#[]⟩, .string ⟨#[]⟩, .int .u64 0, .int .i64 0, .int .i64 0, .int .i64 0, .int .i64 0, .int .i64 0, .int .i64 0, .int .i64 0, .int .i64 0, .int .i64 0, .int .i64 0, .int .i64 0] := Blk.keep ((Blk.newAt (by simp)).is (by first | rfl | simp)) hK1 (show w.heap.size + 1 ≠ p by omega)
  have hs1 := hK1.size
  try simp at hs1
  have Bf := Cf
  clear Cf
  have xf := Bf.cellF
  have yf := Bf.frz
  have zf : w.heap.size < w1.heap.size := by omega
  have Br := Cr
  clear Cr
  have xr := Br.cellF
  have yr := Br.frz
  have zr : w.heap.size + 1 < w1.heap.size := by omega
  have hp1 : p < w1.heap.size := by omega
  have hq1 : w.heap.size ≤ w1.heap.size := by omega
  have hk1 : Hid (Keep (· ≠ p) w w1) := hid (Keep.trans (by have := hk0.out; (repeat (first | with_reducible assumption | with_reducible refine kpall15 ?_ (by first | (refine Or.inr ?_; first | (simp; done) | (simp; omega) | omega)) | with_reducible refine kpall9 ?_ (by first | (refine Or.inr ?_; first | (simp; done) | (simp; omega) | omega)) | with_reducible refine kpall6 ?_ (by first | (refine Or.inr ?_; first | (simp; done) | (simp; omega) | omega)) | with_reducible refine kp_set ?_ (by first | (refine Or.inl ?_; simp; done) | (refine Or.inr ?_; first | (simp; done) | (simp; omega) | omega)) _ | with_reducible refine kp_alloc ?_ _ | with_reducible refine kp_drew ?_ | with_reducible refine kp_drewN ?_ _ | with_reducible exact Keep.refl _ _))) hK1)
  clear hK1
  go_wp2_with fail
  refine (namedW w0 b off cap ms p _ j1 g1 (by have := HR1.out; (repeat (first | with_reducible assumption | with_reducible refine prall15 ?_ (by first | (simp; done) | (simp; omega) | omega) | with_reducible refine prall9 ?_ (by first | (simp; done) | (simp; omega) | omega) | with_reducible refine prall6 ?_ (by first | (simp; done) | (simp; omega) | omega) | with_reducible refine PR.set ?_ (by first | (simp; done) | (simp; omega) | omega) _ | with_reducible refine PR.alloc ?_ _ | with_reducible refine PR.drew ?_)))).mono ?_
  rintro e w2 ⟨hK2, (⟨j2, g2, he2, hg2, rfl, ho2, HR2⟩ | ⟨hcd, rfl⟩)⟩
  case inr =>
    have hk2 : Hid (Keep (· ≠ p) w w2) := hid (Keep.trans (by have := hk1.out; (repeat (first | with_reducible assumption | with_reducible refine kpall15 ?_ (by first | (refine Or.inr ?_; first | (simp; done) | (simp; omega) | omega)) | with_reducible refine kpall9 ?_ (by first | (refine Or.inr ?_; first | (simp; done) | (simp; omega) | omega)) | with_reducible refine kpall6 ?_ (by first | (refine Or.inr ?_; first | (simp; done) | (simp; omega) | omega)) | with_reducible refine kp_set ?_ (by first | (refine Or.inl ?_; simp; done) | (refine Or.inr ?_; first | (simp; done) | (simp; omega) | omega)) _ | with_reducible refine kp_alloc ?_ _ | with_reducible refine kp_drew ?_ | with_reducible refine kp_drewN ?_ _ | with_reducible exact Keep.refl _ _))) hK2)
    clear hK2
    go_wp2
    exact ⟨rfl, by have := hk2.out; (repeat (first | with_reducible assumption | with_reducible refine kpall15 ?_ (by first | (refine Or.inr ?_; first | (simp; done) | (simp; omega) | omega)) | with_reducible refine kpall9 ?_ (by first | (refine Or.inr ?_; first | (simp; done) | (simp; omega) | omega)) | with_reducible refine kpall6 ?_ (by first | (refine Or.inr ?_; first | (simp; done) | (simp; omega) | omega)) | with_reducible refine kp_set ?_ (by first | (refine Or.inl ?_; simp; done) | (refine Or.inr ?_; first | (simp; done) | (simp; omega) | omega)) _ | with_reducible refine kp_alloc ?_ _ | with_reducible refine kp_drew ?_ | with_reducible refine kp_drewN ?_ _ | with_reducible exact Keep.refl _ _)), .inr (by rw [HXb.out (namM (stA ms j1)).2.2 (by unfold fA; rw [he1.out]) hcd]; exact ⟨hcd, rfl⟩)⟩
  have Cf : Blk w2 (w.heap.size) 44 #[.string (strOfNums f.name), .string (strOfNums f.ty), .string (strOfNums f.key), .int .u64 f.num, .int .i64 f.label, .int .i64 f.packed, .int .i64 f.oneof, .int .i64 f.at1.1, .int .i64 f.at1.2, .int .i64 f.nat1.1, .int .i64 f.nat1.2, .int .i64 f.tat.1, .int .i64 f.tat.2, .int .i64 f.mat.1, .int .i64 f.mat.2] := Blk.keep (Bf.is (by first | rfl | simp)) hK2 (show w.heap.size ≠ p by omega)
  have Cr : Blk w2 (w.heap.size + 1) 44 #[.string ⟨#[]⟩, .string ⟨#[]⟩, .string ⟨#[]⟩, .int .u64 0, .int .i64 0, .int .i64 0, .int .i64 0, .int .i64 0, .int .i64 0, .int .i64 0, .int .i64 0, .int .i64 0, .int .i64 0, .int .i64 0, .int .i64 0] := Blk.keep (Br.is (by first | rfl | simp)) hK2 (show w.heap.size + 1 ≠ p by omega)
  clear Bf xf yf Br xr yr
  have hs2 := hK2.size
  try simp at hs2
  have Bf := Cf
  clear Cf
  have xf := Bf.cellF
  have yf := Bf.frz
  replace zf : w.heap.size < w2.heap.size := by omega
  have Br := Cr
  clear Cr
  have xr := Br.cellF
  have yr := Br.frz
  replace zr : w.heap.size + 1 < w2.heap.size := by omega
  have hp2 : p < w2.heap.size := by omega
  have hq2 : w.heap.size ≤ w2.heap.size := by omega
  have hk2 : Hid (Keep (· ≠ p) w w2) := hid (Keep.trans (by have := hk1.out; (repeat (first | with_reducible assumption | with_reducible refine kpall15 ?_ (by first | (refine Or.inr ?_; first | (simp; done) | (simp; omega) | omega)) | with_reducible refine kpall9 ?_ (by first | (refine Or.inr ?_; first | (simp; done) | (simp; omega) | omega)) | with_reducible refine kpall6 ?_ (by first | (refine Or.inr ?_; first | (simp; done) | (simp; omega) | omega)) | with_reducible refine kp_set ?_ (by first | (refine Or.inl ?_; simp; done) | (refine Or.inr ?_; first | (simp; done) | (simp; omega) | omega)) _ | with_reducible refine kp_alloc ?_ _ | with_reducible refine kp_drew ?_ | with_reducible refine kp_drewN ?_ _ | with_reducible exact Keep.refl _ _))) hK2)
  clear hK2
  have HFA : Hid (fA f (stA ms i) = (g2, stA ms j2)) := hid (by unfold fA; rw [he1.out, he2.out, hg2.out, hg1.out])
  have hi : isM (stA ms j2) [91] = true := by have := HI0.out; rw [HFA.out] at this; exact this
  go_wp2_with fail
  refine (isNextW w0 b off cap ms p _ j2 ⟨#[91]⟩ [91] rfl plain_lb (by have := HR2.out; (repeat (first | with_reducible assumption | with_reducible refine prall15 ?_ (by first | (simp; done) | (simp; omega) | omega) | with_reducible refine prall9 ?_ (by first | (simp; done) | (simp; omega) | omega) | with_reducible refine prall6 ?_ (by first | (simp; done) | (simp; omega) | omega) | with_reducible refine PR.set ?_ (by first | (simp; done) | (simp; omega) | omega) _ | with_reducible refine PR.alloc ?_ _ | with_reducible refine PR.drew ?_)))).mono ?_
  rintro e w3 ⟨rfl, hb3⟩
  have hK3 := Keep.ofBelow (f := (· ≠ p)) hb3
  have HR3 : Hid (PR w0 b off cap ms p w3 (j2)) := hid (PR.kept (by have := HR2.out; (repeat (first | with_reducible assumption | with_reducible refine prall15 ?_ (by first | (simp; done) | (simp; omega) | omega) | with_reducible refine prall9 ?_ (by first | (simp; done) | (simp; omega) | omega) | with_reducible refine prall6 ?_ (by first | (simp; done) | (simp; omega) | omega) | with_reducible refine PR.set ?_ (by first | (simp; done) | (simp; omega) | omega) _ | with_reducible refine PR.alloc ?_ _ | with_reducible refine PR.drew ?_))) hb3)
  clear hb3
  have Cf : Blk w3 (w.heap.size) 44 #[.string (strOfNums g2.name), .string (strOfNums g2.ty), .string (strOfNums g2.key), .int .u64 g2.num, .int .i64 g2.label, .int .i64 g2.packed, .int .i64 g2.oneof, .int .i64 g2.at1.1, .int .i64 g2.at1.2, .int .i64 g2.nat1.1, .int .i64 g2.nat1.2, .int .i64 g2.tat.1, .int .i64 g2.tat.2, .int .i64 g2.mat.1, .int .i64 g2.mat.2] := Blk.keep ((blkall15 Bf).is (by first | rfl | simp)) hK3 (show w.heap.size ≠ p by omega)
  have Cr : Blk w3 (w.heap.size + 1) 44 #[.string ⟨#[]⟩, .string ⟨#[]⟩, .string ⟨#[]⟩, .int .u64 0, .int .i64 0, .int .i64 0, .int .i64 0, .int .i64 0, .int .i64 0, .int .i64 0, .int .i64 0, .int .i64 0, .int .i64 0, .int .i64 0, .int .i64 0] := Blk.keep ((blkoth15 Br (show w.heap.size + 1 ≠ w.heap.size by omega)).is (by first | rfl | simp)) hK3 (show w.heap.size + 1 ≠ p by omega)
  clear Bf xf yf Br xr yr
  have hs3 := hK3.size
  try simp at hs3
  have Bf := Cf
  clear Cf
  have xf := Bf.cellF
  have yf := Bf.frz
  replace zf : w.heap.size < w3.heap.size := by omega
  have Br := Cr
  clear Cr
  have xr := Br.cellF
  have yr := Br.frz
  replace zr : w.heap.size + 1 < w3.heap.size := by omega
  have hp3 : p < w3.heap.size := by omega
  have hq3 : w.heap.size ≤ w3.heap.size := by omega
  have hk3 : Hid (Keep (· ≠ p) w w3) := hid (Keep.trans (by have := hk2.out; (repeat (first | with_reducible assumption | with_reducible refine kpall15 ?_ (by first | (refine Or.inr ?_; first | (simp; done) | (simp; omega) | omega)) | with_reducible refine kpall9 ?_ (by first | (refine Or.inr ?_; first | (simp; done) | (simp; omega) | omega)) | with_reducible refine kpall6 ?_ (by first | (refine Or.inr ?_; first | (simp; done) | (simp; omega) | omega)) | with_reducible refine kp_set ?_ (by first | (refine Or.inl ?_; simp; done) | (refine Or.inr ?_; first | (simp; done) | (simp; omega) | omega)) _ | with_reducible refine kp_alloc ?_ _ | with_reducible refine kp_drew ?_ | with_reducible refine kp_drewN ?_ _ | with_reducible exact Keep.refl _ _))) hK3)
  clear hK3
  rw [hi]
  have HFB : Hid (fB f (stA ms i) = ((opM g2 (stA ms j2)).1, eatM (opM g2 (stA ms j2)).2 [59])) := hid (by unfold fB; rw [HFA.out]; simp only []; rw [if_pos hi])
  go_wp2_with fail
  refine (optionW w0 b off cap ms p _ j2 g2 (by have := HR3.out; (repeat (first | with_reducible assumption | with_reducible refine prall15 ?_ (by first | (simp; done) | (simp; omega) | omega) | with_reducible refine prall9 ?_ (by first | (simp; done) | (simp; omega) | omega) | with_reducible refine prall6 ?_ (by first | (simp; done) | (simp; omega) | omega) | with_reducible refine PR.set ?_ (by first | (simp; done) | (simp; omega) | omega) _ | with_reducible refine PR.alloc ?_ _ | with_reducible refine PR.drew ?_)))).mono ?_
  rintro e w4 ⟨hK4, (⟨j4, g4, he4, hg4, rfl, HR4⟩ | ⟨hcd, rfl⟩)⟩
  case inr =>
    have hk4 : Hid (Keep (· ≠ p) w w4) := hid (Keep.trans (by have := hk3.out; (repeat (first | with_reducible assumption | with_reducible refine kpall15 ?_ (by first | (refine Or.inr ?_; first | (simp; done) | (simp; omega) | omega)) | with_reducible refine kpall9 ?_ (by first | (refine Or.inr ?_; first | (simp; done) | (simp; omega) | omega)) | with_reducible refine kpall6 ?_ (by first | (refine Or.inr ?_; first | (simp; done) | (simp; omega) | omega)) | with_reducible refine kp_set ?_ (by first | (refine Or.inl ?_; simp; done) | (refine Or.inr ?_; first | (simp; done) | (simp; omega) | omega)) _ | with_reducible refine kp_alloc ?_ _ | with_reducible refine kp_drew ?_ | with_reducible refine kp_drewN ?_ _ | with_reducible exact Keep.refl _ _))) hK4)
    clear hK4
    go_wp2
    exact ⟨rfl, by have := hk4.out; (repeat (first | with_reducible assumption | with_reducible refine kpall15 ?_ (by first | (refine Or.inr ?_; first | (simp; done) | (simp; omega) | omega)) | with_reducible refine kpall9 ?_ (by first | (refine Or.inr ?_; first | (simp; done) | (simp; omega) | omega)) | with_reducible refine kpall6 ?_ (by first | (refine Or.inr ?_; first | (simp; done) | (simp; omega) | omega)) | with_reducible refine kp_set ?_ (by first | (refine Or.inl ?_; simp; done) | (refine Or.inr ?_; first | (simp; done) | (simp; omega) | omega)) _ | with_reducible refine kp_alloc ?_ _ | with_reducible refine kp_drew ?_ | with_reducible refine kp_drewN ?_ _ | with_reducible exact Keep.refl _ _)), .inr (by rw [HFB.out]; simp only [eat_bad hcd]; exact ⟨hcd, rfl⟩)⟩
  have Cf : Blk w4 (w.heap.size) 44 #[.string (strOfNums g2.name), .string (strOfNums g2.ty), .string (strOfNums g2.key), .int .u64 g2.num, .int .i64 g2.label, .int .i64 g2.packed, .int .i64 g2.oneof, .int .i64 g2.at1.1, .int .i64 g2.at1.2, .int .i64 g2.nat1.1, .int .i64 g2.nat1.2, .int .i64 g2.tat.1, .int .i64 g2.tat.2, .int .i64 g2.mat.1, .int .i64 g2.mat.2] := Blk.keep (Bf.is (by first | rfl | simp)) hK4 (show w.heap.size ≠ p by omega)
  have Cr : Blk w4 (w.heap.size + 1) 44 #[.string ⟨#[]⟩, .string ⟨#[]⟩, .string ⟨#[]⟩, .int .u64 0, .int .i64 0, .int .i64 0, .int .i64 0, .int .i64 0, .int .i64 0, .int .i64 0, .int .i64 0, .int .i64 0, .int .i64 0, .int .i64 0, .int .i64 0] := Blk.keep (Br.is (by first | rfl | simp)) hK4 (show w.heap.size + 1 ≠ p by omega)
  clear Bf xf yf Br xr yr
  have hs4 := hK4.size
  try simp at hs4
  have Bf := Cf
  clear Cf
  have xf := Bf.cellF
  have yf := Bf.frz
  replace zf : w.heap.size < w4.heap.size := by omega
  have Br := Cr
  clear Cr
  have xr := Br.cellF
  have yr := Br.frz
  replace zr : w.heap.size + 1 < w4.heap.size := by omega
  have hp4 : p < w4.heap.size := by omega
  have hq4 : w.heap.size ≤ w4.heap.size := by omega
  have hk4 : Hid (Keep (· ≠ p) w w4) := hid (Keep.trans (by have := hk3.out; (repeat (first | with_reducible assumption | with_reducible refine kpall15 ?_ (by first | (refine Or.inr ?_; first | (simp; done) | (simp; omega) | omega)) | with_reducible refine kpall9 ?_ (by first | (refine Or.inr ?_; first | (simp; done) | (simp; omega) | omega)) | with_reducible refine kpall6 ?_ (by first | (refine Or.inr ?_; first | (simp; done) | (simp; omega) | omega)) | with_reducible refine kp_set ?_ (by first | (refine Or.inl ?_; simp; done) | (refine Or.inr ?_; first | (simp; done) | (simp; omega) | omega)) _ | with_reducible refine kp_alloc ?_ _ | with_reducible refine kp_drew ?_ | with_reducible refine kp_drewN ?_ _ | with_reducible exact Keep.refl _ _))) hK4)
  clear hK4
  go_wp2_with fail
  refine (skipW w0 b off cap ms p _ j4 ⟨#[59]⟩ [59] rfl plain_sc (by have := HR4.out; (repeat (first | with_reducible assumption | with_reducible refine prall15 ?_ (by first | (simp; done) | (simp; omega) | omega) | with_reducible refine prall9 ?_ (by first | (simp; done) | (simp; omega) | omega) | with_reducible refine prall6 ?_ (by first | (simp; done) | (simp; omega) | omega) | with_reducible refine PR.set ?_ (by first | (simp; done) | (simp; omega) | omega) _ | with_reducible refine PR.alloc ?_ _ | with_reducible refine PR.drew ?_)))).mono ?_
  rintro e w5 ⟨hK5, (⟨j5, ua, uc, he5, rfl, HR5⟩ | ⟨hcd, rfl⟩)⟩
  case inr =>
    have hk5 : Hid (Keep (· ≠ p) w w5) := hid (Keep.trans (by have := hk4.out; (repeat (first | with_reducible assumption | with_reducible refine kpall15 ?_ (by first | (refine Or.inr ?_; first | (simp; done) | (simp; omega) | omega)) | with_reducible refine kpall9 ?_ (by first | (refine Or.inr ?_; first | (simp; done) | (simp; omega) | omega)) | with_reducible refine kpall6 ?_ (by first | (refine Or.inr ?_; first | (simp; done) | (simp; omega) | omega)) | with_reducible refine kp_set ?_ (by first | (refine Or.inl ?_; simp; done) | (refine Or.inr ?_; first | (simp; done) | (simp; omega) | omega)) _ | with_reducible refine kp_alloc ?_ _ | with_reducible refine kp_drew ?_ | with_reducible refine kp_drewN ?_ _ | with_reducible exact Keep.refl _ _))) hK5)
    clear hK5
    go_wp2
    exact ⟨rfl, by have := hk5.out; (repeat (first | with_reducible assumption | with_reducible refine kpall15 ?_ (by first | (refine Or.inr ?_; first | (simp; done) | (simp; omega) | omega)) | with_reducible refine kpall9 ?_ (by first | (refine Or.inr ?_; first | (simp; done) | (simp; omega) | omega)) | with_reducible refine kpall6 ?_ (by first | (refine Or.inr ?_; first | (simp; done) | (simp; omega) | omega)) | with_reducible refine kp_set ?_ (by first | (refine Or.inl ?_; simp; done) | (refine Or.inr ?_; first | (simp; done) | (simp; omega) | omega)) _ | with_reducible refine kp_alloc ?_ _ | with_reducible refine kp_drew ?_ | with_reducible refine kp_drewN ?_ _ | with_reducible exact Keep.refl _ _)), .inr (by rw [HFB.out]; simp only [he4.out]; exact ⟨hcd, rfl⟩)⟩
  have Cf : Blk w5 (w.heap.size) 44 #[.string (strOfNums g4.name), .string (strOfNums g4.ty), .string (strOfNums g4.key), .int .u64 g4.num, .int .i64 g4.label, .int .i64 g4.packed, .int .i64 g4.oneof, .int .i64 g4.at1.1, .int .i64 g4.at1.2, .int .i64 g4.nat1.1, .int .i64 g4.nat1.2, .int .i64 g4.tat.1, .int .i64 g4.tat.2, .int .i64 g4.mat.1, .int .i64 g4.mat.2] := Blk.keep ((blkall15 Bf).is (by first | rfl | simp)) hK5 (show w.heap.size ≠ p by omega)
  have Cr : Blk w5 (w.heap.size + 1) 44 #[.string ⟨#[]⟩, .string ⟨#[]⟩, .string ⟨#[]⟩, .int .u64 0, .int .i64 0, .int .i64 0, .int .i64 0, .int .i64 0, .int .i64 0, .int .i64 0, .int .i64 0, .int .i64 0, .int .i64 0, .int .i64 0, .int .i64 0] := Blk.keep ((blkoth15 Br (show w.heap.size + 1 ≠ w.heap.size by omega)).is (by first | rfl | simp)) hK5 (show w.heap.size + 1 ≠ p by omega)
  clear Bf xf yf Br xr yr
  have hs5 := hK5.size
  try simp at hs5
  have Bf := Cf
  clear Cf
  have xf := Bf.cellF
  have yf := Bf.frz
  replace zf : w.heap.size < w5.heap.size := by omega
  have Br := Cr
  clear Cr
  have xr := Br.cellF
  have yr := Br.frz
  replace zr : w.heap.size + 1 < w5.heap.size := by omega
  have hp5 : p < w5.heap.size := by omega
  have hq5 : w.heap.size ≤ w5.heap.size := by omega
  have hk5 : Hid (Keep (· ≠ p) w w5) := hid (Keep.trans (by have := hk4.out; (repeat (first | with_reducible assumption | with_reducible refine kpall15 ?_ (by first | (refine Or.inr ?_; first | (simp; done) | (simp; omega) | omega)) | with_reducible refine kpall9 ?_ (by first | (refine Or.inr ?_; first | (simp; done) | (simp; omega) | omega)) | with_reducible refine kpall6 ?_ (by first | (refine Or.inr ?_; first | (simp; done) | (simp; omega) | omega)) | with_reducible refine kp_set ?_ (by first | (refine Or.inl ?_; simp; done) | (refine Or.inr ?_; first | (simp; done) | (simp; omega) | omega)) _ | with_reducible refine kp_alloc ?_ _ | with_reducible refine kp_drew ?_ | with_reducible refine kp_drewN ?_ _ | with_reducible exact Keep.refl _ _))) hK5)
  clear hK5
  go_wp2
  exact bodyPost_ret (v := .agg #[.string (strOfNums g4.name), .string (strOfNums g4.ty), .string (strOfNums g4.key), .int .u64 g4.num, .int .i64 g4.label, .int .i64 g4.packed, .int .i64 g4.oneof, .int .i64 g4.at1.1, .int .i64 g4.at1.2, .int .i64 g4.nat1.1, .int .i64 g4.nat1.2, .int .i64 g4.tat.1, .int .i64 g4.tat.2, .int .i64 g4.mat.1, .int .i64 g4.mat.2]) (by simp [results, Tryd.results59, go_sem, xf, zf, xr, zr]) rfl ⟨by have := hk5.out; (repeat (first | with_reducible assumption | with_reducible refine kpall15 ?_ (by first | (refine Or.inr ?_; first | (simp; done) | (simp; omega) | omega)) | with_reducible refine kpall9 ?_ (by first | (refine Or.inr ?_; first | (simp; done) | (simp; omega) | omega)) | with_reducible refine kpall6 ?_ (by first | (refine Or.inr ?_; first | (simp; done) | (simp; omega) | omega)) | with_reducible refine kp_set ?_ (by first | (refine Or.inl ?_; simp; done) | (refine Or.inr ?_; first | (simp; done) | (simp; omega) | omega)) _ | with_reducible refine kp_alloc ?_ _ | with_reducible refine kp_drew ?_ | with_reducible refine kp_drewN ?_ _ | with_reducible exact Keep.refl _ _)), .inl ⟨j5, g4, hid (by rw [HFB.out]; simp only [he4.out]; exact he5.out), hid (by rw [HFB.out]; exact hg4.out), rfl, hid (by have := HR5.out; (repeat (first | with_reducible assumption | with_reducible refine prall15 ?_ (by first | (simp; done) | (simp; omega) | omega) | with_reducible refine prall9 ?_ (by first | (simp; done) | (simp; omega) | omega) | with_reducible refine prall6 ?_ (by first | (simp; done) | (simp; omega) | omega) | with_reducible refine PR.set ?_ (by first | (simp; done) | (simp; omega) | omega) _ | with_reducible refine PR.alloc ?_ _ | with_reducible refine PR.drew ?_)))⟩⟩
end
end Go.Proofs.YtidimdbnnnpplaaDoor
namespace Go.Proofs.YtidimdbnnnpplaaDoor
open Go.RowKit
set_option maxRecDepth 1000000
set_option linter.unusedVariables false
set_option linter.unusedSimpArgs false
set_option maxHeartbeats 8000000

section
variable (w0 : World) (b off cap : Nat) (ms : List Mw) (p : Nat) (w : World) (i : Nat)
theorem fieldW_false (f : MF) (hml : ms.length ≤ 70000) (hi0 : isM (fA f (stA ms i)).2 [91] = false) (h : PR w0 b off cap ms p w i) : Calls Tryd.prog 59 #[.pointer (some ⟨p, 0, none⟩), .agg #[.string (strOfNums f.name), .string (strOfNums f.ty), .string (strOfNums f.key), .int .u64 f.num, .int .i64 f.label, .int .i64 f.packed, .int .i64 f.oneof, .int .i64 f.at1.1, .int .i64 f.at1.2, .int .i64 f.nat1.1, .int .i64 f.nat1.2, .int .i64 f.tat.1, .int .i64 f.tat.2, .int .i64 f.mat.1, .int .i64 f.mat.2]] w fun e w' => Keep (· ≠ p) w w' ∧ ((∃ j g, Hid ((fB f (stA ms i)).2 = stA ms j) ∧ Hid (g = (fB f (stA ms i)).1) ∧ e = .returned (.agg #[.string (strOfNums g.name), .string (strOfNums g.ty), .string (strOfNums g.key), .int .u64 g.num, .int .i64 g.label, .int .i64 g.packed, .int .i64 g.oneof, .int .i64 g.at1.1, .int .i64 g.at1.2, .int .i64 g.nat1.1, .int .i64 g.nat1.2, .int .i64 g.tat.1, .int .i64 g.tat.2, .int .i64 g.mat.1, .int .i64 g.mat.2]) ∧ Hid (PR w0 b off cap ms p w' j)) ∨ Fell (fB f (stA ms i)).2 e) := by
  have HML := hid hml
  have HI0 := hid hi0
  clear hml hi0
  have HXb : Hid (∀ S, (fA f (stA ms i)).2 = S → S.cd ≠ 0 → (fB f (stA ms i)).2 = S) := hid (fun S e h => by unfold fB; rw [e, is_bad h, if_neg (by simp)]; simp only [eat_bad h])
  have hk0 : Hid (Keep (· ≠ p) w w) := hid (Keep.refl _ _)
  have hpl : p < w.heap.size := h.blk.lt
  have HR0 := hid h
  clear h
  go_enter Tryd.func59, Tryd.ntmps59
  go_wp2_with fail
  refine (typedW w0 b off cap ms p _ i f HML.out (by have := HR0.out; (repeat (first | with_reducible assumption | with_reducible refine prall15 ?_ (by first | (simp; done) | (simp; omega) | omega) | with_reducible refine prall9 ?_ (by first | (simp; done) | (simp; omega) | omega) | with_reducible refine prall6 ?_ (by first | (simp; done) | (simp; omega) | omega) | with_reducible refine PR.set ?_ (by first | (simp; done) | (simp; omega) | omega) _ | with_reducible refine PR.alloc ?_ _ | with_reducible refine PR.drew ?_)))).mono ?_
  rintro e w1 ⟨hK1, (⟨j1, g1, he1, hg1, rfl, HR1⟩ | ⟨hcd, rfl⟩)⟩
  case inr =>
    have hk1 : Hid (Keep (· ≠ p) w w1) := hid (Keep.trans (by have := hk0.out; (repeat (first | with_reducible assumption | with_reducible refine kpall15 ?_ (by first | (refine Or.inr ?_; first | (simp; done) | (simp; omega) | omega)) | with_reducible refine kpall9 ?_ (by first | (refine Or.inr ?_; first | (simp; done) | (simp; omega) | omega)) | with_reducible refine kpall6 ?_ (by first | (refine Or.inr ?_; first | (simp; done) | (simp; omega) | omega)) | with_reducible refine kp_set ?_ (by first | (refine Or.inl ?_; simp; done) | (refine Or.inr ?_; first | (simp; done) | (simp; omega) | omega)) _ | with_reducible refine kp_alloc ?_ _ | with_reducible refine kp_drew ?_ | with_reducible refine kp_drewN ?_ _ | with_reducible exact Keep.refl _ _))) hK1)
    clear hK1
    go_wp2
    exact ⟨rfl, by have := hk1.out; (repeat (first | with_reducible assumption | with_reducible refine kpall15 ?_ (by first | (refine Or.inr ?_; first | (simp; done) | (simp; omega) | omega)) | with_reducible refine kpall9 ?_ (by first | (refine Or.inr ?_; first | (simp; done) | (simp; omega) | omega)) | with_reducible refine kpall6 ?_ (by first | (refine Or.inr ?_; first | (simp; done) | (simp; omega) | omega)) | with_reducible refine kp_set ?_ (by first | (refine Or.inl ?_; simp; done) | (refine Or.inr ?_; first | (simp; done) | (simp; omega) | omega)) _ | with_reducible refine kp_alloc ?_ _ | with_reducible refine kp_drew ?_ | with_reducible refine kp_drewN ?_ _ | with_reducible exact Keep.refl _ _)), .inr (by rw [HXb.out (typM (stA ms i)).2.2 (by unfold fA; simp only [nam_bad hcd]) hcd]; exact ⟨hcd, rfl⟩)⟩
  have Cf : Blk w1 (w.heap.size) 44 #[.string (strOfNums f.name), .string (strOfNums f.ty), .string (strOfNums f.key), .int .u64 f.num, .int .i64 f.label, .int .i64 f.packed, .int .i64 f.oneof, .int .i64 f.at1.1, .int .i64 f.at1.2, .int .i64 f.nat1.1, .int .i64 f.nat1.2, .int .i64 f.tat.1, .int .i64 f.tat.2, .int .i64 f.mat.1, .int .i64 f.mat.2] := Blk.keep (((Blk.newAt (by simp)).kept (below_alloc _)).is (by first | rfl | simp)) hK1 (show w.heap.size ≠ p by omega)
  have Cr : Blk w1 (w.heap.size + 1) 44 #[.string ⟨#[]⟩, .string ⟨#[]⟩, .string ⟨#[]⟩, .int .u64 0, .int .i64 0, .int .i64 0, .int .i64 0, .int .i64 0, .int .i64 0, .int .i64 0, .int .i64 0, .int .i64 0, .int .i64 0, .int .i64 0, .int .i64 0] := Blk.keep ((Blk.newAt (by simp)).is (by first | rfl | simp)) hK1 (show w.heap.size + 1 ≠ p by omega)
  have hs1 := hK1.size
  try simp at hs1
  have Bf := Cf
  clear Cf
  have xf := Bf.cellF
  have yf := Bf.frz
  have zf : w.heap.size < w1.heap.size := by omega
  have Br := Cr
  clear Cr
  have xr := Br.cellF
  have yr := Br.frz
  have zr : w.heap.size + 1 < w1.heap.size := by omega
  have hp1 : p < w1.heap.size := by omega
  have hq1 : w.heap.size ≤ w1.heap.size := by omega
  have hk1 : Hid (Keep (· ≠ p) w w1) := hid (Keep.trans (by have := hk0.out; (repeat (first | with_reducible assumption | with_reducible refine kpall15 ?_ (by first | (refine Or.inr ?_; first | (simp; done) | (simp; omega) | omega)) | with_reducible refine kpall9 ?_ (by first | (refine Or.inr ?_; first | (simp; done) | (simp; omega) | omega)) | with_reducible refine kpall6 ?_ (by first | (refine Or.inr ?_; first | (simp; done) | (simp; omega) | omega)) | with_reducible refine kp_set ?_ (by first | (refine Or.inl ?_; simp; done) | (refine Or.inr ?_; first | (simp; done) | (simp; omega) | omega)) _ | with_reducible refine kp_alloc ?_ _ | with_reducible refine kp_drew ?_ | with_reducible refine kp_drewN ?_ _ | with_reducible exact Keep.refl _ _))) hK1)
  clear hK1
  go_wp2_with fail
  refine (namedW w0 b off cap ms p _ j1 g1 (by have := HR1.out; (repeat (first | with_reducible assumption | with_reducible refine prall15 ?_ (by first | (simp; done) | (simp; omega) | omega) | with_reducible refine prall9 ?_ (by first | (simp; done) | (simp; omega) | omega) | with_reducible refine prall6 ?_ (by first | (simp; done) | (simp; omega) | omega) | with_reducible refine PR.set ?_ (by first | (simp; done) | (simp; omega) | omega) _ | with_reducible refine PR.alloc ?_ _ | with_reducible refine PR.drew ?_)))).mono ?_
  rintro e w2 ⟨hK2, (⟨j2, g2, he2, hg2, rfl, ho2, HR2⟩ | ⟨hcd, rfl⟩)⟩
  case inr =>
    have hk2 : Hid (Keep (· ≠ p) w w2) := hid (Keep.trans (by have := hk1.out; (repeat (first | with_reducible assumption | with_reducible refine kpall15 ?_ (by first | (refine Or.inr ?_; first | (simp; done) | (simp; omega) | omega)) | with_reducible refine kpall9 ?_ (by first | (refine Or.inr ?_; first | (simp; done) | (simp; omega) | omega)) | with_reducible refine kpall6 ?_ (by first | (refine Or.inr ?_; first | (simp; done) | (simp; omega) | omega)) | with_reducible refine kp_set ?_ (by first | (refine Or.inl ?_; simp; done) | (refine Or.inr ?_; first | (simp; done) | (simp; omega) | omega)) _ | with_reducible refine kp_alloc ?_ _ | with_reducible refine kp_drew ?_ | with_reducible refine kp_drewN ?_ _ | with_reducible exact Keep.refl _ _))) hK2)
    clear hK2
    go_wp2
    exact ⟨rfl, by have := hk2.out; (repeat (first | with_reducible assumption | with_reducible refine kpall15 ?_ (by first | (refine Or.inr ?_; first | (simp; done) | (simp; omega) | omega)) | with_reducible refine kpall9 ?_ (by first | (refine Or.inr ?_; first | (simp; done) | (simp; omega) | omega)) | with_reducible refine kpall6 ?_ (by first | (refine Or.inr ?_; first | (simp; done) | (simp; omega) | omega)) | with_reducible refine kp_set ?_ (by first | (refine Or.inl ?_; simp; done) | (refine Or.inr ?_; first | (simp; done) | (simp; omega) | omega)) _ | with_reducible refine kp_alloc ?_ _ | with_reducible refine kp_drew ?_ | with_reducible refine kp_drewN ?_ _ | with_reducible exact Keep.refl _ _)), .inr (by rw [HXb.out (namM (stA ms j1)).2.2 (by unfold fA; rw [he1.out]) hcd]; exact ⟨hcd, rfl⟩)⟩
  have Cf : Blk w2 (w.heap.size) 44 #[.string (strOfNums f.name), .string (strOfNums f.ty), .string (strOfNums f.key), .int .u64 f.num, .int .i64 f.label, .int .i64 f.packed, .int .i64 f.oneof, .int .i64 f.at1.1, .int .i64 f.at1.2, .int .i64 f.nat1.1, .int .i64 f.nat1.2, .int .i64 f.tat.1, .int .i64 f.tat.2, .int .i64 f.mat.1, .int .i64 f.mat.2] := Blk.keep (Bf.is (by first | rfl | simp)) hK2 (show w.heap.size ≠ p by omega)
  have Cr : Blk w2 (w.heap.size + 1) 44 #[.string ⟨#[]⟩, .string ⟨#[]⟩, .string ⟨#[]⟩, .int .u64 0, .int .i64 0, .int .i64 0, .int .i64 0, .int .i64 0, .int .i64 0, .int .i64 0, .int .i64 0, .int .i64 0, .int .i64 0, .int .i64 0, .int .i64 0] := Blk.keep (Br.is (by first | rfl | simp)) hK2 (show w.heap.size + 1 ≠ p by omega)
  clear Bf xf yf Br xr yr
  have hs2 := hK2.size
  try simp at hs2
  have Bf := Cf
  clear Cf
  have xf := Bf.cellF
  have yf := Bf.frz
  replace zf : w.heap.size < w2.heap.size := by omega
  have Br := Cr
  clear Cr
  have xr := Br.cellF
  have yr := Br.frz
  replace zr : w.heap.size + 1 < w2.heap.size := by omega
  have hp2 : p < w2.heap.size := by omega
  have hq2 : w.heap.size ≤ w2.heap.size := by omega
  have hk2 : Hid (Keep (· ≠ p) w w2) := hid (Keep.trans (by have := hk1.out; (repeat (first | with_reducible assumption | with_reducible refine kpall15 ?_ (by first | (refine Or.inr ?_; first | (simp; done) | (simp; omega) | omega)) | with_reducible refine kpall9 ?_ (by first | (refine Or.inr ?_; first | (simp; done) | (simp; omega) | omega)) | with_reducible refine kpall6 ?_ (by first | (refine Or.inr ?_; first | (simp; done) | (simp; omega) | omega)) | with_reducible refine kp_set ?_ (by first | (refine Or.inl ?_; simp; done) | (refine Or.inr ?_; first | (simp; done) | (simp; omega) | omega)) _ | with_reducible refine kp_alloc ?_ _ | with_reducible refine kp_drew ?_ | with_reducible refine kp_drewN ?_ _ | with_reducible exact Keep.refl _ _))) hK2)
  clear hK2
  have HFA : Hid (fA f (stA ms i) = (g2, stA ms j2)) := hid (by unfold fA; rw [he1.out, he2.out, hg2.out, hg1.out])
  have hi : isM (stA ms j2) [91] = false := by have := HI0.out; rw [HFA.out] at this; exact this
  go_wp2_with fail
  refine (isNextW w0 b off cap ms p _ j2 ⟨#[91]⟩ [91] rfl plain_lb (by have := HR2.out; (repeat (first | with_reducible assumption | with_reducible refine prall15 ?_ (by first | (simp; done) | (simp; omega) | omega) | with_reducible refine prall9 ?_ (by first | (simp; done) | (simp; omega) | omega) | with_reducible refine prall6 ?_ (by first | (simp; done) | (simp; omega) | omega) | with_reducible refine PR.set ?_ (by first | (simp; done) | (simp; omega) | omega) _ | with_reducible refine PR.alloc ?_ _ | with_reducible refine PR.drew ?_)))).mono ?_
  rintro e w3 ⟨rfl, hb3⟩
  have hK3 := Keep.ofBelow (f := (· ≠ p)) hb3
  have HR3 : Hid (PR w0 b off cap ms p w3 (j2)) := hid (PR.kept (by have := HR2.out; (repeat (first | with_reducible assumption | with_reducible refine prall15 ?_ (by first | (simp; done) | (simp; omega) | omega) | with_reducible refine prall9 ?_ (by first | (simp; done) | (simp; omega) | omega) | with_reducible refine prall6 ?_ (by first | (simp; done) | (simp; omega) | omega) | with_reducible refine PR.set ?_ (by first | (simp; done) | (simp; omega) | omega) _ | with_reducible refine PR.alloc ?_ _ | with_reducible refine PR.drew ?_))) hb3)
  clear hb3
  have Cf : Blk w3 (w.heap.size) 44 #[.string (strOfNums g2.name), .string (strOfNums g2.ty), .string (strOfNums g2.key), .int .u64 g2.num, .int .i64 g2.label, .int .i64 g2.packed, .int .i64 g2.oneof, .int .i64 g2.at1.1, .int .i64 g2.at1.2, .int .i64 g2.nat1.1, .int .i64 g2.nat1.2, .int .i64 g2.tat.1, .int .i64 g2.tat.2, .int .i64 g2.mat.1, .int .i64 g2.mat.2] := Blk.keep ((blkall15 Bf).is (by first | rfl | simp)) hK3 (show w.heap.size ≠ p by omega)
  have Cr : Blk w3 (w.heap.size + 1) 44 #[.string ⟨#[]⟩, .string ⟨#[]⟩, .string ⟨#[]⟩, .int .u64 0, .int .i64 0, .int .i64 0, .int .i64 0, .int .i64 0, .int .i64 0, .int .i64 0, .int .i64 0, .int .i64 0, .int .i64 0, .int .i64 0, .int .i64 0] := Blk.keep ((blkoth15 Br (show w.heap.size + 1 ≠ w.heap.size by omega)).is (by first | rfl | simp)) hK3 (show w.heap.size + 1 ≠ p by omega)
  clear Bf xf yf Br xr yr
  have hs3 := hK3.size
  try simp at hs3
  have Bf := Cf
  clear Cf
  have xf := Bf.cellF
  have yf := Bf.frz
  replace zf : w.heap.size < w3.heap.size := by omega
  have Br := Cr
  clear Cr
  have xr := Br.cellF
  have yr := Br.frz
  replace zr : w.heap.size + 1 < w3.heap.size := by omega
  have hp3 : p < w3.heap.size := by omega
  have hq3 : w.heap.size ≤ w3.heap.size := by omega
  have hk3 : Hid (Keep (· ≠ p) w w3) := hid (Keep.trans (by have := hk2.out; (repeat (first | with_reducible assumption | with_reducible refine kpall15 ?_ (by first | (refine Or.inr ?_; first | (simp; done) | (simp; omega) | omega)) | with_reducible refine kpall9 ?_ (by first | (refine Or.inr ?_; first | (simp; done) | (simp; omega) | omega)) | with_reducible refine kpall6 ?_ (by first | (refine Or.inr ?_; first | (simp; done) | (simp; omega) | omega)) | with_reducible refine kp_set ?_ (by first | (refine Or.inl ?_; simp; done) | (refine Or.inr ?_; first | (simp; done) | (simp; omega) | omega)) _ | with_reducible refine kp_alloc ?_ _ | with_reducible refine kp_drew ?_ | with_reducible refine kp_drewN ?_ _ | with_reducible exact Keep.refl _ _))) hK3)
  clear hK3
  rw [hi]
  have HFB : Hid (fB f (stA ms i) = (g2, eatM (stA ms j2) [59])) := hid (by unfold fB; rw [HFA.out]; simp only []; rw [if_neg (by rw [hi]; simp)])
  go_wp2_with fail
  refine (skipW w0 b off cap ms p _ j2 ⟨#[59]⟩ [59] rfl plain_sc (by have := HR3.out; (repeat (first | with_reducible assumption | with_reducible refine prall15 ?_ (by first | (simp; done) | (simp; omega) | omega) | with_reducible refine prall9 ?_ (by first | (simp; done) | (simp; omega) | omega) | with_reducible refine prall6 ?_ (by first | (simp; done) | (simp; omega) | omega) | with_reducible refine PR.set ?_ (by first | (simp; done) | (simp; omega) | omega) _ | with_reducible refine PR.alloc ?_ _ | with_reducible refine PR.drew ?_)))).mono ?_
  rintro e w4 ⟨hK4, (⟨j5, ua, uc, he5, rfl, HR4⟩ | ⟨hcd, rfl⟩)⟩
  case inr =>
    have hk4 : Hid (Keep (· ≠ p) w w4) := hid (Keep.trans (by have := hk3.out; (repeat (first | with_reducible assumption | with_reducible refine kpall15 ?_ (by first | (refine Or.inr ?_; first | (simp; done) | (simp; omega) | omega)) | with_reducible refine kpall9 ?_ (by first | (refine Or.inr ?_; first | (simp; done) | (simp; omega) | omega)) | with_reducible refine kpall6 ?_ (by first | (refine Or.inr ?_; first | (simp; done) | (simp; omega) | omega)) | with_reducible refine kp_set ?_ (by first | (refine Or.inl ?_; simp; done) | (refine Or.inr ?_; first | (simp; done) | (simp; omega) | omega)) _ | with_reducible refine kp_alloc ?_ _ | with_reducible refine kp_drew ?_ | with_reducible refine kp_drewN ?_ _ | with_reducible exact Keep.refl _ _))) hK4)
    clear hK4
    go_wp2
    exact ⟨rfl, by have := hk4.out; (repeat (first | with_reducible assumption | with_reducible refine kpall15 ?_ (by first | (refine Or.inr ?_; first | (simp; done) | (simp; omega) | omega)) | with_reducible refine kpall9 ?_ (by first | (refine Or.inr ?_; first | (simp; done) | (simp; omega) | omega)) | with_reducible refine kpall6 ?_ (by first | (refine Or.inr ?_; first | (simp; done) | (simp; omega) | omega)) | with_reducible refine kp_set ?_ (by first | (refine Or.inl ?_; simp; done) | (refine Or.inr ?_; first | (simp; done) | (simp; omega) | omega)) _ | with_reducible refine kp_alloc ?_ _ | with_reducible refine kp_drew ?_ | with_reducible refine kp_drewN ?_ _ | with_reducible exact Keep.refl _ _)), .inr (by rw [HFB.out]; exact ⟨hcd, rfl⟩)⟩
  have Cf : Blk w4 (w.heap.size) 44 #[.string (strOfNums g2.name), .string (strOfNums g2.ty), .string (strOfNums g2.key), .int .u64 g2.num, .int .i64 g2.label, .int .i64 g2.packed, .int .i64 g2.oneof, .int .i64 g2.at1.1, .int .i64 g2.at1.2, .int .i64 g2.nat1.1, .int .i64 g2.nat1.2, .int .i64 g2.tat.1, .int .i64 g2.tat.2, .int .i64 g2.mat.1, .int .i64 g2.mat.2] := Blk.keep (Bf.is (by first | rfl | simp)) hK4 (show w.heap.size ≠ p by omega)
  have Cr : Blk w4 (w.heap.size + 1) 44 #[.string ⟨#[]⟩, .string ⟨#[]⟩, .string ⟨#[]⟩, .int .u64 0, .int .i64 0, .int .i64 0, .int .i64 0, .int .i64 0, .int .i64 0, .int .i64 0, .int .i64 0, .int .i64 0, .int .i64 0, .int .i64 0, .int .i64 0] := Blk.keep (Br.is (by first | rfl | simp)) hK4 (show w.heap.size + 1 ≠ p by omega)
  clear Bf xf yf Br xr yr
  have hs4 := hK4.size
  try simp at hs4
  have Bf := Cf
  clear Cf
  have xf := Bf.cellF
  have yf := Bf.frz
  replace zf : w.heap.size < w4.heap.size := by omega
  have Br := Cr
  clear Cr
  have xr := Br.cellF
  have yr := Br.frz
  replace zr : w.heap.size + 1 < w4.heap.size := by omega
  have hp4 : p < w4.heap.size := by omega
  have hq4 : w.heap.size ≤ w4.heap.size := by omega
  have hk4 : Hid (Keep (· ≠ p) w w4) := hid (Keep.trans (by have := hk3.out; (repeat (first | with_reducible assumption | with_reducible refine kpall15 ?_ (by first | (refine Or.inr ?_; first | (simp; done) | (simp; omega) | omega)) | with_reducible refine kpall9 ?_ (by first | (refine Or.inr ?_; first | (simp; done) | (simp; omega) | omega)) | with_reducible refine kpall6 ?_ (by first | (refine Or.inr ?_; first | (simp; done) | (simp; omega) | omega)) | with_reducible refine kp_set ?_ (by first | (refine Or.inl ?_; simp; done) | (refine Or.inr ?_; first | (simp; done) | (simp; omega) | omega)) _ | with_reducible refine kp_alloc ?_ _ | with_reducible refine kp_drew ?_ | with_reducible refine kp_drewN ?_ _ | with_reducible exact Keep.refl _ _))) hK4)
  clear hK4
  go_wp2
  exact bodyPost_ret (v := .agg #[.string (strOfNums g2.name), .string (strOfNums g2.ty), .string (strOfNums g2.key), .int .u64 g2.num, .int .i64 g2.label, .int .i64 g2.packed, .int .i64 g2.oneof, .int .i64 g2.at1.1, .int .i64 g2.at1.2, .int .i64 g2.nat1.1, .int .i64 g2.nat1.2, .int .i64 g2.tat.1, .int .i64 g2.tat.2, .int .i64 g2.mat.1, .int .i64 g2.mat.2]) (by simp [results, Tryd.results59, go_sem, xf, zf, xr, zr]) rfl ⟨by have := hk4.out; (repeat (first | with_reducible assumption | with_reducible refine kpall15 ?_ (by first | (refine Or.inr ?_; first | (simp; done) | (simp; omega) | omega)) | with_reducible refine kpall9 ?_ (by first | (refine Or.inr ?_; first | (simp; done) | (simp; omega) | omega)) | with_reducible refine kpall6 ?_ (by first | (refine Or.inr ?_; first | (simp; done) | (simp; omega) | omega)) | with_reducible refine kp_set ?_ (by first | (refine Or.inl ?_; simp; done) | (refine Or.inr ?_; first | (simp; done) | (simp; omega) | omega)) _ | with_reducible refine kp_alloc ?_ _ | with_reducible refine kp_drew ?_ | with_reducible refine kp_drewN ?_ _ | with_reducible exact Keep.refl _ _)), .inl ⟨j5, g2, hid (by rw [HFB.out]; exact he5.out), hid (by rw [HFB.out]), rfl, hid (by have := HR4.out; (repeat (first | with_reducible assumption | with_reducible refine prall15 ?_ (by first | (simp; done) | (simp; omega) | omega) | with_reducible refine prall9 ?_ (by first | (simp; done) | (simp; omega) | omega) | with_reducible refine prall6 ?_ (by first | (simp; done) | (simp; omega) | omega) | with_reducible refine PR.set ?_ (by first | (simp; done) | (simp; omega) | omega) _ | with_reducible refine PR.alloc ?_ _ | with_reducible refine PR.drew ?_)))⟩⟩
end
end Go.Proofs.YtidimdbnnnpplaaDoor
namespace Go.Proofs.YtidimdbnnnpplaaDoor
open Go.RowKit
set_option maxRecDepth 1000000
set_option linter.unusedVariables false
set_option linter.unusedSimpArgs false
set_option maxHeartbeats 8000000

section
variable (w0 : World) (b off cap : Nat) (ms : List Mw) (p : Nat) (w : World) (i : Nat)
theorem fieldW (f : MF) (hml : ms.length ≤ 70000) (h : PR w0 b off cap ms p w i) : Calls Tryd.prog 59 #[.pointer (some ⟨p, 0, none⟩), .agg #[.string (strOfNums f.name), .string (strOfNums f.ty), .string (strOfNums f.key), .int .u64 f.num, .int .i64 f.label, .int .i64 f.packed, .int .i64 f.oneof, .int .i64 f.at1.1, .int .i64 f.at1.2, .int .i64 f.nat1.1, .int .i64 f.nat1.2, .int .i64 f.tat.1, .int .i64 f.tat.2, .int .i64 f.mat.1, .int .i64 f.mat.2]] w fun e w' => Keep (· ≠ p) w w' ∧ ((∃ j g, Hid ((fB f (stA ms i)).2 = stA ms j) ∧ Hid (g = (fB f (stA ms i)).1) ∧ e = .returned (.agg #[.string (strOfNums g.name), .string (strOfNums g.ty), .string (strOfNums g.key), .int .u64 g.num, .int .i64 g.label, .int .i64 g.packed, .int .i64 g.oneof, .int .i64 g.at1.1, .int .i64 g.at1.2, .int .i64 g.nat1.1, .int .i64 g.nat1.2, .int .i64 g.tat.1, .int .i64 g.tat.2, .int .i64 g.mat.1, .int .i64 g.mat.2]) ∧ Hid (PR w0 b off cap ms p w' j)) ∨ Fell (fB f (stA ms i)).2 e) := by
  cases hi : isM (fA f (stA ms i)).2 [91] with
  | true => exact fieldW_true w0 b off cap ms p w i f hml hi h
  | false => exact fieldW_false w0 b off cap ms p w i f hml hi h
end
end Go.Proofs.YtidimdbnnnpplaaDoor
