/-
  The reader of the program parse: fields.
  The reader of the program parse: fields.
-/
import Derived.Test.YtidimdbnnnpplaaDoorCPKb
import Derived.Test.YtidimdbnnnpplaaDoorCPMt
namespace Go.Proofs.YtidimdbnnnpplaaDoor
open Go.RowKit
set_option maxRecDepth 1000000
set_option linter.unusedVariables false
set_option linter.unusedSimpArgs false
set_option maxHeartbeats 8000000

section
variable (w0 : World) (b off cap : Nat) (ms : List Mw) (p : Nat) (w : World) (i : Nat)
theorem oneW (n : Int) (hml : ms.length ≤ 70000) (h : PR w0 b off cap ms p w i) : Calls Tryd.prog 69 #[.pointer (some ⟨p, 0, none⟩), .int .i64 n] w fun e w' => Keep (· ≠ p) w w' ∧ ((∃ j g, Hid ((oneM n (stA ms i)).2 = stA ms j) ∧ Hid (g = (oneM n (stA ms i)).1) ∧ e = .returned (.agg #[.string (strOfNums g.name), .string (strOfNums g.ty), .string (strOfNums g.key), .int .u64 g.num, .int .i64 g.label, .int .i64 g.packed, .int .i64 g.oneof, .int .i64 g.at1.1, .int .i64 g.at1.2, .int .i64 g.nat1.1, .int .i64 g.nat1.2, .int .i64 g.tat.1, .int .i64 g.tat.2, .int .i64 g.mat.1, .int .i64 g.mat.2]) ∧ Hid (PR w0 b off cap ms p w' j)) ∨ Fell (oneM n (stA ms i)).2 e) := by
  have HML := hid hml
  clear hml
  rw [fA_one]
  dsimp only
  have hk0 : Hid (Keep (· ≠ p) w w) := hid (Keep.refl _ _)
  have hpl : p < w.heap.size := h.blk.lt
  have HR0 := hid h
  clear h
  go_enter Tryd.func69, Tryd.ntmps69
  go_wp2_with fail
  refine (typedW w0 b off cap ms p _ i (fZ 4 n [] (0, 0)) HML.out (by have := HR0.out; (repeat (first | with_reducible assumption | with_reducible refine prall15 ?_ (by first | (simp; done) | (simp; omega) | omega) | with_reducible refine prall9 ?_ (by first | (simp; done) | (simp; omega) | omega) | with_reducible refine prall6 ?_ (by first | (simp; done) | (simp; omega) | omega) | with_reducible refine PR.set ?_ (by first | (simp; done) | (simp; omega) | omega) _ | with_reducible refine PR.alloc ?_ _ | with_reducible refine PR.drew ?_)))).mono ?_
  rintro e w1 ⟨hK1, (⟨j1, g1, he1, hg1, rfl, HR1⟩ | ⟨hcd, rfl⟩)⟩
  case inr =>
    have hk1 : Hid (Keep (· ≠ p) w w1) := hid (Keep.trans (by have := hk0.out; (repeat (first | with_reducible assumption | with_reducible refine kpall15 ?_ (by first | (refine Or.inr ?_; first | (simp; done) | (simp; omega) | omega)) | with_reducible refine kpall9 ?_ (by first | (refine Or.inr ?_; first | (simp; done) | (simp; omega) | omega)) | with_reducible refine kpall6 ?_ (by first | (refine Or.inr ?_; first | (simp; done) | (simp; omega) | omega)) | with_reducible refine kp_set ?_ (by first | (refine Or.inl ?_; simp; done) | (refine Or.inr ?_; first | (simp; done) | (simp; omega) | omega)) _ | with_reducible refine kp_alloc ?_ _ | with_reducible refine kp_drew ?_ | with_reducible refine kp_drewN ?_ _ | with_reducible exact Keep.refl _ _))) hK1)
    clear hK1
    go_wp2
    exact ⟨rfl, by have := hk1.out; (repeat (first | with_reducible assumption | with_reducible refine kpall15 ?_ (by first | (refine Or.inr ?_; first | (simp; done) | (simp; omega) | omega)) | with_reducible refine kpall9 ?_ (by first | (refine Or.inr ?_; first | (simp; done) | (simp; omega) | omega)) | with_reducible refine kpall6 ?_ (by first | (refine Or.inr ?_; first | (simp; done) | (simp; omega) | omega)) | with_reducible refine kp_set ?_ (by first | (refine Or.inl ?_; simp; done) | (refine Or.inr ?_; first | (simp; done) | (simp; omega) | omega)) _ | with_reducible refine kp_alloc ?_ _ | with_reducible refine kp_drew ?_ | with_reducible refine kp_drewN ?_ _ | with_reducible exact Keep.refl _ _)), .inr (by rw [show eatM (fA (fZ 4 n [] (0, 0)) (stA ms i)).2 [59] = (typM (stA ms i)).2.2 by unfold fA; simp only [nam_bad hcd, eat_bad hcd]]; exact ⟨hcd, rfl⟩)⟩
  have Cr : Blk w1 (w.heap.size) 44 #[.string ⟨#[]⟩, .string ⟨#[]⟩, .string ⟨#[]⟩, .int .u64 0, .int .i64 0, .int .i64 0, .int .i64 0, .int .i64 0, .int .i64 0, .int .i64 0, .int .i64 0, .int .i64 0, .int .i64 0, .int .i64 0, .int .i64 0] := Blk.keep ((Blk.newAt (by simp)).is (by first | rfl | simp)) hK1 (show w.heap.size ≠ p by omega)
  have hs1 := hK1.size
  try simp at hs1
  have Br := Cr
  clear Cr
  have xr := Br.cellF
  have yr := Br.frz
  have zr : w.heap.size < w1.heap.size := by omega
  have hp1 : p < w1.heap.size := by omega
  have hq1 : w.heap.size ≤ w1.heap.size := by omega
  have hk1 : Hid (Keep (· ≠ p) w w1) := hid (Keep.trans (by have := hk0.out; (repeat (first | with_reducible assumption | with_reducible refine kpall15 ?_ (by first | (refine Or.inr ?_; first | (simp; done) | (simp; omega) | omega)) | with_reducible refine kpall9 ?_ (by first | (refine Or.inr ?_; first | (simp; done) | (simp; omega) | omega)) | with_reducible refine kpall6 ?_ (by first | (refine Or.inr ?_; first | (simp; done) | (simp; omega) | omega)) | with_reducible refine kp_set ?_ (by first | (refine Or.inl ?_; simp; done) | (refine Or.inr ?_; first | (simp; done) | (simp; omega) | omega)) _ | with_reducible refine kp_alloc ?_ _ | with_reducible refine kp_drew ?_ | with_reducible refine kp_drewN ?_ _ | with_reducible exact Keep.refl _ _))) hK1)
  clear hK1
  go_wp2_with fail
  refine (namedW w0 b off cap ms p _ j1 g1 (by have := HR1.out; (repeat (first | with_reducible assumption | with_reducible refine prall15 ?_ (by first | (simp; done) | (simp; omega) | omega) | with_reducible refine prall9 ?_ (by first | (simp; done) | (simp; omega) | omega) | with_reducible refine prall6 ?_ (by first | (simp; done) | (simp; omega) | omega) | with_reducible refine PR.set ?_ (by first | (simp; done) | (simp; omega) | omega) _ | with_reducible refine PR.alloc ?_ _ | with_reducible refine PR.drew ?_)))).mono ?_
  rintro e w2 ⟨hK2, (⟨j2, g2, he2, hg2, rfl, ho2, HR2⟩ | ⟨hcd, rfl⟩)⟩
  case inr =>
    have hk2 : Hid (Keep (· ≠ p) w w2) := hid (Keep.trans (by have := hk1.out; (repeat (first | with_reducible assumption | with_reducible refine kpall15 ?_ (by first | (refine Or.inr ?_; first | (simp; done) | (simp; omega) | omega)) | with_reducible refine kpall9 ?_ (by first | (refine Or.inr ?_; first | (simp; done) | (simp; omega) | omega)) | with_reducible refine kpall6 ?_ (by first | (refine Or.inr ?_; first | (simp; done) | (simp; omega) | omega)) | with_reducible refine kp_set ?_ (by first | (refine Or.inl ?_; simp; done) | (refine Or.inr ?_; first | (simp; done) | (simp; omega) | omega)) _ | with_reducible refine kp_alloc ?_ _ | with_reducible refine kp_drew ?_ | with_reducible refine kp_drewN ?_ _ | with_reducible exact Keep.refl _ _))) hK2)
    clear hK2
    go_wp2
    exact ⟨rfl, by have := hk2.out; (repeat (first | with_reducible assumption | with_reducible refine kpall15 ?_ (by first | (refine Or.inr ?_; first | (simp; done) | (simp; omega) | omega)) | with_reducible refine kpall9 ?_ (by first | (refine Or.inr ?_; first | (simp; done) | (simp; omega) | omega)) | with_reducible refine kpall6 ?_ (by first | (refine Or.inr ?_; first | (simp; done) | (simp; omega) | omega)) | with_reducible refine kp_set ?_ (by first | (refine Or.inl ?_; simp; done) | (refine Or.inr ?_; first | (simp; done) | (simp; omega) | omega)) _ | with_reducible refine kp_alloc ?_ _ | with_reducible refine kp_drew ?_ | with_reducible refine kp_drewN ?_ _ | with_reducible exact Keep.refl _ _)), .inr (by rw [show eatM (fA (fZ 4 n [] (0, 0)) (stA ms i)).2 [59] = (namM (stA ms j1)).2.2 by unfold fA; rw [he1.out]; simp only [eat_bad hcd]]; exact ⟨hcd, rfl⟩)⟩
  have Cr : Blk w2 (w.heap.size) 44 #[.string ⟨#[]⟩, .string ⟨#[]⟩, .string ⟨#[]⟩, .int .u64 0, .int .i64 0, .int .i64 0, .int .i64 0, .int .i64 0, .int .i64 0, .int .i64 0, .int .i64 0, .int .i64 0, .int .i64 0, .int .i64 0, .int .i64 0] := Blk.keep ((Br.kept (below_alloc _)).is (by first | rfl | simp)) hK2 (show w.heap.size ≠ p by omega)
  have Cf : Blk w2 (w1.heap.size) 44 #[.string (strOfNums g1.name), .string (strOfNums g1.ty), .string (strOfNums g1.key), .int .u64 g1.num, .int .i64 g1.label, .int .i64 g1.packed, .int .i64 g1.oneof, .int .i64 g1.at1.1, .int .i64 g1.at1.2, .int .i64 g1.nat1.1, .int .i64 g1.nat1.2, .int .i64 g1.tat.1, .int .i64 g1.tat.2, .int .i64 g1.mat.1, .int .i64 g1.mat.2] := Blk.keep ((Blk.newAt (by simp)).is (by first | rfl | simp)) hK2 (show w1.heap.size ≠ p by omega)
  clear Br xr yr
  have hs2 := hK2.size
  try simp at hs2
  have Br := Cr
  clear Cr
  have xr := Br.cellF
  have yr := Br.frz
  replace zr : w.heap.size < w2.heap.size := by omega
  have Bf := Cf
  clear Cf
  have xf := Bf.cellF
  have yf := Bf.frz
  have zf : w1.heap.size < w2.heap.size := by omega
  have hp2 : p < w2.heap.size := by omega
  have hq2 : w.heap.size ≤ w2.heap.size := by omega
  have hk2 : Hid (Keep (· ≠ p) w w2) := hid (Keep.trans (by have := hk1.out; (repeat (first | with_reducible assumption | with_reducible refine kpall15 ?_ (by first | (refine Or.inr ?_; first | (simp; done) | (simp; omega) | omega)) | with_reducible refine kpall9 ?_ (by first | (refine Or.inr ?_; first | (simp; done) | (simp; omega) | omega)) | with_reducible refine kpall6 ?_ (by first | (refine Or.inr ?_; first | (simp; done) | (simp; omega) | omega)) | with_reducible refine kp_set ?_ (by first | (refine Or.inl ?_; simp; done) | (refine Or.inr ?_; first | (simp; done) | (simp; omega) | omega)) _ | with_reducible refine kp_alloc ?_ _ | with_reducible refine kp_drew ?_ | with_reducible refine kp_drewN ?_ _ | with_reducible exact Keep.refl _ _))) hK2)
  clear hK2
  have HFA : Hid (fA (fZ 4 n [] (0, 0)) (stA ms i) = (g2, stA ms j2)) := hid (by unfold fA; rw [he1.out, he2.out, hg2.out, hg1.out])
  go_wp2_with fail
  refine (skipW w0 b off cap ms p _ j2 ⟨#[59]⟩ [59] rfl plain_sc (by have := HR2.out; (repeat (first | with_reducible assumption | with_reducible refine prall15 ?_ (by first | (simp; done) | (simp; omega) | omega) | with_reducible refine prall9 ?_ (by first | (simp; done) | (simp; omega) | omega) | with_reducible refine prall6 ?_ (by first | (simp; done) | (simp; omega) | omega) | with_reducible refine PR.set ?_ (by first | (simp; done) | (simp; omega) | omega) _ | with_reducible refine PR.alloc ?_ _ | with_reducible refine PR.drew ?_)))).mono ?_
  rintro e w3 ⟨hK3, (⟨j5, ua, uc, he5, rfl, HR3⟩ | ⟨hcd, rfl⟩)⟩
  case inr =>
    have hk3 : Hid (Keep (· ≠ p) w w3) := hid (Keep.trans (by have := hk2.out; (repeat (first | with_reducible assumption | with_reducible refine kpall15 ?_ (by first | (refine Or.inr ?_; first | (simp; done) | (simp; omega) | omega)) | with_reducible refine kpall9 ?_ (by first | (refine Or.inr ?_; first | (simp; done) | (simp; omega) | omega)) | with_reducible refine kpall6 ?_ (by first | (refine Or.inr ?_; first | (simp; done) | (simp; omega) | omega)) | with_reducible refine kp_set ?_ (by first | (refine Or.inl ?_; simp; done) | (refine Or.inr ?_; first | (simp; done) | (simp; omega) | omega)) _ | with_reducible refine kp_alloc ?_ _ | with_reducible refine kp_drew ?_ | with_reducible refine kp_drewN ?_ _ | with_reducible exact Keep.refl _ _))) hK3)
    clear hK3
    go_wp2
    exact ⟨rfl, by have := hk3.out; (repeat (first | with_reducible assumption | with_reducible refine kpall15 ?_ (by first | (refine Or.inr ?_; first | (simp; done) | (simp; omega) | omega)) | with_reducible refine kpall9 ?_ (by first | (refine Or.inr ?_; first | (simp; done) | (simp; omega) | omega)) | with_reducible refine kpall6 ?_ (by first | (refine Or.inr ?_; first | (simp; done) | (simp; omega) | omega)) | with_reducible refine kp_set ?_ (by first | (refine Or.inl ?_; simp; done) | (refine Or.inr ?_; first | (simp; done) | (simp; omega) | omega)) _ | with_reducible refine kp_alloc ?_ _ | with_reducible refine kp_drew ?_ | with_reducible refine kp_drewN ?_ _ | with_reducible exact Keep.refl _ _)), .inr (by rw [HFA.out]; exact ⟨hcd, rfl⟩)⟩
  have Cr : Blk w3 (w.heap.size) 44 #[.string ⟨#[]⟩, .string ⟨#[]⟩, .string ⟨#[]⟩, .int .u64 0, .int .i64 0, .int .i64 0, .int .i64 0, .int .i64 0, .int .i64 0, .int .i64 0, .int .i64 0, .int .i64 0, .int .i64 0, .int .i64 0, .int .i64 0] := Blk.keep ((blkoth15 Br (show w.heap.size ≠ w1.heap.size by omega)).is (by first | rfl | simp)) hK3 (show w.heap.size ≠ p by omega)
  have Cf : Blk w3 (w1.heap.size) 44 #[.string (strOfNums g2.name), .string (strOfNums g2.ty), .string (strOfNums g2.key), .int .u64 g2.num, .int .i64 g2.label, .int .i64 g2.packed, .int .i64 g2.oneof, .int .i64 g2.at1.1, .int .i64 g2.at1.2, .int .i64 g2.nat1.1, .int .i64 g2.nat1.2, .int .i64 g2.tat.1, .int .i64 g2.tat.2, .int .i64 g2.mat.1, .int .i64 g2.mat.2] := Blk.keep ((blkall15 Bf).is (by first | rfl | simp)) hK3 (show w1.heap.size ≠ p by omega)
  clear Br xr yr Bf xf yf
  have hs3 := hK3.size
  try simp at hs3
  have Br := Cr
  clear Cr
  have xr := Br.cellF
  have yr := Br.frz
  replace zr : w.heap.size < w3.heap.size := by omega
  have Bf := Cf
  clear Cf
  have xf := Bf.cellF
  have yf := Bf.frz
  replace zf : w1.heap.size < w3.heap.size := by omega
  have hp3 : p < w3.heap.size := by omega
  have hq3 : w.heap.size ≤ w3.heap.size := by omega
  have hk3 : Hid (Keep (· ≠ p) w w3) := hid (Keep.trans (by have := hk2.out; (repeat (first | with_reducible assumption | with_reducible refine kpall15 ?_ (by first | (refine Or.inr ?_; first | (simp; done) | (simp; omega) | omega)) | with_reducible refine kpall9 ?_ (by first | (refine Or.inr ?_; first | (simp; done) | (simp; omega) | omega)) | with_reducible refine kpall6 ?_ (by first | (refine Or.inr ?_; first | (simp; done) | (simp; omega) | omega)) | with_reducible refine kp_set ?_ (by first | (refine Or.inl ?_; simp; done) | (refine Or.inr ?_; first | (simp; done) | (simp; omega) | omega)) _ | with_reducible refine kp_alloc ?_ _ | with_reducible refine kp_drew ?_ | with_reducible refine kp_drewN ?_ _ | with_reducible exact Keep.refl _ _))) hK3)
  clear hK3
  go_wp2
  exact bodyPost_ret (v := .agg #[.string (strOfNums g2.name), .string (strOfNums g2.ty), .string (strOfNums g2.key), .int .u64 g2.num, .int .i64 g2.label, .int .i64 g2.packed, .int .i64 g2.oneof, .int .i64 g2.at1.1, .int .i64 g2.at1.2, .int .i64 g2.nat1.1, .int .i64 g2.nat1.2, .int .i64 g2.tat.1, .int .i64 g2.tat.2, .int .i64 g2.mat.1, .int .i64 g2.mat.2]) (by simp [results, Tryd.results69, go_sem, xf, zf, xr, zr]) rfl ⟨by have := hk3.out; (repeat (first | with_reducible assumption | with_reducible refine kpall15 ?_ (by first | (refine Or.inr ?_; first | (simp; done) | (simp; omega) | omega)) | with_reducible refine kpall9 ?_ (by first | (refine Or.inr ?_; first | (simp; done) | (simp; omega) | omega)) | with_reducible refine kpall6 ?_ (by first | (refine Or.inr ?_; first | (simp; done) | (simp; omega) | omega)) | with_reducible refine kp_set ?_ (by first | (refine Or.inl ?_; simp; done) | (refine Or.inr ?_; first | (simp; done) | (simp; omega) | omega)) _ | with_reducible refine kp_alloc ?_ _ | with_reducible refine kp_drew ?_ | with_reducible refine kp_drewN ?_ _ | with_reducible exact Keep.refl _ _)), .inl ⟨j5, g2, hid (by rw [HFA.out]; exact he5.out), hid (by rw [HFA.out]), rfl, hid (by have := HR3.out; (repeat (first | with_reducible assumption | with_reducible refine prall15 ?_ (by first | (simp; done) | (simp; omega) | omega) | with_reducible refine prall9 ?_ (by first | (simp; done) | (simp; omega) | omega) | with_reducible refine prall6 ?_ (by first | (simp; done) | (simp; omega) | omega) | with_reducible refine PR.set ?_ (by first | (simp; done) | (simp; omega) | omega) _ | with_reducible refine PR.alloc ?_ _ | with_reducible refine PR.drew ?_)))⟩⟩
end
end Go.Proofs.YtidimdbnnnpplaaDoor
namespace Go.Proofs.YtidimdbnnnpplaaDoor
open Go.RowKit
set_option maxRecDepth 1000000
set_option linter.unusedVariables false
set_option linter.unusedSimpArgs false
set_option maxHeartbeats 8000000

section
variable (w0 : World) (b off cap : Nat) (ms : List Mw) (p : Nat) (w : World) (i : Nat)
theorem markedW (X : ByteArray) (x : List Int) (hX : X = strOfNums x) (hx : plainW x) (label : Int) (hi : isM (stA ms i) x = true) (hml : ms.length ≤ 70000) (h : PR w0 b off cap ms p w i) : Calls Tryd.prog 57 #[.pointer (some ⟨p, 0, none⟩), .string X, .int .i64 label] w fun e w' => Keep (· ≠ p) w w' ∧ ((∃ j g, Hid ((fB (fZ label 0 [] (atM (hdM (stA ms i)))) (nxM (stA ms i))).2 = stA ms j) ∧ Hid (g = (fB (fZ label 0 [] (atM (hdM (stA ms i)))) (nxM (stA ms i))).1) ∧ e = .returned (.agg #[.string (strOfNums g.name), .string (strOfNums g.ty), .string (strOfNums g.key), .int .u64 g.num, .int .i64 g.label, .int .i64 g.packed, .int .i64 g.oneof, .int .i64 g.at1.1, .int .i64 g.at1.2, .int .i64 g.nat1.1, .int .i64 g.nat1.2, .int .i64 g.tat.1, .int .i64 g.tat.2, .int .i64 g.mat.1, .int .i64 g.mat.2]) ∧ Hid (PR w0 b off cap ms p w' j)) ∨ Fell (fB (fZ label 0 [] (atM (hdM (stA ms i)))) (nxM (stA ms i))).2 e) := by
  have HML := hid hml
  have HE : Hid (eatM (stA ms i) x = nxM (stA ms i)) := hid (by unfold eatM; rw [if_pos (show (stA ms i).cd = 0 from rfl), if_pos hi])
  have HSK := hid (fun W g => skipW w0 b off cap ms p W i X x hX hx g)
  clear hml hX hx hi
  have hk0 : Hid (Keep (· ≠ p) w w) := hid (Keep.refl _ _)
  have hpl : p < w.heap.size := h.blk.lt
  have HR0 := hid h
  clear h
  go_enter Tryd.func57, Tryd.ntmps57
  go_wp2_with fail
  refine (HSK.out _ (by have := HR0.out; (repeat (first | with_reducible assumption | with_reducible refine prall15 ?_ (by first | (simp; done) | (simp; omega) | omega) | with_reducible refine prall9 ?_ (by first | (simp; done) | (simp; omega) | omega) | with_reducible refine prall6 ?_ (by first | (simp; done) | (simp; omega) | omega) | with_reducible refine PR.set ?_ (by first | (simp; done) | (simp; omega) | omega) _ | with_reducible refine PR.alloc ?_ _ | with_reducible refine PR.drew ?_)))).mono ?_
  rintro e w1 ⟨hK1, (⟨j1, ua, uc, he1, rfl, HR1⟩ | ⟨hcd, rfl⟩)⟩
  case inr =>
    have hk1 : Hid (Keep (· ≠ p) w w1) := hid (Keep.trans (by have := hk0.out; (repeat (first | with_reducible assumption | with_reducible refine kpall15 ?_ (by first | (refine Or.inr ?_; first | (simp; done) | (simp; omega) | omega)) | with_reducible refine kpall9 ?_ (by first | (refine Or.inr ?_; first | (simp; done) | (simp; omega) | omega)) | with_reducible refine kpall6 ?_ (by first | (refine Or.inr ?_; first | (simp; done) | (simp; omega) | omega)) | with_reducible refine kp_set ?_ (by first | (refine Or.inl ?_; simp; done) | (refine Or.inr ?_; first | (simp; done) | (simp; omega) | omega)) _ | with_reducible refine kp_alloc ?_ _ | with_reducible refine kp_drew ?_ | with_reducible refine kp_drewN ?_ _ | with_reducible exact Keep.refl _ _))) hK1)
    clear hK1
    go_wp2
    exact ⟨rfl, by have := hk1.out; (repeat (first | with_reducible assumption | with_reducible refine kpall15 ?_ (by first | (refine Or.inr ?_; first | (simp; done) | (simp; omega) | omega)) | with_reducible refine kpall9 ?_ (by first | (refine Or.inr ?_; first | (simp; done) | (simp; omega) | omega)) | with_reducible refine kpall6 ?_ (by first | (refine Or.inr ?_; first | (simp; done) | (simp; omega) | omega)) | with_reducible refine kp_set ?_ (by first | (refine Or.inl ?_; simp; done) | (refine Or.inr ?_; first | (simp; done) | (simp; omega) | omega)) _ | with_reducible refine kp_alloc ?_ _ | with_reducible refine kp_drew ?_ | with_reducible refine kp_drewN ?_ _ | with_reducible exact Keep.refl _ _)), .inr (by rw [HE.out] at hcd; exact absurd rfl hcd)⟩
  have Cr : Blk w1 (w.heap.size) 44 #[.string ⟨#[]⟩, .string ⟨#[]⟩, .string ⟨#[]⟩, .int .u64 0, .int .i64 0, .int .i64 0, .int .i64 0, .int .i64 0, .int .i64 0, .int .i64 0, .int .i64 0, .int .i64 0, .int .i64 0, .int .i64 0, .int .i64 0] := Blk.keep ((Blk.newAt (by simp)).is (by first | rfl | simp)) hK1 (show w.heap.size ≠ p by omega)
  have hs1 := hK1.size
  try simp at hs1
  have Br := Cr
  clear Cr
  have xr := Br.cellF
  have yr := Br.frz
  have zr : w.heap.size < w1.heap.size := by omega
  have hp1 : p < w1.heap.size := by omega
  have hq1 : w.heap.size ≤ w1.heap.size := by omega
  have hk1 : Hid (Keep (· ≠ p) w w1) := hid (Keep.trans (by have := hk0.out; (repeat (first | with_reducible assumption | with_reducible refine kpall15 ?_ (by first | (refine Or.inr ?_; first | (simp; done) | (simp; omega) | omega)) | with_reducible refine kpall9 ?_ (by first | (refine Or.inr ?_; first | (simp; done) | (simp; omega) | omega)) | with_reducible refine kpall6 ?_ (by first | (refine Or.inr ?_; first | (simp; done) | (simp; omega) | omega)) | with_reducible refine kp_set ?_ (by first | (refine Or.inl ?_; simp; done) | (refine Or.inr ?_; first | (simp; done) | (simp; omega) | omega)) _ | with_reducible refine kp_alloc ?_ _ | with_reducible refine kp_drew ?_ | with_reducible refine kp_drewN ?_ _ | with_reducible exact Keep.refl _ _))) hK1)
  clear hK1
  have HN : Hid (nxM (stA ms i) = stA ms j1) := hid (by rw [← HE.out]; exact he1.out)
  go_wp2_with fail
  refine (placeOfW _ (hdM (stA ms i)) ua uc).mono ?_
  rintro e w2 ⟨rfl, hb2⟩
  have hK2 := Keep.ofBelow (f := (· ≠ p)) hb2
  have HR2 : Hid (PR w0 b off cap ms p w2 (j1)) := hid (PR.kept (by have := HR1.out; (repeat (first | with_reducible assumption | with_reducible refine prall15 ?_ (by first | (simp; done) | (simp; omega) | omega) | with_reducible refine prall9 ?_ (by first | (simp; done) | (simp; omega) | omega) | with_reducible refine prall6 ?_ (by first | (simp; done) | (simp; omega) | omega) | with_reducible refine PR.set ?_ (by first | (simp; done) | (simp; omega) | omega) _ | with_reducible refine PR.alloc ?_ _ | with_reducible refine PR.drew ?_))) hb2)
  clear hb2
  have Cr : Blk w2 (w.heap.size) 44 #[.string ⟨#[]⟩, .string ⟨#[]⟩, .string ⟨#[]⟩, .int .u64 0, .int .i64 0, .int .i64 0, .int .i64 0, .int .i64 0, .int .i64 0, .int .i64 0, .int .i64 0, .int .i64 0, .int .i64 0, .int .i64 0, .int .i64 0] := Blk.keep ((Br.kept (below_alloc _)).is (by first | rfl | simp)) hK2 (show w.heap.size ≠ p by omega)
  have Cm : Blk w2 (w1.heap.size) 85 #[.int .i64 (hdM (stA ms i)).kind, .string (strOfNums (hdM (stA ms i)).s), .int .u64 (hdM (stA ms i)).n, .slice ua (hdM (stA ms i)).b.length uc, .int .i64 (hdM (stA ms i)).line, .int .i64 (hdM (stA ms i)).col] := Blk.keep ((Blk.newAt (by simp)).is (by first | rfl | simp)) hK2 (show w1.heap.size ≠ p by omega)
  clear Br xr yr
  have hs2 := hK2.size
  try simp at hs2
  have Br := Cr
  clear Cr
  have xr := Br.cellF
  have yr := Br.frz
  replace zr : w.heap.size < w2.heap.size := by omega
  have Bm := Cm
  clear Cm
  have xm := Bm.cellF
  have ym := Bm.frz
  have zm : w1.heap.size < w2.heap.size := by omega
  have hp2 : p < w2.heap.size := by omega
  have hq2 : w.heap.size ≤ w2.heap.size := by omega
  have hk2 : Hid (Keep (· ≠ p) w w2) := hid (Keep.trans (by have := hk1.out; (repeat (first | with_reducible assumption | with_reducible refine kpall15 ?_ (by first | (refine Or.inr ?_; first | (simp; done) | (simp; omega) | omega)) | with_reducible refine kpall9 ?_ (by first | (refine Or.inr ?_; first | (simp; done) | (simp; omega) | omega)) | with_reducible refine kpall6 ?_ (by first | (refine Or.inr ?_; first | (simp; done) | (simp; omega) | omega)) | with_reducible refine kp_set ?_ (by first | (refine Or.inl ?_; simp; done) | (refine Or.inr ?_; first | (simp; done) | (simp; omega) | omega)) _ | with_reducible refine kp_alloc ?_ _ | with_reducible refine kp_drew ?_ | with_reducible refine kp_drewN ?_ _ | with_reducible exact Keep.refl _ _))) hK2)
  clear hK2
  go_wp2_with fail
  refine (fieldW w0 b off cap ms p _ j1 (fZ label 0 [] (atM (hdM (stA ms i)))) HML.out (by have := HR2.out; (repeat (first | with_reducible assumption | with_reducible refine prall15 ?_ (by first | (simp; done) | (simp; omega) | omega) | with_reducible refine prall9 ?_ (by first | (simp; done) | (simp; omega) | omega) | with_reducible refine prall6 ?_ (by first | (simp; done) | (simp; omega) | omega) | with_reducible refine PR.set ?_ (by first | (simp; done) | (simp; omega) | omega) _ | with_reducible refine PR.alloc ?_ _ | with_reducible refine PR.drew ?_)))).mono ?_
  rintro e w3 ⟨hK3, (⟨j3, g3, he3, hg3, rfl, HR3⟩ | ⟨hcd, rfl⟩)⟩
  case inr =>
    have hk3 : Hid (Keep (· ≠ p) w w3) := hid (Keep.trans (by have := hk2.out; (repeat (first | with_reducible assumption | with_reducible refine kpall15 ?_ (by first | (refine Or.inr ?_; first | (simp; done) | (simp; omega) | omega)) | with_reducible refine kpall9 ?_ (by first | (refine Or.inr ?_; first | (simp; done) | (simp; omega) | omega)) | with_reducible refine kpall6 ?_ (by first | (refine Or.inr ?_; first | (simp; done) | (simp; omega) | omega)) | with_reducible refine kp_set ?_ (by first | (refine Or.inl ?_; simp; done) | (refine Or.inr ?_; first | (simp; done) | (simp; omega) | omega)) _ | with_reducible refine kp_alloc ?_ _ | with_reducible refine kp_drew ?_ | with_reducible refine kp_drewN ?_ _ | with_reducible exact Keep.refl _ _))) hK3)
    clear hK3
    go_wp2
    exact ⟨rfl, by have := hk3.out; (repeat (first | with_reducible assumption | with_reducible refine kpall15 ?_ (by first | (refine Or.inr ?_; first | (simp; done) | (simp; omega) | omega)) | with_reducible refine kpall9 ?_ (by first | (refine Or.inr ?_; first | (simp; done) | (simp; omega) | omega)) | with_reducible refine kpall6 ?_ (by first | (refine Or.inr ?_; first | (simp; done) | (simp; omega) | omega)) | with_reducible refine kp_set ?_ (by first | (refine Or.inl ?_; simp; done) | (refine Or.inr ?_; first | (simp; done) | (simp; omega) | omega)) _ | with_reducible refine kp_alloc ?_ _ | with_reducible refine kp_drew ?_ | with_reducible refine kp_drewN ?_ _ | with_reducible exact Keep.refl _ _)), .inr (by rw [HN.out]; exact ⟨hcd, rfl⟩)⟩
  have Cr : Blk w3 (w.heap.size) 44 #[.string ⟨#[]⟩, .string ⟨#[]⟩, .string ⟨#[]⟩, .int .u64 0, .int .i64 0, .int .i64 0, .int .i64 0, .int .i64 0, .int .i64 0, .int .i64 0, .int .i64 0, .int .i64 0, .int .i64 0, .int .i64 0, .int .i64 0] := Blk.keep (Br.is (by first | rfl | simp)) hK3 (show w.heap.size ≠ p by omega)
  have Cm : Blk w3 (w1.heap.size) 85 #[.int .i64 (hdM (stA ms i)).kind, .string (strOfNums (hdM (stA ms i)).s), .int .u64 (hdM (stA ms i)).n, .slice ua (hdM (stA ms i)).b.length uc, .int .i64 (hdM (stA ms i)).line, .int .i64 (hdM (stA ms i)).col] := Blk.keep (Bm.is (by first | rfl | simp)) hK3 (show w1.heap.size ≠ p by omega)
  clear Br xr yr Bm xm ym
  have hs3 := hK3.size
  try simp at hs3
  have Br := Cr
  clear Cr
  have xr := Br.cellF
  have yr := Br.frz
  replace zr : w.heap.size < w3.heap.size := by omega
  have Bm := Cm
  clear Cm
  have xm := Bm.cellF
  have ym := Bm.frz
  replace zm : w1.heap.size < w3.heap.size := by omega
  have hp3 : p < w3.heap.size := by omega
  have hq3 : w.heap.size ≤ w3.heap.size := by omega
  have hk3 : Hid (Keep (· ≠ p) w w3) := hid (Keep.trans (by have := hk2.out; (repeat (first | with_reducible assumption | with_reducible refine kpall15 ?_ (by first | (refine Or.inr ?_; first | (simp; done) | (simp; omega) | omega)) | with_reducible refine kpall9 ?_ (by first | (refine Or.inr ?_; first | (simp; done) | (simp; omega) | omega)) | with_reducible refine kpall6 ?_ (by first | (refine Or.inr ?_; first | (simp; done) | (simp; omega) | omega)) | with_reducible refine kp_set ?_ (by first | (refine Or.inl ?_; simp; done) | (refine Or.inr ?_; first | (simp; done) | (simp; omega) | omega)) _ | with_reducible refine kp_alloc ?_ _ | with_reducible refine kp_drew ?_ | with_reducible refine kp_drewN ?_ _ | with_reducible exact Keep.refl _ _))) hK3)
  clear hK3
  go_wp2
  exact bodyPost_ret (v := .agg #[.string (strOfNums g3.name), .string (strOfNums g3.ty), .string (strOfNums g3.key), .int .u64 g3.num, .int .i64 g3.label, .int .i64 g3.packed, .int .i64 g3.oneof, .int .i64 g3.at1.1, .int .i64 g3.at1.2, .int .i64 g3.nat1.1, .int .i64 g3.nat1.2, .int .i64 g3.tat.1, .int .i64 g3.tat.2, .int .i64 g3.mat.1, .int .i64 g3.mat.2]) (by simp [results, Tryd.results57, go_sem, xr, zr]) rfl ⟨by have := hk3.out; (repeat (first | with_reducible assumption | with_reducible refine kpall15 ?_ (by first | (refine Or.inr ?_; first | (simp; done) | (simp; omega) | omega)) | with_reducible refine kpall9 ?_ (by first | (refine Or.inr ?_; first | (simp; done) | (simp; omega) | omega)) | with_reducible refine kpall6 ?_ (by first | (refine Or.inr ?_; first | (simp; done) | (simp; omega) | omega)) | with_reducible refine kp_set ?_ (by first | (refine Or.inl ?_; simp; done) | (refine Or.inr ?_; first | (simp; done) | (simp; omega) | omega)) _ | with_reducible refine kp_alloc ?_ _ | with_reducible refine kp_drew ?_ | with_reducible refine kp_drewN ?_ _ | with_reducible exact Keep.refl _ _)), .inl ⟨j3, g3, hid (by rw [HN.out]; exact he3.out), hid (by rw [HN.out]; exact hg3.out), rfl, hid (by have := HR3.out; (repeat (first | with_reducible assumption | with_reducible refine prall15 ?_ (by first | (simp; done) | (simp; omega) | omega) | with_reducible refine prall9 ?_ (by first | (simp; done) | (simp; omega) | omega) | with_reducible refine prall6 ?_ (by first | (simp; done) | (simp; omega) | omega) | with_reducible refine PR.set ?_ (by first | (simp; done) | (simp; omega) | omega) _ | with_reducible refine PR.alloc ?_ _ | with_reducible refine PR.drew ?_)))⟩⟩
end
end Go.Proofs.YtidimdbnnnpplaaDoor
