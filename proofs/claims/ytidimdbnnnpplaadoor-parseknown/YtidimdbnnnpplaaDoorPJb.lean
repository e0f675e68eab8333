/-
  The reader of the program parse: symbols, ranges.
-/
import Derived.Test.YtidimdbnnnpplaaDoorPJa
namespace Go.Proofs.YtidimdbnnnpplaaDoor
open Go.RowKit
set_option maxRecDepth 1000000
set_option linter.unusedVariables false
set_option linter.unusedSimpArgs false
set_option maxHeartbeats 8000000
section
variable (w0 : World) (b off cap : Nat) (ms : List Mw) (p : Nat) (w : World) (i : Nat)
theorem symbolW (h : PR w0 b off cap ms p w i) : Calls Tryd.prog 46 #[.pointer (some ⟨p, 0, none⟩)] w fun e w' => Keep (· ≠ p) w w' ∧ ((∃ j y, Hid ((symM (stA ms i)).2 = stA ms j) ∧ Hid (y = (symM (stA ms i)).1) ∧ e = .returned (.agg #[.string (strOfNums y.name), .int .u64 y.num, .int .i64 y.at1.1, .int .i64 y.at1.2, .int .i64 y.nat1.1, .int .i64 y.nat1.2]) ∧ Hid (PR w0 b off cap ms p w' j)) ∨ Fell (symM (stA ms i)).2 e) := by
  have hk0 : Hid (Keep (· ≠ p) w w) := hid (Keep.refl _ _)
  have hpl : p < w.heap.size := h.blk.lt
  have HR0 := hid h
  clear h
  go_enter Tryd.func46, Tryd.ntmps46
  go_wp2_with fail
  refine (numberedW w0 b off cap ms p _ i (by have := HR0.out; (repeat (first | with_reducible assumption | with_reducible refine prall15 ?_ (by first | (simp; done) | (simp; omega) | omega) | with_reducible refine prall9 ?_ (by first | (simp; done) | (simp; omega) | omega) | with_reducible refine prall6 ?_ (by first | (simp; done) | (simp; omega) | omega) | with_reducible refine PR.set ?_ (by first | (simp; done) | (simp; omega) | omega) _ | with_reducible refine PR.alloc ?_ _ | with_reducible refine PR.drew ?_)))).mono ?_
  rintro e w1 ⟨hK1, (⟨j1, m1, n1, sa, sc, ta, tc, he1, hm1, hn1, rfl, ho1, ho2, HR1⟩ | ⟨hcd, rfl⟩)⟩
  case inr =>
    have hk1 : Hid (Keep (· ≠ p) w w1) := hid (Keep.trans (by have := hk0.out; (repeat (first | with_reducible assumption | with_reducible refine kpall15 ?_ (by first | (refine Or.inr ?_; first | (simp; done) | (simp; omega) | omega)) | with_reducible refine kpall9 ?_ (by first | (refine Or.inr ?_; first | (simp; done) | (simp; omega) | omega)) | with_reducible refine kpall6 ?_ (by first | (refine Or.inr ?_; first | (simp; done) | (simp; omega) | omega)) | with_reducible refine kp_set ?_ (by first | (refine Or.inl ?_; simp; done) | (refine Or.inr ?_; first | (simp; done) | (simp; omega) | omega)) _ | with_reducible refine kp_alloc ?_ _ | with_reducible refine kp_drew ?_ | with_reducible refine kp_drewN ?_ _ | with_reducible exact Keep.refl _ _))) hK1)
    clear hK1
    go_wp2
    exact ⟨rfl, by have := hk1.out; (repeat (first | with_reducible assumption | with_reducible refine kpall15 ?_ (by first | (refine Or.inr ?_; first | (simp; done) | (simp; omega) | omega)) | with_reducible refine kpall9 ?_ (by first | (refine Or.inr ?_; first | (simp; done) | (simp; omega) | omega)) | with_reducible refine kpall6 ?_ (by first | (refine Or.inr ?_; first | (simp; done) | (simp; omega) | omega)) | with_reducible refine kp_set ?_ (by first | (refine Or.inl ?_; simp; done) | (refine Or.inr ?_; first | (simp; done) | (simp; omega) | omega)) _ | with_reducible refine kp_alloc ?_ _ | with_reducible refine kp_drew ?_ | with_reducible refine kp_drewN ?_ _ | with_reducible exact Keep.refl _ _)), .inr (by rw [show (symM (stA ms i)).2 = (namM (stA ms i)).2.2 by unfold symM; simp only [eat_bad hcd]]; exact ⟨hcd, rfl⟩)⟩
  have Cr : Blk w1 (w.heap.size) 112 #[.string ⟨#[]⟩, .int .u64 0, .int .i64 0, .int .i64 0, .int .i64 0, .int .i64 0] := Blk.keep ((Blk.newAt (by simp)).is (by first | rfl | simp)) hK1 (show w.heap.size ≠ p by omega)
  have hs1 := hK1.size
  try simp at hs1
  have Br := Cr
  clear Cr
  have xr := Br.cellF
  have yr := Br.frz
  have zr : w.heap.size < w1.heap.size := by omega
  have hp1 : p < w1.heap.size := by omega
  have hq1 : w.heap.size ≤ w1.heap.size := by omega
  have hk1 : Hid (Keep (· ≠ p) w w1) := hid (Keep.trans (by have := hk0.out; (repeat (first | with_reducible assumption | with_reducible refine kpall15 ?_ (by first | (refine Or.inr ?_; first | (simp; done) | (simp; omega) | omega)) | with_reducible refine kpall9 ?_ (by first | (refine Or.inr ?_; first | (simp; done) | (simp; omega) | omega)) | with_reducible refine kpall6 ?_ (by first | (refine Or.inr ?_; first | (simp; done) | (simp; omega) | omega)) | with_reducible refine kp_set ?_ (by first | (refine Or.inl ?_; simp; done) | (refine Or.inr ?_; first | (simp; done) | (simp; omega) | omega)) _ | with_reducible refine kp_alloc ?_ _ | with_reducible refine kp_drew ?_ | with_reducible refine kp_drewN ?_ _ | with_reducible exact Keep.refl _ _))) hK1)
  clear hK1
  go_wp2_with fail
  refine (skipW w0 b off cap ms p _ j1 ⟨#[59]⟩ [59] rfl plain_sc (by have := HR1.out; (repeat (first | with_reducible assumption | with_reducible refine prall15 ?_ (by first | (simp; done) | (simp; omega) | omega) | with_reducible refine prall9 ?_ (by first | (simp; done) | (simp; omega) | omega) | with_reducible refine prall6 ?_ (by first | (simp; done) | (simp; omega) | omega) | with_reducible refine PR.set ?_ (by first | (simp; done) | (simp; omega) | omega) _ | with_reducible refine PR.alloc ?_ _ | with_reducible refine PR.drew ?_)))).mono ?_
  rintro e w2 ⟨hK2, (⟨j2, ua, uc, he2, rfl, HR2⟩ | ⟨hcd, rfl⟩)⟩
  case inr =>
    have hk2 : Hid (Keep (· ≠ p) w w2) := hid (Keep.trans (by have := hk1.out; (repeat (first | with_reducible assumption | with_reducible refine kpall15 ?_ (by first | (refine Or.inr ?_; first | (simp; done) | (simp; omega) | omega)) | with_reducible refine kpall9 ?_ (by first | (refine Or.inr ?_; first | (simp; done) | (simp; omega) | omega)) | with_reducible refine kpall6 ?_ (by first | (refine Or.inr ?_; first | (simp; done) | (simp; omega) | omega)) | with_reducible refine kp_set ?_ (by first | (refine Or.inl ?_; simp; done) | (refine Or.inr ?_; first | (simp; done) | (simp; omega) | omega)) _ | with_reducible refine kp_alloc ?_ _ | with_reducible refine kp_drew ?_ | with_reducible refine kp_drewN ?_ _ | with_reducible exact Keep.refl _ _))) hK2)
    clear hK2
    go_wp2
    exact ⟨rfl, by have := hk2.out; (repeat (first | with_reducible assumption | with_reducible refine kpall15 ?_ (by first | (refine Or.inr ?_; first | (simp; done) | (simp; omega) | omega)) | with_reducible refine kpall9 ?_ (by first | (refine Or.inr ?_; first | (simp; done) | (simp; omega) | omega)) | with_reducible refine kpall6 ?_ (by first | (refine Or.inr ?_; first | (simp; done) | (simp; omega) | omega)) | with_reducible refine kp_set ?_ (by first | (refine Or.inl ?_; simp; done) | (refine Or.inr ?_; first | (simp; done) | (simp; omega) | omega)) _ | with_reducible refine kp_alloc ?_ _ | with_reducible refine kp_drew ?_ | with_reducible refine kp_drewN ?_ _ | with_reducible exact Keep.refl _ _)), .inr (by rw [show (symM (stA ms i)).2 = eatM (stA ms j1) [59] by unfold symM; rw [he1.out]]; exact ⟨hcd, rfl⟩)⟩
  have Cr : Blk w2 (w.heap.size) 112 #[.string ⟨#[]⟩, .int .u64 0, .int .i64 0, .int .i64 0, .int .i64 0, .int .i64 0] := Blk.keep (((Br.kept (below_alloc _)).kept (below_alloc _)).is (by first | rfl | simp)) hK2 (show w.heap.size ≠ p by omega)
  have Cm : Blk w2 (w1.heap.size) 85 #[.int .i64 m1.kind, .string (strOfNums m1.s), .int .u64 m1.n, .slice sa m1.b.length sc, .int .i64 m1.line, .int .i64 m1.col] := Blk.keep (((Blk.newAt (by simp)).kept (below_alloc _)).is (by first | rfl | simp)) hK2 (show w1.heap.size ≠ p by omega)
  have Cn : Blk w2 (w1.heap.size + 1) 85 #[.int .i64 n1.kind, .string (strOfNums n1.s), .int .u64 n1.n, .slice ta n1.b.length tc, .int .i64 n1.line, .int .i64 n1.col] := Blk.keep ((Blk.newAt (by simp)).is (by first | rfl | simp)) hK2 (show w1.heap.size + 1 ≠ p by omega)
  clear Br xr yr
  have hs2 := hK2.size
  try simp at hs2
  have Br := Cr
  clear Cr
  have xr := Br.cellF
  have yr := Br.frz
  replace zr : w.heap.size < w2.heap.size := by omega
  have Bm := Cm
  clear Cm
  have xm := Bm.cellF
  have ym := Bm.frz
  have zm : w1.heap.size < w2.heap.size := by omega
  have Bn := Cn
  clear Cn
  have xn := Bn.cellF
  have yn := Bn.frz
  have zn : w1.heap.size + 1 < w2.heap.size := by omega
  have hp2 : p < w2.heap.size := by omega
  have hq2 : w.heap.size ≤ w2.heap.size := by omega
  have hk2 : Hid (Keep (· ≠ p) w w2) := hid (Keep.trans (by have := hk1.out; (repeat (first | with_reducible assumption | with_reducible refine kpall15 ?_ (by first | (refine Or.inr ?_; first | (simp; done) | (simp; omega) | omega)) | with_reducible refine kpall9 ?_ (by first | (refine Or.inr ?_; first | (simp; done) | (simp; omega) | omega)) | with_reducible refine kpall6 ?_ (by first | (refine Or.inr ?_; first | (simp; done) | (simp; omega) | omega)) | with_reducible refine kp_set ?_ (by first | (refine Or.inl ?_; simp; done) | (refine Or.inr ?_; first | (simp; done) | (simp; omega) | omega)) _ | with_reducible refine kp_alloc ?_ _ | with_reducible refine kp_drew ?_ | with_reducible refine kp_drewN ?_ _ | with_reducible exact Keep.refl _ _))) hK2)
  clear hK2
  go_wp2_with fail
  go_region_held3 (fun W => (W.cell? ⟨w1.heap.size, 0, none⟩ = some (.int .i64 m1.kind) ∧ W.cell? ⟨w1.heap.size, 1, none⟩ = some (.string (strOfNums m1.s)) ∧ W.cell? ⟨w1.heap.size, 2, none⟩ = some (.int .u64 m1.n) ∧ W.cell? ⟨w1.heap.size, 3, none⟩ = some (.slice sa m1.b.length sc) ∧ W.cell? ⟨w1.heap.size, 4, none⟩ = some (.int .i64 m1.line) ∧ W.cell? ⟨w1.heap.size, 5, none⟩ = some (.int .i64 m1.col)) ∧ (W.cell? ⟨w1.heap.size + 1, 0, none⟩ = some (.int .i64 n1.kind) ∧ W.cell? ⟨w1.heap.size + 1, 1, none⟩ = some (.string (strOfNums n1.s)) ∧ W.cell? ⟨w1.heap.size + 1, 2, none⟩ = some (.int .u64 n1.n) ∧ W.cell? ⟨w1.heap.size + 1, 3, none⟩ = some (.slice ta n1.b.length tc) ∧ W.cell? ⟨w1.heap.size + 1, 4, none⟩ = some (.int .i64 n1.line) ∧ W.cell? ⟨w1.heap.size + 1, 5, none⟩ = some (.int .i64 n1.col))) (first | with_reducible exact ⟨blkc6 (((((((V4m.out.other (show w1.heap.size ≠ w.heap.size by omega) _).other (show w1.heap.size ≠ w.heap.size by omega) _).other (show w1.heap.size ≠ w.heap.size by omega) _).other (show w1.heap.size ≠ w.heap.size by omega) _).other (show w1.heap.size ≠ w.heap.size by omega) _).other (show w1.heap.size ≠ w.heap.size by omega) _)), blkc6 (((((((V4n.out.other (show w1.heap.size + 1 ≠ w.heap.size by omega) _).other (show w1.heap.size + 1 ≠ w.heap.size by omega) _).other (show w1.heap.size + 1 ≠ w.heap.size by omega) _).other (show w1.heap.size + 1 ≠ w.heap.size by omega) _).other (show w1.heap.size + 1 ≠ w.heap.size by omega) _).other (show w1.heap.size + 1 ≠ w.heap.size by omega) _))⟩ | with_reducible exact ⟨blkc6 (V4m.out), blkc6 (V4n.out)⟩ | with_reducible exact ⟨blkc6 (V3m.out), blkc6 (V3n.out)⟩ | with_reducible exact ⟨blkc6 ((Bm.kept (below_drew1 _))), blkc6 ((Bn.kept (below_drew1 _)))⟩) (first | (go_at_call_of 43 m1; refine (placeOfW _ m1 sa sc).mono ?_; rintro e w3 ⟨rfl, hbu3⟩; have V3r : Hid (Blk w3 (w.heap.size) 112 #[.string ⟨#[]⟩, .int .u64 0, .int .i64 0, .int .i64 0, .int .i64 0, .int .i64 0]) := hid (Blk.kept ((Br.kept (below_drew1 _))) hbu3); have v3xr := V3r.out.cellF; have v3yr := V3r.out.frz; have V3m : Hid (Blk w3 (w1.heap.size) 85 #[.int .i64 m1.kind, .string (strOfNums m1.s), .int .u64 m1.n, .slice sa m1.b.length sc, .int .i64 m1.line, .int .i64 m1.col]) := hid (Blk.kept ((Bm.kept (below_drew1 _))) hbu3); have v3xm := V3m.out.cellF; have v3ym := V3m.out.frz; have V3n : Hid (Blk w3 (w1.heap.size + 1) 85 #[.int .i64 n1.kind, .string (strOfNums n1.s), .int .u64 n1.n, .slice ta n1.b.length tc, .int .i64 n1.line, .int .i64 n1.col]) := hid (Blk.kept ((Bn.kept (below_drew1 _))) hbu3); have v3xn := V3n.out.cellF; have v3yn := V3n.out.frz; have HR3 : Hid (PR w0 b off cap ms p w3 (j2)) := hid (PR.kept ((by have := HR2.out; (repeat (first | with_reducible assumption | with_reducible refine prall15 ?_ (by first | (simp; done) | (simp; omega) | omega) | with_reducible refine prall9 ?_ (by first | (simp; done) | (simp; omega) | omega) | with_reducible refine prall6 ?_ (by first | (simp; done) | (simp; omega) | omega) | with_reducible refine PR.set ?_ (by first | (simp; done) | (simp; omega) | omega) _ | with_reducible refine PR.alloc ?_ _ | with_reducible refine PR.drew ?_)))) hbu3); have hk3 : Hid (Keep (· ≠ p) w w3) := hid (Keep.trans ((by have := hk2.out; (repeat (first | with_reducible assumption | with_reducible refine kpall15 ?_ (by first | (refine Or.inr ?_; first | (simp; done) | (simp; omega) | omega)) | with_reducible refine kpall9 ?_ (by first | (refine Or.inr ?_; first | (simp; done) | (simp; omega) | omega)) | with_reducible refine kpall6 ?_ (by first | (refine Or.inr ?_; first | (simp; done) | (simp; omega) | omega)) | with_reducible refine kp_set ?_ (by first | (refine Or.inl ?_; simp; done) | (refine Or.inr ?_; first | (simp; done) | (simp; omega) | omega)) _ | with_reducible refine kp_alloc ?_ _ | with_reducible refine kp_drew ?_ | with_reducible refine kp_drewN ?_ _ | with_reducible exact Keep.refl _ _)))) (Keep.ofBelow hbu3)); have hs3 := hbu3.size; (try simp at hs3); have hp3 : p < w3.heap.size := (by omega); have hq3 : w.heap.size ≤ w3.heap.size := (by omega); have v3zr : w.heap.size < w3.heap.size := (by omega); have v3zm : w1.heap.size < w3.heap.size := (by omega); have v3zn : w1.heap.size + 1 < w3.heap.size := (by omega); clear hbu3) | (go_at_call_of 43 n1; refine (placeOfW _ n1 ta tc).mono ?_; rintro e w4 ⟨rfl, hbu4⟩; have V4r : Hid (Blk w4 (w.heap.size) 112 #[.string ⟨#[]⟩, .int .u64 0, .int .i64 0, .int .i64 0, .int .i64 0, .int .i64 0]) := hid (Blk.kept (V3r.out) hbu4); have v4xr := V4r.out.cellF; have v4yr := V4r.out.frz; have V4m : Hid (Blk w4 (w1.heap.size) 85 #[.int .i64 m1.kind, .string (strOfNums m1.s), .int .u64 m1.n, .slice sa m1.b.length sc, .int .i64 m1.line, .int .i64 m1.col]) := hid (Blk.kept (V3m.out) hbu4); have v4xm := V4m.out.cellF; have v4ym := V4m.out.frz; have V4n : Hid (Blk w4 (w1.heap.size + 1) 85 #[.int .i64 n1.kind, .string (strOfNums n1.s), .int .u64 n1.n, .slice ta n1.b.length tc, .int .i64 n1.line, .int .i64 n1.col]) := hid (Blk.kept (V3n.out) hbu4); have v4xn := V4n.out.cellF; have v4yn := V4n.out.frz; have HR4 : Hid (PR w0 b off cap ms p w4 (j2)) := hid (PR.kept (HR3.out) hbu4); have hk4 : Hid (Keep (· ≠ p) w w4) := hid (Keep.trans (hk3.out) (Keep.ofBelow hbu4)); have hs4 := hbu4.size; (try simp at hs4); have hp4 : p < w4.heap.size := (by omega); have hq4 : w.heap.size ≤ w4.heap.size := (by omega); have v4zr : w.heap.size < w4.heap.size := (by omega); have v4zm : w1.heap.size < w4.heap.size := (by omega); have v4zn : w1.heap.size + 1 < w4.heap.size := (by omega); clear hbu4))
  clear Br xr yr zr Bm xm ym zm Bn xn yn zn
  clear V3r v3xr v3yr v3zr V3m v3xm v3ym v3zm V3n v3xn v3yn v3zn
  have Br := V4r.out
  have xr := v4xr
  have yr := v4yr
  have zr := v4zr
  clear V4r v4xr v4yr v4zr
  have Bm := V4m.out
  have xm := v4xm
  have ym := v4ym
  have zm := v4zm
  clear V4m v4xm v4ym v4zm
  have Bn := V4n.out
  have xn := v4xn
  have yn := v4yn
  have zn := v4zn
  clear V4n v4xn v4yn v4zn
  go_wp2
  exact bodyPost_ret (v := .agg #[.string (strOfNums m1.s), .int .u64 n1.n, .int .i64 m1.line, .int .i64 m1.col, .int .i64 n1.line, .int .i64 n1.col]) (by simp [results, Tryd.results46, go_sem, xr, zr]) rfl ⟨by have := hk4.out; (repeat (first | with_reducible assumption | with_reducible refine kpall15 ?_ (by first | (refine Or.inr ?_; first | (simp; done) | (simp; omega) | omega)) | with_reducible refine kpall9 ?_ (by first | (refine Or.inr ?_; first | (simp; done) | (simp; omega) | omega)) | with_reducible refine kpall6 ?_ (by first | (refine Or.inr ?_; first | (simp; done) | (simp; omega) | omega)) | with_reducible refine kp_set ?_ (by first | (refine Or.inl ?_; simp; done) | (refine Or.inr ?_; first | (simp; done) | (simp; omega) | omega)) _ | with_reducible refine kp_alloc ?_ _ | with_reducible refine kp_drew ?_ | with_reducible refine kp_drewN ?_ _ | with_reducible exact Keep.refl _ _)), .inl ⟨j2, ⟨m1.s, n1.n, atM m1, atM n1⟩, hid (by unfold symM; rw [he1.out]; exact he2.out), hid (by unfold symM; rw [hm1.out, hn1.out]), rfl, hid (by have := HR4.out; (repeat (first | with_reducible assumption | with_reducible refine prall15 ?_ (by first | (simp; done) | (simp; omega) | omega) | with_reducible refine prall9 ?_ (by first | (simp; done) | (simp; omega) | omega) | with_reducible refine prall6 ?_ (by first | (simp; done) | (simp; omega) | omega) | with_reducible refine PR.set ?_ (by first | (simp; done) | (simp; omega) | omega) _ | with_reducible refine PR.alloc ?_ _ | with_reducible refine PR.drew ?_)))⟩⟩
theorem numbersW (h : PR w0 b off cap ms p w i) : Calls Tryd.prog 70 #[.pointer (some ⟨p, 0, none⟩)] w fun e w' => Keep (· ≠ p) w w' ∧ ((∃ j y, Hid ((rngM (stA ms i)).2 = stA ms j) ∧ Hid (y = (rngM (stA ms i)).1) ∧ e = .returned (.agg #[.int .u64 y.low, .int .u64 y.high, .int .i64 y.at1.1, .int .i64 y.at1.2]) ∧ Hid (PR w0 b off cap ms p w' j)) ∨ Fell (rngM (stA ms i)).2 e) := by
  have hk0 : Hid (Keep (· ≠ p) w w) := hid (Keep.refl _ _)
  have hpl : p < w.heap.size := h.blk.lt
  have HR0 := hid h
  clear h
  go_enter Tryd.func70, Tryd.ntmps70
  go_wp2_with fail
  refine (takeW w0 b off cap ms p _ i 2 (by decide) (by have := HR0.out; (repeat (first | with_reducible assumption | with_reducible refine prall15 ?_ (by first | (simp; done) | (simp; omega) | omega) | with_reducible refine prall9 ?_ (by first | (simp; done) | (simp; omega) | omega) | with_reducible refine prall6 ?_ (by first | (simp; done) | (simp; omega) | omega) | with_reducible refine PR.set ?_ (by first | (simp; done) | (simp; omega) | omega) _ | with_reducible refine PR.alloc ?_ _ | with_reducible refine PR.drew ?_)))).mono ?_
  rintro e w1 ⟨hK1, (⟨j1, m1, sa, sc, he1, hm1, rfl, hr1, ho1, HR1⟩ | ⟨hcd, rfl⟩)⟩
  case inr =>
    have hk1 : Hid (Keep (· ≠ p) w w1) := hid (Keep.trans (by have := hk0.out; (repeat (first | with_reducible assumption | with_reducible refine kpall15 ?_ (by first | (refine Or.inr ?_; first | (simp; done) | (simp; omega) | omega)) | with_reducible refine kpall9 ?_ (by first | (refine Or.inr ?_; first | (simp; done) | (simp; omega) | omega)) | with_reducible refine kpall6 ?_ (by first | (refine Or.inr ?_; first | (simp; done) | (simp; omega) | omega)) | with_reducible refine kp_set ?_ (by first | (refine Or.inl ?_; simp; done) | (refine Or.inr ?_; first | (simp; done) | (simp; omega) | omega)) _ | with_reducible refine kp_alloc ?_ _ | with_reducible refine kp_drew ?_ | with_reducible refine kp_drewN ?_ _ | with_reducible exact Keep.refl _ _))) hK1)
    clear hK1
    go_wp2
    exact ⟨rfl, by have := hk1.out; (repeat (first | with_reducible assumption | with_reducible refine kpall15 ?_ (by first | (refine Or.inr ?_; first | (simp; done) | (simp; omega) | omega)) | with_reducible refine kpall9 ?_ (by first | (refine Or.inr ?_; first | (simp; done) | (simp; omega) | omega)) | with_reducible refine kpall6 ?_ (by first | (refine Or.inr ?_; first | (simp; done) | (simp; omega) | omega)) | with_reducible refine kp_set ?_ (by first | (refine Or.inl ?_; simp; done) | (refine Or.inr ?_; first | (simp; done) | (simp; omega) | omega)) _ | with_reducible refine kp_alloc ?_ _ | with_reducible refine kp_drew ?_ | with_reducible refine kp_drewN ?_ _ | with_reducible exact Keep.refl _ _)), .inr (by rw [show (rngM (stA ms i)).2 = (takeM (stA ms i) 2).2 by unfold rngM; rw [is_bad hcd]; rfl]; exact ⟨hcd, rfl⟩)⟩
  have Cr : Blk w1 (w.heap.size) 46 #[.int .u64 0, .int .u64 0, .int .i64 0, .int .i64 0] := Blk.keep ((Blk.newAt (by simp)).is (by first | rfl | simp)) hK1 (show w.heap.size ≠ p by omega)
  have hs1 := hK1.size
  try simp at hs1
  have Br := Cr
  clear Cr
  have xr := Br.cellF
  have yr := Br.frz
  have zr : w.heap.size < w1.heap.size := by omega
  have hp1 : p < w1.heap.size := by omega
  have hq1 : w.heap.size ≤ w1.heap.size := by omega
  have hk1 : Hid (Keep (· ≠ p) w w1) := hid (Keep.trans (by have := hk0.out; (repeat (first | with_reducible assumption | with_reducible refine kpall15 ?_ (by first | (refine Or.inr ?_; first | (simp; done) | (simp; omega) | omega)) | with_reducible refine kpall9 ?_ (by first | (refine Or.inr ?_; first | (simp; done) | (simp; omega) | omega)) | with_reducible refine kpall6 ?_ (by first | (refine Or.inr ?_; first | (simp; done) | (simp; omega) | omega)) | with_reducible refine kp_set ?_ (by first | (refine Or.inl ?_; simp; done) | (refine Or.inr ?_; first | (simp; done) | (simp; omega) | omega)) _ | with_reducible refine kp_alloc ?_ _ | with_reducible refine kp_drew ?_ | with_reducible refine kp_drewN ?_ _ | with_reducible exact Keep.refl _ _))) hK1)
  clear hK1
  cases hi : isM (stA ms j1) wTo with
  | true =>
    go_wp2_with fail
    refine (isNextW w0 b off cap ms p _ j1 ⟨#[116, 111]⟩ wTo rfl plain_to (by have := HR1.out; (repeat (first | with_reducible assumption | with_reducible refine prall15 ?_ (by first | (simp; done) | (simp; omega) | omega) | with_reducible refine prall9 ?_ (by first | (simp; done) | (simp; omega) | omega) | with_reducible refine prall6 ?_ (by first | (simp; done) | (simp; omega) | omega) | with_reducible refine PR.set ?_ (by first | (simp; done) | (simp; omega) | omega) _ | with_reducible refine PR.alloc ?_ _ | with_reducible refine PR.drew ?_)))).mono ?_
    rintro e w2 ⟨rfl, hb2⟩
    have hK2 := Keep.ofBelow (f := (· ≠ p)) hb2
    have HR2 : Hid (PR w0 b off cap ms p w2 (j1)) := hid (PR.kept (by have := HR1.out; (repeat (first | with_reducible assumption | with_reducible refine prall15 ?_ (by first | (simp; done) | (simp; omega) | omega) | with_reducible refine prall9 ?_ (by first | (simp; done) | (simp; omega) | omega) | with_reducible refine prall6 ?_ (by first | (simp; done) | (simp; omega) | omega) | with_reducible refine PR.set ?_ (by first | (simp; done) | (simp; omega) | omega) _ | with_reducible refine PR.alloc ?_ _ | with_reducible refine PR.drew ?_))) hb2)
    clear hb2
    have Cr : Blk w2 (w.heap.size) 46 #[.int .u64 0, .int .u64 0, .int .i64 0, .int .i64 0] := Blk.keep (((Br.kept (below_alloc _)).kept (below_alloc _)).is (by first | rfl | simp)) hK2 (show w.heap.size ≠ p by omega)
    have Cm : Blk w2 (w1.heap.size) 85 #[.int .i64 m1.kind, .string (strOfNums m1.s), .int .u64 m1.n, .slice sa m1.b.length sc, .int .i64 m1.line, .int .i64 m1.col] := Blk.keep (((Blk.newAt (by simp)).kept (below_alloc _)).is (by first | rfl | simp)) hK2 (show w1.heap.size ≠ p by omega)
    have Cn : Blk w2 (w1.heap.size + 1) 85 #[.int .i64 m1.kind, .string (strOfNums m1.s), .int .u64 m1.n, .slice sa m1.b.length sc, .int .i64 m1.line, .int .i64 m1.col] := Blk.keep ((Blk.newAt (by simp)).is (by first | rfl | simp)) hK2 (show w1.heap.size + 1 ≠ p by omega)
    clear Br xr yr
    have hs2 := hK2.size
    try simp at hs2
    have Br := Cr
    clear Cr
    have xr := Br.cellF
    have yr := Br.frz
    replace zr : w.heap.size < w2.heap.size := by omega
    have Bm := Cm
    clear Cm
    have xm := Bm.cellF
    have ym := Bm.frz
    have zm : w1.heap.size < w2.heap.size := by omega
    have Bn := Cn
    clear Cn
    have xn := Bn.cellF
    have yn := Bn.frz
    have zn : w1.heap.size + 1 < w2.heap.size := by omega
    have hp2 : p < w2.heap.size := by omega
    have hq2 : w.heap.size ≤ w2.heap.size := by omega
    have hk2 : Hid (Keep (· ≠ p) w w2) := hid (Keep.trans (by have := hk1.out; (repeat (first | with_reducible assumption | with_reducible refine kpall15 ?_ (by first | (refine Or.inr ?_; first | (simp; done) | (simp; omega) | omega)) | with_reducible refine kpall9 ?_ (by first | (refine Or.inr ?_; first | (simp; done) | (simp; omega) | omega)) | with_reducible refine kpall6 ?_ (by first | (refine Or.inr ?_; first | (simp; done) | (simp; omega) | omega)) | with_reducible refine kp_set ?_ (by first | (refine Or.inl ?_; simp; done) | (refine Or.inr ?_; first | (simp; done) | (simp; omega) | omega)) _ | with_reducible refine kp_alloc ?_ _ | with_reducible refine kp_drew ?_ | with_reducible refine kp_drewN ?_ _ | with_reducible exact Keep.refl _ _))) hK2)
    clear hK2
    rw [hi]
    go_wp2_with fail
    refine (skipW w0 b off cap ms p _ j1 ⟨#[116, 111]⟩ wTo rfl plain_to (by have := HR2.out; (repeat (first | with_reducible assumption | with_reducible refine prall15 ?_ (by first | (simp; done) | (simp; omega) | omega) | with_reducible refine prall9 ?_ (by first | (simp; done) | (simp; omega) | omega) | with_reducible refine prall6 ?_ (by first | (simp; done) | (simp; omega) | omega) | with_reducible refine PR.set ?_ (by first | (simp; done) | (simp; omega) | omega) _ | with_reducible refine PR.alloc ?_ _ | with_reducible refine PR.drew ?_)))).mono ?_
    rintro e w3 ⟨hK3, (⟨j2, ua, uc, he2, rfl, HR3⟩ | ⟨hcd, rfl⟩)⟩
    case inr =>
      have hk3 : Hid (Keep (· ≠ p) w w3) := hid (Keep.trans (by have := hk2.out; (repeat (first | with_reducible assumption | with_reducible refine kpall15 ?_ (by first | (refine Or.inr ?_; first | (simp; done) | (simp; omega) | omega)) | with_reducible refine kpall9 ?_ (by first | (refine Or.inr ?_; first | (simp; done) | (simp; omega) | omega)) | with_reducible refine kpall6 ?_ (by first | (refine Or.inr ?_; first | (simp; done) | (simp; omega) | omega)) | with_reducible refine kp_set ?_ (by first | (refine Or.inl ?_; simp; done) | (refine Or.inr ?_; first | (simp; done) | (simp; omega) | omega)) _ | with_reducible refine kp_alloc ?_ _ | with_reducible refine kp_drew ?_ | with_reducible refine kp_drewN ?_ _ | with_reducible exact Keep.refl _ _))) hK3)
      clear hK3
      go_wp2
      exact ⟨rfl, by have := hk3.out; (repeat (first | with_reducible assumption | with_reducible refine kpall15 ?_ (by first | (refine Or.inr ?_; first | (simp; done) | (simp; omega) | omega)) | with_reducible refine kpall9 ?_ (by first | (refine Or.inr ?_; first | (simp; done) | (simp; omega) | omega)) | with_reducible refine kpall6 ?_ (by first | (refine Or.inr ?_; first | (simp; done) | (simp; omega) | omega)) | with_reducible refine kp_set ?_ (by first | (refine Or.inl ?_; simp; done) | (refine Or.inr ?_; first | (simp; done) | (simp; omega) | omega)) _ | with_reducible refine kp_alloc ?_ _ | with_reducible refine kp_drew ?_ | with_reducible refine kp_drewN ?_ _ | with_reducible exact Keep.refl _ _)), .inr (by rw [show (rngM (stA ms i)).2 = eatM (stA ms j1) wTo by unfold rngM; rw [he1.out, if_pos hi]; simp only [take_bad hcd]]; exact ⟨hcd, rfl⟩)⟩
    have Cr : Blk w3 (w.heap.size) 46 #[.int .u64 0, .int .u64 0, .int .i64 0, .int .i64 0] := Blk.keep (Br.is (by first | rfl | simp)) hK3 (show w.heap.size ≠ p by omega)
    have Cm : Blk w3 (w1.heap.size) 85 #[.int .i64 m1.kind, .string (strOfNums m1.s), .int .u64 m1.n, .slice sa m1.b.length sc, .int .i64 m1.line, .int .i64 m1.col] := Blk.keep (Bm.is (by first | rfl | simp)) hK3 (show w1.heap.size ≠ p by omega)
    have Cn : Blk w3 (w1.heap.size + 1) 85 #[.int .i64 m1.kind, .string (strOfNums m1.s), .int .u64 m1.n, .slice sa m1.b.length sc, .int .i64 m1.line, .int .i64 m1.col] := Blk.keep (Bn.is (by first | rfl | simp)) hK3 (show w1.heap.size + 1 ≠ p by omega)
    clear Br xr yr Bm xm ym Bn xn yn
    have hs3 := hK3.size
    try simp at hs3
    have Br := Cr
    clear Cr
    have xr := Br.cellF
    have yr := Br.frz
    replace zr : w.heap.size < w3.heap.size := by omega
    have Bm := Cm
    clear Cm
    have xm := Bm.cellF
    have ym := Bm.frz
    replace zm : w1.heap.size < w3.heap.size := by omega
    have Bn := Cn
    clear Cn
    have xn := Bn.cellF
    have yn := Bn.frz
    replace zn : w1.heap.size + 1 < w3.heap.size := by omega
    have hp3 : p < w3.heap.size := by omega
    have hq3 : w.heap.size ≤ w3.heap.size := by omega
    have hk3 : Hid (Keep (· ≠ p) w w3) := hid (Keep.trans (by have := hk2.out; (repeat (first | with_reducible assumption | with_reducible refine kpall15 ?_ (by first | (refine Or.inr ?_; first | (simp; done) | (simp; omega) | omega)) | with_reducible refine kpall9 ?_ (by first | (refine Or.inr ?_; first | (simp; done) | (simp; omega) | omega)) | with_reducible refine kpall6 ?_ (by first | (refine Or.inr ?_; first | (simp; done) | (simp; omega) | omega)) | with_reducible refine kp_set ?_ (by first | (refine Or.inl ?_; simp; done) | (refine Or.inr ?_; first | (simp; done) | (simp; omega) | omega)) _ | with_reducible refine kp_alloc ?_ _ | with_reducible refine kp_drew ?_ | with_reducible refine kp_drewN ?_ _ | with_reducible exact Keep.refl _ _))) hK3)
    clear hK3
    go_wp2_with fail
    refine (takeW w0 b off cap ms p _ j2 2 (by decide) (by have := HR3.out; (repeat (first | with_reducible assumption | with_reducible refine prall15 ?_ (by first | (simp; done) | (simp; omega) | omega) | with_reducible refine prall9 ?_ (by first | (simp; done) | (simp; omega) | omega) | with_reducible refine prall6 ?_ (by first | (simp; done) | (simp; omega) | omega) | with_reducible refine PR.set ?_ (by first | (simp; done) | (simp; omega) | omega) _ | with_reducible refine PR.alloc ?_ _ | with_reducible refine PR.drew ?_)))).mono ?_
    rintro e w4 ⟨hK4, (⟨j3, m3, ta, tc, he3, hm3, rfl, hr3, ho3, HR4⟩ | ⟨hcd, rfl⟩)⟩
    case inr =>
      have hk4 : Hid (Keep (· ≠ p) w w4) := hid (Keep.trans (by have := hk3.out; (repeat (first | with_reducible assumption | with_reducible refine kpall15 ?_ (by first | (refine Or.inr ?_; first | (simp; done) | (simp; omega) | omega)) | with_reducible refine kpall9 ?_ (by first | (refine Or.inr ?_; first | (simp; done) | (simp; omega) | omega)) | with_reducible refine kpall6 ?_ (by first | (refine Or.inr ?_; first | (simp; done) | (simp; omega) | omega)) | with_reducible refine kp_set ?_ (by first | (refine Or.inl ?_; simp; done) | (refine Or.inr ?_; first | (simp; done) | (simp; omega) | omega)) _ | with_reducible refine kp_alloc ?_ _ | with_reducible refine kp_drew ?_ | with_reducible refine kp_drewN ?_ _ | with_reducible exact Keep.refl _ _))) hK4)
      clear hK4
      go_wp2
      exact ⟨rfl, by have := hk4.out; (repeat (first | with_reducible assumption | with_reducible refine kpall15 ?_ (by first | (refine Or.inr ?_; first | (simp; done) | (simp; omega) | omega)) | with_reducible refine kpall9 ?_ (by first | (refine Or.inr ?_; first | (simp; done) | (simp; omega) | omega)) | with_reducible refine kpall6 ?_ (by first | (refine Or.inr ?_; first | (simp; done) | (simp; omega) | omega)) | with_reducible refine kp_set ?_ (by first | (refine Or.inl ?_; simp; done) | (refine Or.inr ?_; first | (simp; done) | (simp; omega) | omega)) _ | with_reducible refine kp_alloc ?_ _ | with_reducible refine kp_drew ?_ | with_reducible refine kp_drewN ?_ _ | with_reducible exact Keep.refl _ _)), .inr (by rw [show (rngM (stA ms i)).2 = (takeM (stA ms j2) 2).2 by unfold rngM; rw [he1.out, if_pos hi, he2.out]]; exact ⟨hcd, rfl⟩)⟩
    have Cr : Blk w4 (w.heap.size) 46 #[.int .u64 0, .int .u64 0, .int .i64 0, .int .i64 0] := Blk.keep (Br.is (by first | rfl | simp)) hK4 (show w.heap.size ≠ p by omega)
    have Cm : Blk w4 (w1.heap.size) 85 #[.int .i64 m1.kind, .string (strOfNums m1.s), .int .u64 m1.n, .slice sa m1.b.length sc, .int .i64 m1.line, .int .i64 m1.col] := Blk.keep (Bm.is (by first | rfl | simp)) hK4 (show w1.heap.size ≠ p by omega)
    have Cn : Blk w4 (w1.heap.size + 1) 85 #[.int .i64 m1.kind, .string (strOfNums m1.s), .int .u64 m1.n, .slice sa m1.b.length sc, .int .i64 m1.line, .int .i64 m1.col] := Blk.keep (Bn.is (by first | rfl | simp)) hK4 (show w1.heap.size + 1 ≠ p by omega)
    clear Br xr yr Bm xm ym Bn xn yn
    have hs4 := hK4.size
    try simp at hs4
    have Br := Cr
    clear Cr
    have xr := Br.cellF
    have yr := Br.frz
    replace zr : w.heap.size < w4.heap.size := by omega
    have Bm := Cm
    clear Cm
    have xm := Bm.cellF
    have ym := Bm.frz
    replace zm : w1.heap.size < w4.heap.size := by omega
    have Bn := Cn
    clear Cn
    have xn := Bn.cellF
    have yn := Bn.frz
    replace zn : w1.heap.size + 1 < w4.heap.size := by omega
    have hp4 : p < w4.heap.size := by omega
    have hq4 : w.heap.size ≤ w4.heap.size := by omega
    have hk4 : Hid (Keep (· ≠ p) w w4) := hid (Keep.trans (by have := hk3.out; (repeat (first | with_reducible assumption | with_reducible refine kpall15 ?_ (by first | (refine Or.inr ?_; first | (simp; done) | (simp; omega) | omega)) | with_reducible refine kpall9 ?_ (by first | (refine Or.inr ?_; first | (simp; done) | (simp; omega) | omega)) | with_reducible refine kpall6 ?_ (by first | (refine Or.inr ?_; first | (simp; done) | (simp; omega) | omega)) | with_reducible refine kp_set ?_ (by first | (refine Or.inl ?_; simp; done) | (refine Or.inr ?_; first | (simp; done) | (simp; omega) | omega)) _ | with_reducible refine kp_alloc ?_ _ | with_reducible refine kp_drew ?_ | with_reducible refine kp_drewN ?_ _ | with_reducible exact Keep.refl _ _))) hK4)
    clear hK4
    go_wp2_with fail
    go_region_held3 (fun W => (W.cell? ⟨w1.heap.size, 0, none⟩ = some (.int .i64 m1.kind) ∧ W.cell? ⟨w1.heap.size, 1, none⟩ = some (.string (strOfNums m1.s)) ∧ W.cell? ⟨w1.heap.size, 2, none⟩ = some (.int .u64 m1.n) ∧ W.cell? ⟨w1.heap.size, 3, none⟩ = some (.slice sa m1.b.length sc) ∧ W.cell? ⟨w1.heap.size, 4, none⟩ = some (.int .i64 m1.line) ∧ W.cell? ⟨w1.heap.size, 5, none⟩ = some (.int .i64 m1.col)) ∧ (W.cell? ⟨w1.heap.size + 1, 0, none⟩ = some (.int .i64 m3.kind) ∧ W.cell? ⟨w1.heap.size + 1, 1, none⟩ = some (.string (strOfNums m3.s)) ∧ W.cell? ⟨w1.heap.size + 1, 2, none⟩ = some (.int .u64 m3.n) ∧ W.cell? ⟨w1.heap.size + 1, 3, none⟩ = some (.slice ta m3.b.length tc) ∧ W.cell? ⟨w1.heap.size + 1, 4, none⟩ = some (.int .i64 m3.line) ∧ W.cell? ⟨w1.heap.size + 1, 5, none⟩ = some (.int .i64 m3.col))) (first | with_reducible exact ⟨blkc6 (((((V5m.out.other (show w1.heap.size ≠ w.heap.size by omega) _).other (show w1.heap.size ≠ w.heap.size by omega) _).other (show w1.heap.size ≠ w.heap.size by omega) _).other (show w1.heap.size ≠ w.heap.size by omega) _)), blkc6 (((((V5n.out.other (show w1.heap.size + 1 ≠ w.heap.size by omega) _).other (show w1.heap.size + 1 ≠ w.heap.size by omega) _).other (show w1.heap.size + 1 ≠ w.heap.size by omega) _).other (show w1.heap.size + 1 ≠ w.heap.size by omega) _))⟩ | with_reducible exact ⟨blkc6 (V5m.out), blkc6 (V5n.out)⟩ | with_reducible exact ⟨blkc6 ((Blk.kept (((((((Bm.other (show w1.heap.size ≠ w1.heap.size + 1 by omega) _).other (show w1.heap.size ≠ w1.heap.size + 1 by omega) _).other (show w1.heap.size ≠ w1.heap.size + 1 by omega) _).other (show w1.heap.size ≠ w1.heap.size + 1 by omega) _).other (show w1.heap.size ≠ w1.heap.size + 1 by omega) _).other (show w1.heap.size ≠ w1.heap.size + 1 by omega) _).is (by first | rfl | simp)) (below_drew1 _))), blkc6 ((Blk.kept (((((((Bn.set 0 _).set 1 _).set 2 _).set 3 _).set 4 _).set 5 _).is (by first | rfl | simp)) (below_drew1 _)))⟩) (first | (go_at_call 43; refine (placeOfW _ m1 sa sc).mono ?_; rintro e w5 ⟨rfl, hbu5⟩; have V5r : Hid (Blk w5 (w.heap.size) 46 #[.int .u64 0, .int .u64 0, .int .i64 0, .int .i64 0]) := hid (Blk.kept ((Blk.kept (((((((Br.other (show w.heap.size ≠ w1.heap.size + 1 by omega) _).other (show w.heap.size ≠ w1.heap.size + 1 by omega) _).other (show w.heap.size ≠ w1.heap.size + 1 by omega) _).other (show w.heap.size ≠ w1.heap.size + 1 by omega) _).other (show w.heap.size ≠ w1.heap.size + 1 by omega) _).other (show w.heap.size ≠ w1.heap.size + 1 by omega) _).is (by first | rfl | simp)) (below_drew1 _))) hbu5); have v5xr := V5r.out.cellF; have v5yr := V5r.out.frz; have V5m : Hid (Blk w5 (w1.heap.size) 85 #[.int .i64 m1.kind, .string (strOfNums m1.s), .int .u64 m1.n, .slice sa m1.b.length sc, .int .i64 m1.line, .int .i64 m1.col]) := hid (Blk.kept ((Blk.kept (((((((Bm.other (show w1.heap.size ≠ w1.heap.size + 1 by omega) _).other (show w1.heap.size ≠ w1.heap.size + 1 by omega) _).other (show w1.heap.size ≠ w1.heap.size + 1 by omega) _).other (show w1.heap.size ≠ w1.heap.size + 1 by omega) _).other (show w1.heap.size ≠ w1.heap.size + 1 by omega) _).other (show w1.heap.size ≠ w1.heap.size + 1 by omega) _).is (by first | rfl | simp)) (below_drew1 _))) hbu5); have v5xm := V5m.out.cellF; have v5ym := V5m.out.frz; have V5n : Hid (Blk w5 (w1.heap.size + 1) 85 #[.int .i64 m3.kind, .string (strOfNums m3.s), .int .u64 m3.n, .slice ta m3.b.length tc, .int .i64 m3.line, .int .i64 m3.col]) := hid (Blk.kept ((Blk.kept (((((((Bn.set 0 _).set 1 _).set 2 _).set 3 _).set 4 _).set 5 _).is (by first | rfl | simp)) (below_drew1 _))) hbu5); have v5xn := V5n.out.cellF; have v5yn := V5n.out.frz; have HR5 : Hid (PR w0 b off cap ms p w5 (j3)) := hid (PR.kept ((by have := HR4.out; (repeat (first | with_reducible assumption | with_reducible refine prall15 ?_ (by first | (simp; done) | (simp; omega) | omega) | with_reducible refine prall9 ?_ (by first | (simp; done) | (simp; omega) | omega) | with_reducible refine prall6 ?_ (by first | (simp; done) | (simp; omega) | omega) | with_reducible refine PR.set ?_ (by first | (simp; done) | (simp; omega) | omega) _ | with_reducible refine PR.alloc ?_ _ | with_reducible refine PR.drew ?_)))) hbu5); have hk5 : Hid (Keep (· ≠ p) w w5) := hid (Keep.trans ((by have := hk4.out; (repeat (first | with_reducible assumption | with_reducible refine kpall15 ?_ (by first | (refine Or.inr ?_; first | (simp; done) | (simp; omega) | omega)) | with_reducible refine kpall9 ?_ (by first | (refine Or.inr ?_; first | (simp; done) | (simp; omega) | omega)) | with_reducible refine kpall6 ?_ (by first | (refine Or.inr ?_; first | (simp; done) | (simp; omega) | omega)) | with_reducible refine kp_set ?_ (by first | (refine Or.inl ?_; simp; done) | (refine Or.inr ?_; first | (simp; done) | (simp; omega) | omega)) _ | with_reducible refine kp_alloc ?_ _ | with_reducible refine kp_drew ?_ | with_reducible refine kp_drewN ?_ _ | with_reducible exact Keep.refl _ _)))) (Keep.ofBelow hbu5)); have hs5 := hbu5.size; (try simp at hs5); have hp5 : p < w5.heap.size := (by omega); have hq5 : w.heap.size ≤ w5.heap.size := (by omega); have v5zr : w.heap.size < w5.heap.size := (by omega); have v5zm : w1.heap.size < w5.heap.size := (by omega); have v5zn : w1.heap.size + 1 < w5.heap.size := (by omega); clear hbu5))
    clear Br xr yr zr Bm xm ym zm Bn xn yn zn
    have Br := V5r.out
    have xr := v5xr
    have yr := v5yr
    have zr := v5zr
    clear V5r v5xr v5yr v5zr
    have Bm := V5m.out
    have xm := v5xm
    have ym := v5ym
    have zm := v5zm
    clear V5m v5xm v5ym v5zm
    have Bn := V5n.out
    have xn := v5xn
    have yn := v5yn
    have zn := v5zn
    clear V5n v5xn v5yn v5zn
    go_wp2
    exact bodyPost_ret (v := .agg #[.int .u64 m1.n, .int .u64 m3.n, .int .i64 m1.line, .int .i64 m1.col]) (by simp [results, Tryd.results70, go_sem, xr, zr]) rfl ⟨by have := hk5.out; (repeat (first | with_reducible assumption | with_reducible refine kpall15 ?_ (by first | (refine Or.inr ?_; first | (simp; done) | (simp; omega) | omega)) | with_reducible refine kpall9 ?_ (by first | (refine Or.inr ?_; first | (simp; done) | (simp; omega) | omega)) | with_reducible refine kpall6 ?_ (by first | (refine Or.inr ?_; first | (simp; done) | (simp; omega) | omega)) | with_reducible refine kp_set ?_ (by first | (refine Or.inl ?_; simp; done) | (refine Or.inr ?_; first | (simp; done) | (simp; omega) | omega)) _ | with_reducible refine kp_alloc ?_ _ | with_reducible refine kp_drew ?_ | with_reducible refine kp_drewN ?_ _ | with_reducible exact Keep.refl _ _)), .inl ⟨j3, ⟨m1.n, m3.n, atM m1⟩, hid (by unfold rngM; rw [he1.out, if_pos hi, he2.out]; exact he3.out), hid (by unfold rngM; rw [he1.out, if_pos hi, he2.out, hm1.out, hm3.out]), rfl, hid (by have := HR5.out; (repeat (first | with_reducible assumption | with_reducible refine prall15 ?_ (by first | (simp; done) | (simp; omega) | omega) | with_reducible refine prall9 ?_ (by first | (simp; done) | (simp; omega) | omega) | with_reducible refine prall6 ?_ (by first | (simp; done) | (simp; omega) | omega) | with_reducible refine PR.set ?_ (by first | (simp; done) | (simp; omega) | omega) _ | with_reducible refine PR.alloc ?_ _ | with_reducible refine PR.drew ?_)))⟩⟩
  | false =>
    go_wp2_with fail
    refine (isNextW w0 b off cap ms p _ j1 ⟨#[116, 111]⟩ wTo rfl plain_to (by have := HR1.out; (repeat (first | with_reducible assumption | with_reducible refine prall15 ?_ (by first | (simp; done) | (simp; omega) | omega) | with_reducible refine prall9 ?_ (by first | (simp; done) | (simp; omega) | omega) | with_reducible refine prall6 ?_ (by first | (simp; done) | (simp; omega) | omega) | with_reducible refine PR.set ?_ (by first | (simp; done) | (simp; omega) | omega) _ | with_reducible refine PR.alloc ?_ _ | with_reducible refine PR.drew ?_)))).mono ?_
    rintro e w2 ⟨rfl, hb2⟩
    have hK2 := Keep.ofBelow (f := (· ≠ p)) hb2
    have HR2 : Hid (PR w0 b off cap ms p w2 (j1)) := hid (PR.kept (by have := HR1.out; (repeat (first | with_reducible assumption | with_reducible refine prall15 ?_ (by first | (simp; done) | (simp; omega) | omega) | with_reducible refine prall9 ?_ (by first | (simp; done) | (simp; omega) | omega) | with_reducible refine prall6 ?_ (by first | (simp; done) | (simp; omega) | omega) | with_reducible refine PR.set ?_ (by first | (simp; done) | (simp; omega) | omega) _ | with_reducible refine PR.alloc ?_ _ | with_reducible refine PR.drew ?_))) hb2)
    clear hb2
    have Cr : Blk w2 (w.heap.size) 46 #[.int .u64 0, .int .u64 0, .int .i64 0, .int .i64 0] := Blk.keep (((Br.kept (below_alloc _)).kept (below_alloc _)).is (by first | rfl | simp)) hK2 (show w.heap.size ≠ p by omega)
    have Cm : Blk w2 (w1.heap.size) 85 #[.int .i64 m1.kind, .string (strOfNums m1.s), .int .u64 m1.n, .slice sa m1.b.length sc, .int .i64 m1.line, .int .i64 m1.col] := Blk.keep (((Blk.newAt (by simp)).kept (below_alloc _)).is (by first | rfl | simp)) hK2 (show w1.heap.size ≠ p by omega)
    have Cn : Blk w2 (w1.heap.size + 1) 85 #[.int .i64 m1.kind, .string (strOfNums m1.s), .int .u64 m1.n, .slice sa m1.b.length sc, .int .i64 m1.line, .int .i64 m1.col] := Blk.keep ((Blk.newAt (by simp)).is (by first | rfl | simp)) hK2 (show w1.heap.size + 1 ≠ p by omega)
    clear Br xr yr
    have hs2 := hK2.size
    try simp at hs2
    have Br := Cr
    clear Cr
    have xr := Br.cellF
    have yr := Br.frz
    replace zr : w.heap.size < w2.heap.size := by omega
    have Bm := Cm
    clear Cm
    have xm := Bm.cellF
    have ym := Bm.frz
    have zm : w1.heap.size < w2.heap.size := by omega
    have Bn := Cn
    clear Cn
    have xn := Bn.cellF
    have yn := Bn.frz
    have zn : w1.heap.size + 1 < w2.heap.size := by omega
    have hp2 : p < w2.heap.size := by omega
    have hq2 : w.heap.size ≤ w2.heap.size := by omega
    have hk2 : Hid (Keep (· ≠ p) w w2) := hid (Keep.trans (by have := hk1.out; (repeat (first | with_reducible assumption | with_reducible refine kpall15 ?_ (by first | (refine Or.inr ?_; first | (simp; done) | (simp; omega) | omega)) | with_reducible refine kpall9 ?_ (by first | (refine Or.inr ?_; first | (simp; done) | (simp; omega) | omega)) | with_reducible refine kpall6 ?_ (by first | (refine Or.inr ?_; first | (simp; done) | (simp; omega) | omega)) | with_reducible refine kp_set ?_ (by first | (refine Or.inl ?_; simp; done) | (refine Or.inr ?_; first | (simp; done) | (simp; omega) | omega)) _ | with_reducible refine kp_alloc ?_ _ | with_reducible refine kp_drew ?_ | with_reducible refine kp_drewN ?_ _ | with_reducible exact Keep.refl _ _))) hK2)
    clear hK2
    rw [hi]
    go_wp2_with fail
    go_region_held3 (fun W => (W.cell? ⟨w1.heap.size, 0, none⟩ = some (.int .i64 m1.kind) ∧ W.cell? ⟨w1.heap.size, 1, none⟩ = some (.string (strOfNums m1.s)) ∧ W.cell? ⟨w1.heap.size, 2, none⟩ = some (.int .u64 m1.n) ∧ W.cell? ⟨w1.heap.size, 3, none⟩ = some (.slice sa m1.b.length sc) ∧ W.cell? ⟨w1.heap.size, 4, none⟩ = some (.int .i64 m1.line) ∧ W.cell? ⟨w1.heap.size, 5, none⟩ = some (.int .i64 m1.col)) ∧ (W.cell? ⟨w1.heap.size + 1, 0, none⟩ = some (.int .i64 m1.kind) ∧ W.cell? ⟨w1.heap.size + 1, 1, none⟩ = some (.string (strOfNums m1.s)) ∧ W.cell? ⟨w1.heap.size + 1, 2, none⟩ = some (.int .u64 m1.n) ∧ W.cell? ⟨w1.heap.size + 1, 3, none⟩ = some (.slice sa m1.b.length sc) ∧ W.cell? ⟨w1.heap.size + 1, 4, none⟩ = some (.int .i64 m1.line) ∧ W.cell? ⟨w1.heap.size + 1, 5, none⟩ = some (.int .i64 m1.col))) (first | with_reducible exact ⟨blkc6 (((((V3m.out.other (show w1.heap.size ≠ w.heap.size by omega) _).other (show w1.heap.size ≠ w.heap.size by omega) _).other (show w1.heap.size ≠ w.heap.size by omega) _).other (show w1.heap.size ≠ w.heap.size by omega) _)), blkc6 (((((V3n.out.other (show w1.heap.size + 1 ≠ w.heap.size by omega) _).other (show w1.heap.size + 1 ≠ w.heap.size by omega) _).other (show w1.heap.size + 1 ≠ w.heap.size by omega) _).other (show w1.heap.size + 1 ≠ w.heap.size by omega) _))⟩ | with_reducible exact ⟨blkc6 (V3m.out), blkc6 (V3n.out)⟩ | with_reducible exact ⟨blkc6 ((Bm.kept (below_drew1 _))), blkc6 ((Bn.kept (below_drew1 _)))⟩) (first | (go_at_call 43; refine (placeOfW _ m1 sa sc).mono ?_; rintro e w3 ⟨rfl, hbu3⟩; have V3r : Hid (Blk w3 (w.heap.size) 46 #[.int .u64 0, .int .u64 0, .int .i64 0, .int .i64 0]) := hid (Blk.kept ((Br.kept (below_drew1 _))) hbu3); have v3xr := V3r.out.cellF; have v3yr := V3r.out.frz; have V3m : Hid (Blk w3 (w1.heap.size) 85 #[.int .i64 m1.kind, .string (strOfNums m1.s), .int .u64 m1.n, .slice sa m1.b.length sc, .int .i64 m1.line, .int .i64 m1.col]) := hid (Blk.kept ((Bm.kept (below_drew1 _))) hbu3); have v3xm := V3m.out.cellF; have v3ym := V3m.out.frz; have V3n : Hid (Blk w3 (w1.heap.size + 1) 85 #[.int .i64 m1.kind, .string (strOfNums m1.s), .int .u64 m1.n, .slice sa m1.b.length sc, .int .i64 m1.line, .int .i64 m1.col]) := hid (Blk.kept ((Bn.kept (below_drew1 _))) hbu3); have v3xn := V3n.out.cellF; have v3yn := V3n.out.frz; have HR3 : Hid (PR w0 b off cap ms p w3 (j1)) := hid (PR.kept ((by have := HR2.out; (repeat (first | with_reducible assumption | with_reducible refine prall15 ?_ (by first | (simp; done) | (simp; omega) | omega) | with_reducible refine prall9 ?_ (by first | (simp; done) | (simp; omega) | omega) | with_reducible refine prall6 ?_ (by first | (simp; done) | (simp; omega) | omega) | with_reducible refine PR.set ?_ (by first | (simp; done) | (simp; omega) | omega) _ | with_reducible refine PR.alloc ?_ _ | with_reducible refine PR.drew ?_)))) hbu3); have hk3 : Hid (Keep (· ≠ p) w w3) := hid (Keep.trans ((by have := hk2.out; (repeat (first | with_reducible assumption | with_reducible refine kpall15 ?_ (by first | (refine Or.inr ?_; first | (simp; done) | (simp; omega) | omega)) | with_reducible refine kpall9 ?_ (by first | (refine Or.inr ?_; first | (simp; done) | (simp; omega) | omega)) | with_reducible refine kpall6 ?_ (by first | (refine Or.inr ?_; first | (simp; done) | (simp; omega) | omega)) | with_reducible refine kp_set ?_ (by first | (refine Or.inl ?_; simp; done) | (refine Or.inr ?_; first | (simp; done) | (simp; omega) | omega)) _ | with_reducible refine kp_alloc ?_ _ | with_reducible refine kp_drew ?_ | with_reducible refine kp_drewN ?_ _ | with_reducible exact Keep.refl _ _)))) (Keep.ofBelow hbu3)); have hs3 := hbu3.size; (try simp at hs3); have hp3 : p < w3.heap.size := (by omega); have hq3 : w.heap.size ≤ w3.heap.size := (by omega); have v3zr : w.heap.size < w3.heap.size := (by omega); have v3zm : w1.heap.size < w3.heap.size := (by omega); have v3zn : w1.heap.size + 1 < w3.heap.size := (by omega); clear hbu3))
    clear Br xr yr zr Bm xm ym zm Bn xn yn zn
    have Br := V3r.out
    have xr := v3xr
    have yr := v3yr
    have zr := v3zr
    clear V3r v3xr v3yr v3zr
    have Bm := V3m.out
    have xm := v3xm
    have ym := v3ym
    have zm := v3zm
    clear V3m v3xm v3ym v3zm
    have Bn := V3n.out
    have xn := v3xn
    have yn := v3yn
    have zn := v3zn
    clear V3n v3xn v3yn v3zn
    go_wp2
    exact bodyPost_ret (v := .agg #[.int .u64 m1.n, .int .u64 m1.n, .int .i64 m1.line, .int .i64 m1.col]) (by simp [results, Tryd.results70, go_sem, xr, zr]) rfl ⟨by have := hk3.out; (repeat (first | with_reducible assumption | with_reducible refine kpall15 ?_ (by first | (refine Or.inr ?_; first | (simp; done) | (simp; omega) | omega)) | with_reducible refine kpall9 ?_ (by first | (refine Or.inr ?_; first | (simp; done) | (simp; omega) | omega)) | with_reducible refine kpall6 ?_ (by first | (refine Or.inr ?_; first | (simp; done) | (simp; omega) | omega)) | with_reducible refine kp_set ?_ (by first | (refine Or.inl ?_; simp; done) | (refine Or.inr ?_; first | (simp; done) | (simp; omega) | omega)) _ | with_reducible refine kp_alloc ?_ _ | with_reducible refine kp_drew ?_ | with_reducible refine kp_drewN ?_ _ | with_reducible exact Keep.refl _ _)), .inl ⟨j1, ⟨m1.n, m1.n, atM m1⟩, hid (by unfold rngM; rw [he1.out, if_neg (by rw [hi]; simp)]), hid (by unfold rngM; rw [he1.out, if_neg (by rw [hi]; simp), hm1.out]), rfl, hid (by have := HR3.out; (repeat (first | with_reducible assumption | with_reducible refine prall15 ?_ (by first | (simp; done) | (simp; omega) | omega) | with_reducible refine prall9 ?_ (by first | (simp; done) | (simp; omega) | omega) | with_reducible refine prall6 ?_ (by first | (simp; done) | (simp; omega) | omega) | with_reducible refine PR.set ?_ (by first | (simp; done) | (simp; omega) | omega) _ | with_reducible refine PR.alloc ?_ _ | with_reducible refine PR.drew ?_)))⟩⟩
end
end Go.Proofs.YtidimdbnnnpplaaDoor
