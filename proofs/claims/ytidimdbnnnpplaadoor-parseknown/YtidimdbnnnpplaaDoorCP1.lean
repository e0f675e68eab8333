/-
  The reader of the program parse: a message.
  A file that the program builds, in a block of its own.
-/
import Derived.Test.YtidimdbnnnpplaaDoorCPZz
import Derived.Deep.CutRange
import Derived.Test.YtidimdbnnnpplaaDoorCPV
namespace Go.Proofs.YtidimdbnnnpplaaDoor
open Go.RowKit
set_option maxRecDepth 1000000
set_option linter.unusedVariables false
set_option linter.unusedSimpArgs false
set_option maxHeartbeats 8000000

theorem keep_then {w v u : World} {p N : Nat} (h : Keep (· ≠ p) w v) (g : Keep (fun k => k ≠ p ∧ k < N) v u) (hN : w.heap.size ≤ N) : Keep (· ≠ p) w u :=
  ⟨g.os.trans h.os, g.tape.trans h.tape, g.output.trans h.output, Nat.le_trans h.size g.size, fun q hq hf => by rw [g.block q (Nat.lt_of_lt_of_le hq h.size) ⟨hf, by omega⟩, h.block q hq hf]⟩
theorem memL_go {L : Nat} {d : MD} {s : PS} (h0 : s.cd = 0) (h : isM s [125] = false) : memL (dclM L) (d, s) = memL (dclM L) (memM (dclM L) (d, s)) := by
  unfold memL
  exact whM_go (p := fun x : MD × PS => x.2) (x := (d, s)) (fun x hx => mem_dec (fun s hs => mu_dcl_lt L hs) (endC_cd hx).1) (by unfold endC; simp [h0, h])
theorem memL_stop {L : Nat} {d : MD} {s : PS} (h : isM s [125] = true) : memL (dclM L) (d, s) = (d, s) := by
  unfold memL
  exact whM_stop (by unfold endC; simp [h])
section
variable (w0 : World) (b off cap : Nat) (ms : List Mw) (p : Nat) (w : World) (i : Nat)
theorem message0 (hi : isM (stA ms i) wMessage = true) (h : PR w0 b off cap ms p w i) : Calls Tryd.prog 28 #[.pointer (some ⟨p, 0, none⟩), .int .i64 8] w (DeclP w0 b off cap ms p 1 (dclM 0 (stA ms i)) w) := by
  have HD : Hid (dclM 0 (stA ms i) = (zD, badM (stA ms i) 17)) := hid (by unfold dclM; rw [if_neg (by rw [is_other hi (by decide)]; decide)])
  clear hi
  unfold DeclP
  have hk0 : Hid (Keep (· ≠ p) w w) := hid (Keep.refl _ _)
  have hpl : p < w.heap.size := h.blk.lt
  have HR0 := hid h
  clear h
  go_enter Tryd.func28, Tryd.ntmps28
  go_wp2_with fail
  refine (giveUpW w0 b off cap ms p _ i 17 (by have := HR0.out; (repeat (first | with_reducible assumption | with_reducible refine prall15 ?_ (by first | (simp; done) | (simp; omega) | omega) | with_reducible refine prall9 ?_ (by first | (simp; done) | (simp; omega) | omega) | with_reducible refine prall6 ?_ (by first | (simp; done) | (simp; omega) | omega) | with_reducible refine PR.set ?_ (by first | (simp; done) | (simp; omega) | omega) _ | with_reducible refine PR.alloc ?_ _ | with_reducible refine PR.drew ?_)))).mono ?_
  rintro e w1 ⟨rfl, hb1⟩
  have hk1 : Hid (Keep (· ≠ p) w w1) := hid (Keep.trans (by have := hk0.out; (repeat (first | with_reducible assumption | with_reducible refine kpall15 ?_ (by first | (refine Or.inr ?_; first | (simp; done) | (simp; omega) | omega)) | with_reducible refine kpall9 ?_ (by first | (refine Or.inr ?_; first | (simp; done) | (simp; omega) | omega)) | with_reducible refine kpall6 ?_ (by first | (refine Or.inr ?_; first | (simp; done) | (simp; omega) | omega)) | with_reducible refine kp_set ?_ (by first | (refine Or.inl ?_; simp; done) | (refine Or.inr ?_; first | (simp; done) | (simp; omega) | omega)) _ | with_reducible refine kp_alloc ?_ _ | with_reducible refine kp_drew ?_ | with_reducible refine kp_drewN ?_ _ | with_reducible exact Keep.refl _ _))) (Keep.ofBelow hb1))
  clear hb1
  go_wp2
  exact ⟨rfl, by have := hk1.out; (repeat (first | with_reducible assumption | with_reducible refine kpall15 ?_ (by first | (refine Or.inr ?_; first | (simp; done) | (simp; omega) | omega)) | with_reducible refine kpall9 ?_ (by first | (refine Or.inr ?_; first | (simp; done) | (simp; omega) | omega)) | with_reducible refine kpall6 ?_ (by first | (refine Or.inr ?_; first | (simp; done) | (simp; omega) | omega)) | with_reducible refine kp_set ?_ (by first | (refine Or.inl ?_; simp; done) | (refine Or.inr ?_; first | (simp; done) | (simp; omega) | omega)) _ | with_reducible refine kp_alloc ?_ _ | with_reducible refine kp_drew ?_ | with_reducible refine kp_drewN ?_ _ | with_reducible exact Keep.refl _ _)), .inr (by rw [HD.out]; exact ⟨bad_cd (by decide), by unfold badM; rw [if_pos (show (stA ms i).cd = 0 from rfl)]⟩)⟩
theorem messageS (L : Nat) (ar : Int) (HM : MsgC w0 b off cap ms p L) (har : ar + 1 + L = 8) (har0 : 0 ≤ ar) (hml : ms.length ≤ 70000) (h : PR w0 b off cap ms p w i) : Calls Tryd.prog 28 #[.pointer (some ⟨p, 0, none⟩), .int .i64 ar] w (DeclP w0 b off cap ms p (L + 2) (msgM (dclM L) (stA ms i)) w) := by
  have HML := hid hml
  have HMM := hid HM
  have HAR := hid har
  have hlt : ¬ (8 : Int) ≤ ar := by omega
  have hlt' : ar < 8 := by omega
  clear hml HM har
  unfold DeclP
  have hk0 : Hid (Keep (· ≠ p) w w) := hid (Keep.refl _ _)
  have hpl : p < w.heap.size := h.blk.lt
  have HR0 := hid h
  clear h
  go_enter Tryd.func28, Tryd.ntmps28
  go_wp2_with fail
  refine (skipW w0 b off cap ms p _ i ⟨#[109, 101, 115, 115, 97, 103, 101]⟩ wMessage rfl plain_msg (by have := HR0.out; (repeat (first | with_reducible assumption | with_reducible refine prall15 ?_ (by first | (simp; done) | (simp; omega) | omega) | with_reducible refine prall9 ?_ (by first | (simp; done) | (simp; omega) | omega) | with_reducible refine prall6 ?_ (by first | (simp; done) | (simp; omega) | omega) | with_reducible refine PR.set ?_ (by first | (simp; done) | (simp; omega) | omega) _ | with_reducible refine PR.alloc ?_ _ | with_reducible refine PR.drew ?_)))).mono ?_
  rintro e w1 ⟨hK1, (⟨j1, ua, uc, he1, rfl, HR1⟩ | ⟨hcd, rfl⟩)⟩
  case inr =>
    have hk1 : Hid (Keep (· ≠ p) w w1) := hid (Keep.trans (by have := hk0.out; (repeat (first | with_reducible assumption | with_reducible refine kpall15 ?_ (by first | (refine Or.inr ?_; first | (simp; done) | (simp; omega) | omega)) | with_reducible refine kpall9 ?_ (by first | (refine Or.inr ?_; first | (simp; done) | (simp; omega) | omega)) | with_reducible refine kpall6 ?_ (by first | (refine Or.inr ?_; first | (simp; done) | (simp; omega) | omega)) | with_reducible refine kp_set ?_ (by first | (refine Or.inl ?_; simp; done) | (refine Or.inr ?_; first | (simp; done) | (simp; omega) | omega)) _ | with_reducible refine kp_alloc ?_ _ | with_reducible refine kp_drew ?_ | with_reducible refine kp_drewN ?_ _ | with_reducible exact Keep.refl _ _))) hK1)
    clear hK1
    go_wp2
    exact ⟨rfl, by have := hk1.out; (repeat (first | with_reducible assumption | with_reducible refine kpall15 ?_ (by first | (refine Or.inr ?_; first | (simp; done) | (simp; omega) | omega)) | with_reducible refine kpall9 ?_ (by first | (refine Or.inr ?_; first | (simp; done) | (simp; omega) | omega)) | with_reducible refine kpall6 ?_ (by first | (refine Or.inr ?_; first | (simp; done) | (simp; omega) | omega)) | with_reducible refine kp_set ?_ (by first | (refine Or.inl ?_; simp; done) | (refine Or.inr ?_; first | (simp; done) | (simp; omega) | omega)) _ | with_reducible refine kp_alloc ?_ _ | with_reducible refine kp_drew ?_ | with_reducible refine kp_drewN ?_ _ | with_reducible exact Keep.refl _ _)), .inr (by rw [show (msgM (dclM L) (stA ms i)).2 = eatM (stA ms i) wMessage by unfold msgM msB msA; simp only [eat_bad hcd, take_bad hcd, memL_bad hcd]]; exact ⟨hcd, rfl⟩)⟩
  have Cr : Blk w1 (w.heap.size) 41 #[.bool false, .string ⟨#[]⟩, .int .i64 0, .int .i64 0, .slice none 0 0, .slice none 0 0, .slice none 0 0, .slice none 0 0, .slice none 0 0] := Blk.keep ((Blk.newAt (by simp)).is (by first | rfl | simp)) hK1 (show w.heap.size ≠ p by omega)
  have hs1 := hK1.size
  try simp at hs1
  have Br := Cr
  clear Cr
  have xr := Br.cellF
  have yr := Br.frz
  have zr : w.heap.size < w1.heap.size := by omega
  have hp1 : p < w1.heap.size := by omega
  have hq1 : w.heap.size ≤ w1.heap.size := by omega
  have hk1 : Hid (Keep (· ≠ p) w w1) := hid (Keep.trans (by have := hk0.out; (repeat (first | with_reducible assumption | with_reducible refine kpall15 ?_ (by first | (refine Or.inr ?_; first | (simp; done) | (simp; omega) | omega)) | with_reducible refine kpall9 ?_ (by first | (refine Or.inr ?_; first | (simp; done) | (simp; omega) | omega)) | with_reducible refine kpall6 ?_ (by first | (refine Or.inr ?_; first | (simp; done) | (simp; omega) | omega)) | with_reducible refine kp_set ?_ (by first | (refine Or.inl ?_; simp; done) | (refine Or.inr ?_; first | (simp; done) | (simp; omega) | omega)) _ | with_reducible refine kp_alloc ?_ _ | with_reducible refine kp_drew ?_ | with_reducible refine kp_drewN ?_ _ | with_reducible exact Keep.refl _ _))) hK1)
  clear hK1
  go_wp2_with fail
  refine (takeW w0 b off cap ms p _ j1 1 (by decide) (by have := HR1.out; (repeat (first | with_reducible assumption | with_reducible refine prall15 ?_ (by first | (simp; done) | (simp; omega) | omega) | with_reducible refine prall9 ?_ (by first | (simp; done) | (simp; omega) | omega) | with_reducible refine prall6 ?_ (by first | (simp; done) | (simp; omega) | omega) | with_reducible refine PR.set ?_ (by first | (simp; done) | (simp; omega) | omega) _ | with_reducible refine PR.alloc ?_ _ | with_reducible refine PR.drew ?_)))).mono ?_
  rintro e w2 ⟨hK2, (⟨j2, m1, sa, sc, he2, hm1, rfl, hr1, ho1, HR2⟩ | ⟨hcd, rfl⟩)⟩
  case inr =>
    have hk2 : Hid (Keep (· ≠ p) w w2) := hid (Keep.trans (by have := hk1.out; (repeat (first | with_reducible assumption | with_reducible refine kpall15 ?_ (by first | (refine Or.inr ?_; first | (simp; done) | (simp; omega) | omega)) | with_reducible refine kpall9 ?_ (by first | (refine Or.inr ?_; first | (simp; done) | (simp; omega) | omega)) | with_reducible refine kpall6 ?_ (by first | (refine Or.inr ?_; first | (simp; done) | (simp; omega) | omega)) | with_reducible refine kp_set ?_ (by first | (refine Or.inl ?_; simp; done) | (refine Or.inr ?_; first | (simp; done) | (simp; omega) | omega)) _ | with_reducible refine kp_alloc ?_ _ | with_reducible refine kp_drew ?_ | with_reducible refine kp_drewN ?_ _ | with_reducible exact Keep.refl _ _))) hK2)
    clear hK2
    go_wp2
    exact ⟨rfl, by have := hk2.out; (repeat (first | with_reducible assumption | with_reducible refine kpall15 ?_ (by first | (refine Or.inr ?_; first | (simp; done) | (simp; omega) | omega)) | with_reducible refine kpall9 ?_ (by first | (refine Or.inr ?_; first | (simp; done) | (simp; omega) | omega)) | with_reducible refine kpall6 ?_ (by first | (refine Or.inr ?_; first | (simp; done) | (simp; omega) | omega)) | with_reducible refine kp_set ?_ (by first | (refine Or.inl ?_; simp; done) | (refine Or.inr ?_; first | (simp; done) | (simp; omega) | omega)) _ | with_reducible refine kp_alloc ?_ _ | with_reducible refine kp_drew ?_ | with_reducible refine kp_drewN ?_ _ | with_reducible exact Keep.refl _ _)), .inr (by rw [show (msgM (dclM L) (stA ms i)).2 = (takeM (stA ms j1) 1).2 by unfold msgM msB msA; rw [he1.out]; simp only [eat_bad hcd, memL_bad hcd]]; exact ⟨hcd, rfl⟩)⟩
  have Cr : Blk w2 (w.heap.size) 41 #[.bool false, .string ⟨#[]⟩, .int .i64 0, .int .i64 0, .slice none 0 0, .slice none 0 0, .slice none 0 0, .slice none 0 0, .slice none 0 0] := Blk.keep (Br.is (by first | rfl | simp)) hK2 (show w.heap.size ≠ p by omega)
  clear Br xr yr
  have hs2 := hK2.size
  try simp at hs2
  have Br := Cr
  clear Cr
  have xr := Br.cellF
  have yr := Br.frz
  replace zr : w.heap.size < w2.heap.size := by omega
  have hp2 : p < w2.heap.size := by omega
  have hq2 : w.heap.size ≤ w2.heap.size := by omega
  have hk2 : Hid (Keep (· ≠ p) w w2) := hid (Keep.trans (by have := hk1.out; (repeat (first | with_reducible assumption | with_reducible refine kpall15 ?_ (by first | (refine Or.inr ?_; first | (simp; done) | (simp; omega) | omega)) | with_reducible refine kpall9 ?_ (by first | (refine Or.inr ?_; first | (simp; done) | (simp; omega) | omega)) | with_reducible refine kpall6 ?_ (by first | (refine Or.inr ?_; first | (simp; done) | (simp; omega) | omega)) | with_reducible refine kp_set ?_ (by first | (refine Or.inl ?_; simp; done) | (refine Or.inr ?_; first | (simp; done) | (simp; omega) | omega)) _ | with_reducible refine kp_alloc ?_ _ | with_reducible refine kp_drew ?_ | with_reducible refine kp_drewN ?_ _ | with_reducible exact Keep.refl _ _))) hK2)
  clear hK2
  have HEA : Hid (msA (stA ms i) = (m1, stA ms j2)) := hid (by unfold msA; rw [he1.out, hm1.out, ← he2.out])
  go_upto_region 5 with fail
  go_cut [6] from 15 to 19 (fun s4 wc => ∃ Q, s4 = .pointer (some ⟨Q, 0, none⟩) ∧ Hid (PR w0 b off cap ms p wc j2) ∧ Hid (Keep (· ≠ p) w wc) ∧ Hid (w.heap.size < Q ∧ Q < wc.heap.size) ∧ Hid (Blk wc Q 41 #[.bool false, .string (strOfNums m1.s), .int .i64 m1.line, .int .i64 m1.col, .slice none 0 0, .slice none 0 0, .slice none 0 0, .slice none 0 0, .slice none 0 0]) ∧ Hid (Blk wc (w.heap.size) 41 #[.bool false, .string ⟨#[]⟩, .int .i64 0, .int .i64 0, .slice none 0 0, .slice none 0 0, .slice none 0 0, .slice none 0 0, .slice none 0 0]))
  case first =>
    have Bm : Blk (w2.alloc (.cells #[.int .i64 m1.kind, .string (strOfNums m1.s), .int .u64 m1.n, .slice sa m1.b.length sc, .int .i64 m1.line, .int .i64 m1.col] 85)) w2.heap.size 85 #[.int .i64 m1.kind, .string (strOfNums m1.s), .int .u64 m1.n, .slice sa m1.b.length sc, .int .i64 m1.line, .int .i64 m1.col] := Blk.newAt rfl
    have Bq : Blk (w2.alloc (.cells #[.int .i64 m1.kind, .string (strOfNums m1.s), .int .u64 m1.n, .slice sa m1.b.length sc, .int .i64 m1.line, .int .i64 m1.col] 85)) w.heap.size 41 #[.bool false, .string ⟨#[]⟩, .int .i64 0, .int .i64 0, .slice none 0 0, .slice none 0 0, .slice none 0 0, .slice none 0 0, .slice none 0 0] := Br.kept (below_alloc _)
    have HRm : Hid (PR w0 b off cap ms p (w2.alloc (.cells #[.int .i64 m1.kind, .string (strOfNums m1.s), .int .u64 m1.n, .slice sa m1.b.length sc, .int .i64 m1.line, .int .i64 m1.col] 85)) j2) := hid (HR2.out.alloc _)
    have hkm : Hid (Keep (· ≠ p) w (w2.alloc (.cells #[.int .i64 m1.kind, .string (strOfNums m1.s), .int .u64 m1.n, .slice sa m1.b.length sc, .int .i64 m1.line, .int .i64 m1.col] 85))) := hid (kp_alloc hk2.out _)
    have zmm : w2.heap.size < (w2.alloc (.cells #[.int .i64 m1.kind, .string (strOfNums m1.s), .int .u64 m1.n, .slice sa m1.b.length sc, .int .i64 m1.line, .int .i64 m1.col] 85)).heap.size := by simp
    generalize w2.alloc (.cells #[.int .i64 m1.kind, .string (strOfNums m1.s), .int .u64 m1.n, .slice sa m1.b.length sc, .int .i64 m1.line, .int .i64 m1.col] 85) = wm at *
    have xm := Bm.cellF
    go_region_held3 (fun W => W.cell? ⟨w2.heap.size, 0, none⟩ = some (.int .i64 m1.kind) ∧ W.cell? ⟨w2.heap.size, 1, none⟩ = some (.string (strOfNums m1.s)) ∧ W.cell? ⟨w2.heap.size, 2, none⟩ = some (.int .u64 m1.n) ∧ W.cell? ⟨w2.heap.size, 3, none⟩ = some (.slice sa m1.b.length sc) ∧ W.cell? ⟨w2.heap.size, 4, none⟩ = some (.int .i64 m1.line) ∧ W.cell? ⟨w2.heap.size, 5, none⟩ = some (.int .i64 m1.col)) (first | with_reducible exact blkc6 (blkoth9 Vm.out (show w2.heap.size ≠ wm.heap.size by omega)) | with_reducible exact blkc6 (Vm.out.kept (below_alloc _)) | with_reducible exact blkc6 Vm.out | with_reducible exact blkc6 ((Bm.kept (below_drew1 _)).kept (below_alloc _)) | with_reducible exact blkc6 ((Bm.kept (below_alloc _)).kept (below_drew1 _)) | with_reducible exact blkc6 (Bm.kept (below_drew1 _))) (first | (go_at_call 43; refine (placeOfW _ m1 sa sc).mono ?_; rintro e w3 ⟨rfl, hb3⟩; have Vm : Hid (Blk w3 w2.heap.size 85 #[.int .i64 m1.kind, .string (strOfNums m1.s), .int .u64 m1.n, .slice sa m1.b.length sc, .int .i64 m1.line, .int .i64 m1.col]) := hid (Blk.kept (by first | exact Bm.kept (below_drew1 _) | exact (Bm.kept (below_drew1 _)).kept (below_alloc _) | exact (Bm.kept (below_alloc _)).kept (below_drew1 _)) hb3); have Vr : Hid (Blk w3 w.heap.size 41 #[.bool false, .string ⟨#[]⟩, .int .i64 0, .int .i64 0, .slice none 0 0, .slice none 0 0, .slice none 0 0, .slice none 0 0, .slice none 0 0]) := hid (Blk.kept (by first | exact Bq.kept (below_drew1 _) | exact (Bq.kept (below_drew1 _)).kept (below_alloc _) | exact (Bq.kept (below_alloc _)).kept (below_drew1 _)) hb3); (try have Vq : Hid (Blk w3 wm.heap.size 41 #[.bool false, .string ⟨#[]⟩, .int .i64 0, .int .i64 0, .slice none 0 0, .slice none 0 0, .slice none 0 0, .slice none 0 0, .slice none 0 0]) := hid (Blk.kept (by first | exact Blk.newAt (w := wm.drew) rfl | exact (Blk.newAt (w := wm) rfl).kept (below_drew1 _)) hb3)); (try have xq := Vq.out.cellF); (try have yq := Vq.out.frz); have HR3 : Hid (PR w0 b off cap ms p w3 j2) := hid (PR.kept (by have := HRm.out; (repeat (first | with_reducible assumption | with_reducible refine prall15 ?_ (by first | (simp; done) | (simp; omega) | omega) | with_reducible refine prall9 ?_ (by first | (simp; done) | (simp; omega) | omega) | with_reducible refine prall6 ?_ (by first | (simp; done) | (simp; omega) | omega) | with_reducible refine PR.set ?_ (by first | (simp; done) | (simp; omega) | omega) _ | with_reducible refine PR.alloc ?_ _ | with_reducible refine PR.drew ?_))) hb3); have hk3 : Hid (Keep (· ≠ p) w w3) := hid (Keep.trans (by have := hkm.out; (repeat (first | with_reducible assumption | with_reducible refine kpall15 ?_ (by first | (refine Or.inr ?_; first | (simp; done) | (simp; omega) | omega)) | with_reducible refine kpall9 ?_ (by first | (refine Or.inr ?_; first | (simp; done) | (simp; omega) | omega)) | with_reducible refine kpall6 ?_ (by first | (refine Or.inr ?_; first | (simp; done) | (simp; omega) | omega)) | with_reducible refine kp_set ?_ (by first | (refine Or.inl ?_; simp; done) | (refine Or.inr ?_; first | (simp; done) | (simp; omega) | omega)) _ | with_reducible refine kp_alloc ?_ _ | with_reducible refine kp_drew ?_ | with_reducible refine kp_drewN ?_ _ | with_reducible exact Keep.refl _ _))) (Keep.ofBelow hb3)); have hs3 := hb3.size; (try simp at hs3); clear hb3))
    · go_wp2_with fail
      go_meet
      (exact ⟨w3.heap.size, rfl, hid (by have := HR3.out; (repeat (first | with_reducible assumption | with_reducible refine prall15 ?_ (by first | (simp; done) | (simp; omega) | omega) | with_reducible refine prall9 ?_ (by first | (simp; done) | (simp; omega) | omega) | with_reducible refine prall6 ?_ (by first | (simp; done) | (simp; omega) | omega) | with_reducible refine PR.set ?_ (by first | (simp; done) | (simp; omega) | omega) _ | with_reducible refine PR.alloc ?_ _ | with_reducible refine PR.drew ?_))), hid (by have := hk3.out; (repeat (first | with_reducible assumption | with_reducible refine kpall15 ?_ (by first | (refine Or.inr ?_; first | (simp; done) | (simp; omega) | omega)) | with_reducible refine kpall9 ?_ (by first | (refine Or.inr ?_; first | (simp; done) | (simp; omega) | omega)) | with_reducible refine kpall6 ?_ (by first | (refine Or.inr ?_; first | (simp; done) | (simp; omega) | omega)) | with_reducible refine kp_set ?_ (by first | (refine Or.inl ?_; simp; done) | (refine Or.inr ?_; first | (simp; done) | (simp; omega) | omega)) _ | with_reducible refine kp_alloc ?_ _ | with_reducible refine kp_drew ?_ | with_reducible refine kp_drewN ?_ _ | with_reducible exact Keep.refl _ _))), hid ⟨by omega, by first | (simp; done) | (simp; omega) | omega⟩, hid (Blk.newAt rfl), hid (Vr.out.kept (below_alloc _))⟩)
    · go_wp2_with fail
      go_meet
      (exact ⟨wm.heap.size, rfl, hid (by have := HR3.out; (repeat (first | with_reducible assumption | with_reducible refine prall15 ?_ (by first | (simp; done) | (simp; omega) | omega) | with_reducible refine prall9 ?_ (by first | (simp; done) | (simp; omega) | omega) | with_reducible refine prall6 ?_ (by first | (simp; done) | (simp; omega) | omega) | with_reducible refine PR.set ?_ (by first | (simp; done) | (simp; omega) | omega) _ | with_reducible refine PR.alloc ?_ _ | with_reducible refine PR.drew ?_))), hid (by have := hk3.out; (repeat (first | with_reducible assumption | with_reducible refine kpall15 ?_ (by first | (refine Or.inr ?_; first | (simp; done) | (simp; omega) | omega)) | with_reducible refine kpall9 ?_ (by first | (refine Or.inr ?_; first | (simp; done) | (simp; omega) | omega)) | with_reducible refine kpall6 ?_ (by first | (refine Or.inr ?_; first | (simp; done) | (simp; omega) | omega)) | with_reducible refine kp_set ?_ (by first | (refine Or.inl ?_; simp; done) | (refine Or.inr ?_; first | (simp; done) | (simp; omega) | omega)) _ | with_reducible refine kp_alloc ?_ _ | with_reducible refine kp_drew ?_ | with_reducible refine kp_drewN ?_ _ | with_reducible exact Keep.refl _ _))), hid ⟨by omega, by first | (simp; done) | (simp; omega) | omega⟩, hid (blkall9 Vq.out), hid (blkoth9 Vr.out (show w.heap.size ≠ wm.heap.size by omega))⟩)
  case rest =>
    obtain ⟨Q, rfl, HR0, hk0, hQ, BQ, BR⟩ := hcut
    have hQ1 := hQ.out.1
    have hQ2 := hQ.out.2
    clear Br xr yr zr
    have Br := BR.out
    have Bq := BQ.out
    have xr := Br.cellF
    have yr := Br.frz
    have zr : w.heap.size < wc.heap.size := by omega
    have xq := Bq.cellF
    have yq := Bq.frz
    have zq : Q < wc.heap.size := by omega
    go_wp2_with fail
    refine (skipW w0 b off cap ms p _ j2 ⟨#[123]⟩ [123] rfl plain_lc (by have := HR0.out; (repeat (first | with_reducible assumption | with_reducible refine prall15 ?_ (by first | (simp; done) | (simp; omega) | omega) | with_reducible refine prall9 ?_ (by first | (simp; done) | (simp; omega) | omega) | with_reducible refine prall6 ?_ (by first | (simp; done) | (simp; omega) | omega) | with_reducible refine PR.set ?_ (by first | (simp; done) | (simp; omega) | omega) _ | with_reducible refine PR.alloc ?_ _ | with_reducible refine PR.drew ?_)))).mono ?_
    rintro e v1 ⟨hK1, (⟨j3, ua3, uc3, he3, rfl, HR1⟩ | ⟨hcd, rfl⟩)⟩
    case inr =>
      have hk1 : Hid (Keep (· ≠ p) w v1) := hid (Keep.trans (by have := hk0.out; (repeat (first | with_reducible assumption | with_reducible refine kpall15 ?_ (by first | (refine Or.inr ?_; first | (simp; done) | (simp; omega) | omega)) | with_reducible refine kpall9 ?_ (by first | (refine Or.inr ?_; first | (simp; done) | (simp; omega) | omega)) | with_reducible refine kpall6 ?_ (by first | (refine Or.inr ?_; first | (simp; done) | (simp; omega) | omega)) | with_reducible refine kp_set ?_ (by first | (refine Or.inl ?_; simp; done) | (refine Or.inr ?_; first | (simp; done) | (simp; omega) | omega)) _ | with_reducible refine kp_alloc ?_ _ | with_reducible refine kp_drew ?_ | with_reducible refine kp_drewN ?_ _ | with_reducible exact Keep.refl _ _))) hK1)
      clear hK1
      go_wp2
      exact ⟨rfl, by have := hk1.out; (repeat (first | with_reducible assumption | with_reducible refine kpall15 ?_ (by first | (refine Or.inr ?_; first | (simp; done) | (simp; omega) | omega)) | with_reducible refine kpall9 ?_ (by first | (refine Or.inr ?_; first | (simp; done) | (simp; omega) | omega)) | with_reducible refine kpall6 ?_ (by first | (refine Or.inr ?_; first | (simp; done) | (simp; omega) | omega)) | with_reducible refine kp_set ?_ (by first | (refine Or.inl ?_; simp; done) | (refine Or.inr ?_; first | (simp; done) | (simp; omega) | omega)) _ | with_reducible refine kp_alloc ?_ _ | with_reducible refine kp_drew ?_ | with_reducible refine kp_drewN ?_ _ | with_reducible exact Keep.refl _ _)), .inr (by rw [show (msgM (dclM L) (stA ms i)).2 = eatM (stA ms j2) [123] by unfold msgM msB; rw [HEA.out]; simp only [eat_bad hcd, memL_bad hcd]]; exact ⟨hcd, rfl⟩)⟩
    have Cr : Blk v1 (w.heap.size) 41 #[.bool false, .string ⟨#[]⟩, .int .i64 0, .int .i64 0, .slice none 0 0, .slice none 0 0, .slice none 0 0, .slice none 0 0, .slice none 0 0] := Blk.keep (Br.is (by first | rfl | simp)) hK1 (show w.heap.size ≠ p by omega)
    have Cq : Blk v1 (Q) 41 #[.bool false, .string (strOfNums m1.s), .int .i64 m1.line, .int .i64 m1.col, .slice none 0 0, .slice none 0 0, .slice none 0 0, .slice none 0 0, .slice none 0 0] := Blk.keep (Bq.is (by first | rfl | simp)) hK1 (show Q ≠ p by omega)
    clear Br xr yr Bq xq yq
    have hs1 := hK1.size
    try simp at hs1
    have Br := Cr
    clear Cr
    have xr := Br.cellF
    have yr := Br.frz
    replace zr : w.heap.size < v1.heap.size := by omega
    have Bq := Cq
    clear Cq
    have xq := Bq.cellF
    have yq := Bq.frz
    replace zq : Q < v1.heap.size := by omega
    have hp1 : p < v1.heap.size := by omega
    have hq1 : w.heap.size ≤ v1.heap.size := by omega
    have hk1 : Hid (Keep (· ≠ p) w v1) := hid (Keep.trans (by have := hk0.out; (repeat (first | with_reducible assumption | with_reducible refine kpall15 ?_ (by first | (refine Or.inr ?_; first | (simp; done) | (simp; omega) | omega)) | with_reducible refine kpall9 ?_ (by first | (refine Or.inr ?_; first | (simp; done) | (simp; omega) | omega)) | with_reducible refine kpall6 ?_ (by first | (refine Or.inr ?_; first | (simp; done) | (simp; omega) | omega)) | with_reducible refine kp_set ?_ (by first | (refine Or.inl ?_; simp; done) | (refine Or.inr ?_; first | (simp; done) | (simp; omega) | omega)) _ | with_reducible refine kp_alloc ?_ _ | with_reducible refine kp_drew ?_ | with_reducible refine kp_drewN ?_ _ | with_reducible exact Keep.refl _ _))) hK1)
    clear hK1
    have HEM : Hid ((msgM (dclM L) (stA ms i)) = ((memL (dclM L) (⟨false, m1.s, atM m1, [], [], [], [], []⟩, stA ms j3)).1, eatM (memL (dclM L) (⟨false, m1.s, atM m1, [], [], [], [], []⟩, stA ms j3)).2 [125])) := hid (by unfold msgM msB; rw [HEA.out]; simp only []; rw [he3.out])
    have HD0 : Hid (DI w0 b off cap ms p v1 (w.heap.size + 1) Q (L + 1) v1 j3 ⟨⟨false, m1.s, atM m1, [], [], [], [], []⟩, .slice none 0 0, .slice none 0 0, .slice none 0 0, .slice none 0 0, .slice none 0 0⟩) := hid ⟨HR1.out, Keep.refl _ _, Bq, OwnD.nil _ _ _ _ _ _ _ _ _ (fun k hk => by subst hk; omega) _ _ _, by omega, by omega⟩
    have HRB := hid Br
    have zr1 := zr
    clear Br xr yr zr Bq xq yq zq
    go_wp2
    go_loopw [] (fun wr => ∃ j x, Hid (memL (dclM L) (⟨false, m1.s, atM m1, [], [], [], [], []⟩, stA ms j3) = memL (dclM L) (x.d, stA ms j)) ∧ Hid (DI w0 b off cap ms p v1 (w.heap.size + 1) Q (L + 1) wr j x) ∧ Hid (tot x.d + 3 * muM (stA ms j) ≤ 300000)) (fun wr => ms.length - ixW wr p)
    case atStart => exact ⟨j3, ⟨⟨false, m1.s, atM m1, [], [], [], [], []⟩, .slice none 0 0, .slice none 0 0, .slice none 0 0, .slice none 0 0, .slice none 0 0⟩, hid rfl, HD0, hid (by have := mu_st ms j3 HML.out; unfold tot; simp; omega)⟩
    case round =>
      clear HD0 HR1
      obtain ⟨j, x, hrl, HI, htot⟩ := hrel
      have hm0 := HI.out.pr.ix
      cases hi : isM (stA ms j) [125] with
      | false =>
        have HSG := hid (memL_go (L := L) (d := x.d) (s := stA ms j) rfl hi)
        have HDEC : Hid (muM (memM (dclM L) (x.d, stA ms j)).2 < muM (stA ms j)) := hid (mem_dec (x := (x.d, stA ms j)) (fun s hs => mu_dcl_lt L hs) rfl)
        have HTOT : Hid (tot (memM (dclM L) (x.d, stA ms j)).1 + 3 * muM (memM (dclM L) (x.d, stA ms j)).2 ≤ tot x.d + 3 * muM (stA ms j)) := hid (mem_tot (x := (x.d, stA ms j)) (fun s hs => mu_dcl_lt L hs) rfl)
        go_wp2_with fail
        refine (isNextW w0 b off cap ms p _ j ⟨#[125]⟩ [125] rfl plain_rc HI.out.pr).mono ?_
        rintro e x1 ⟨rfl, hb1⟩
        rw [hi]
        have HI1 := hid (HI.out.kept hb1)
        clear hb1
        go_wp2_with fail
        refine (memberW w0 b off cap ms p _ j (w.heap.size + 1) Q L x ar HMM.out HAR.out har0 HML.out htot.out HI1.out.here).mono ?_
        rintro e x2 (⟨j2x, y, hy1, hy2, rfl, h3⟩ | ⟨⟨hcd, rfl⟩, hK⟩)
        · have HI2 := hid (h3.out.since HI1.out.fr)
          clear h3
          go_wp2
          exact ⟨⟨j2x, y, hid (by rw [hrl.out, HSG.out, hy2.out, ← hy1.out]), HI2, hid (by
            have h1 := htot.out
            have h2 := HTOT.out
            rw [← hy2.out, hy1.out] at h2
            omega)⟩, by
            have h1 := HDEC.out
            rw [hy1.out] at h1
            have h2 := stA_mu HI.out.pr.lt HI2.out.pr.lt h1
            have h3 := HI2.out.pr.lt
            rw [hm0, HI2.out.pr.ix]
            omega⟩
        · have hk2 := hid (HI1.out.fr.trans hK)
          clear hK
          go_wp2
          exact ⟨rfl, keep_then hk1.out hk2.out (by omega), .inr (by rw [HEM.out]; simp only []; rw [hrl.out, HSG.out]; rw [show memM (dclM L) (x.d, stA ms j) = ((memM (dclM L) (x.d, stA ms j)).1, (memM (dclM L) (x.d, stA ms j)).2) from rfl, memL_bad hcd]; simp only [eat_bad hcd]; exact ⟨hcd, rfl⟩)⟩
      | true =>
        have HSG := hid (memL_stop (L := L) (d := x.d) hi)
        go_wp2_with fail
        refine (isNextW w0 b off cap ms p _ j ⟨#[125]⟩ [125] rfl plain_rc HI.out.pr).mono ?_
        rintro e x1 ⟨rfl, hb1⟩
        rw [hi]
        have HI1 := hid (HI.out.kept hb1)
        clear hb1
        go_wp2_with fail
        refine (skipW w0 b off cap ms p _ j ⟨#[125]⟩ [125] rfl plain_rc HI1.out.pr).mono ?_
        rintro e x2 ⟨hK2, (⟨j2x, ta, tc, hy1, rfl, HR2⟩ | ⟨hcd, rfl⟩)⟩
        case inr =>
          have hk2 := hid (HI1.out.frame hK2)
          clear hK2
          go_wp2
          exact ⟨rfl, keep_then hk1.out hk2.out (by omega), .inr (by rw [HEM.out]; simp only []; rw [hrl.out, HSG.out]; exact ⟨hcd, rfl⟩)⟩
        have HI2 := hid (HI1.out.reader hK2 HR2.out)
        clear hK2
        have hk2 := hid (keep_then hk1.out HI2.out.fr (by omega))
        have BR2 : Blk x2 w.heap.size 41 #[.bool false, .string ⟨#[]⟩, .int .i64 0, .int .i64 0, .slice none 0 0, .slice none 0 0, .slice none 0 0, .slice none 0 0, .slice none 0 0] := HRB.out.keep HI2.out.fr ⟨by omega, by omega⟩
        obtain ⟨xd, xf, xo, xdd, xr', xs⟩ := x
        try dsimp only at HI2
        obtain ⟨fa, fc, rfl⟩ : ∃ fa fc, xf = .slice fa xd.fields.length fc := own_shape HI2.out.own.f
        obtain ⟨oa, oc, rfl⟩ : ∃ oa oc, xo = .slice oa xd.oneofs.length oc := own_shape HI2.out.own.o
        obtain ⟨ra, rc, rfl⟩ : ∃ ra rc, xr' = .slice ra xd.res.length rc := own_shape HI2.out.own.r
        obtain ⟨ya, yc, rfl⟩ : ∃ ya yc, xs = .slice ya xd.syms.length yc := own_shape HI2.out.own.s
        obtain ⟨Z, dvs, ee, hd0, _⟩ := HI2.out.own.dd
        try dsimp only at hd0
        obtain ⟨da, dc, rfl⟩ : ∃ da dc, xdd = .slice da dvs.length dc := own_shape hd0
        clear ee hd0
        have xq := HI2.out.blk.cellF
        try dsimp only at xq
        have yq := HI2.out.blk.frz
        have zq := HI2.out.blk.lt
        have xr := BR2.cellF
        have yr := BR2.frz
        have zr := BR2.lt
        go_wp2
        exact bodyPost_ret (v := .agg #[.bool xd.enum, .string (strOfNums xd.name), .int .i64 xd.at1.1, .int .i64 xd.at1.2, .slice fa xd.fields.length fc, .slice oa xd.oneofs.length oc, .slice da dvs.length dc, .slice ra xd.res.length rc, .slice ya xd.syms.length yc]) (by simp [results, Tryd.results28, go_sem, xr, xq, zr]) rfl ⟨by have := hk2.out; (repeat (first | with_reducible assumption | with_reducible refine kpall15 ?_ (by first | (refine Or.inr ?_; first | (simp; done) | (simp; omega) | omega)) | with_reducible refine kpall9 ?_ (by first | (refine Or.inr ?_; first | (simp; done) | (simp; omega) | omega)) | with_reducible refine kpall6 ?_ (by first | (refine Or.inr ?_; first | (simp; done) | (simp; omega) | omega)) | with_reducible refine kp_set ?_ (by first | (refine Or.inl ?_; simp; done) | (refine Or.inr ?_; first | (simp; done) | (simp; omega) | omega)) _ | with_reducible refine kp_alloc ?_ _ | with_reducible refine kp_drew ?_ | with_reducible refine kp_drewN ?_ _ | with_reducible exact Keep.refl _ _)), .inl ⟨j2x, ⟨xd, .slice fa xd.fields.length fc, .slice oa xd.oneofs.length oc, .slice da dvs.length dc, .slice ra xd.res.length rc, .slice ya xd.syms.length yc⟩, hid (by rw [HEM.out]; simp only []; rw [hrl.out, HSG.out]; exact hy1.out), hid (by rw [HEM.out]; simp only []; rw [hrl.out, HSG.out]), rfl, hid (RD.weak (fun k hk => ⟨by omega, by have := hk.2; simp; omega⟩) _ _ (RD.keep (f := (· ≠ w.heap.size)) (by (repeat (first | with_reducible assumption | with_reducible refine kpall15 ?_ (by first | (refine Or.inr ?_; first | (simp; done) | (simp; omega) | omega)) | with_reducible refine kpall9 ?_ (by first | (refine Or.inr ?_; first | (simp; done) | (simp; omega) | omega)) | with_reducible refine kpall6 ?_ (by first | (refine Or.inr ?_; first | (simp; done) | (simp; omega) | omega)) | with_reducible refine kp_set ?_ (by first | (refine Or.inl ?_; simp; done) | (refine Or.inr ?_; first | (simp; done) | (simp; omega) | omega)) _ | with_reducible refine kp_alloc ?_ _ | with_reducible refine kp_drew ?_ | with_reducible refine kp_drewN ?_ _ | with_reducible exact Keep.refl _ _))) (fun k hk (e : k = w.heap.size) => by omega) _ _ HI2.out.own.rd)), hid (by have := HI2.out.pr; (repeat (first | with_reducible assumption | with_reducible refine prall15 ?_ (by first | (simp; done) | (simp; omega) | omega) | with_reducible refine prall9 ?_ (by first | (simp; done) | (simp; omega) | omega) | with_reducible refine prall6 ?_ (by first | (simp; done) | (simp; omega) | omega) | with_reducible refine PR.set ?_ (by first | (simp; done) | (simp; omega) | omega) _ | with_reducible refine PR.alloc ?_ _ | with_reducible refine PR.drew ?_)))⟩⟩
theorem messageW (hml : ms.length ≤ 70000) : ∀ L : Nat, L ≤ 8 → MsgC w0 b off cap ms p L := by
  intro L
  induction L with
  | zero =>
    intro _ ar W i har hi h
    have : ar = 8 := by omega
    subst this
    exact message0 w0 b off cap ms p W i hi h
  | succ L ih =>
    intro hL ar W i har hi h
    rw [dcl_msg hi]
    exact messageS w0 b off cap ms p W i L ar (ih (by omega)) (by omega) (by omega) hml h
end
end Go.Proofs.YtidimdbnnnpplaaDoor
namespace Go.Proofs.YtidimdbnnnpplaaDoor
open Go.RowKit
set_option maxRecDepth 1000000
set_option linter.unusedVariables false
set_option linter.unusedSimpArgs false
set_option maxHeartbeats 8000000

theorem Tryd.infoI : (Tryd.prog.info? 35).map (fun i => (i.zero, i.size, i.bytes)) = some (some zO, 3, 32) := by kernel_rfl
theorem appendI (base : Nat) (v : Value) (l : List MO) (y : MO) (w : World) (h : w.ownsRow base 35 3 v l.length (l.flatMap cO)) (hb : base ≤ w.heap.size) (hn : l.length ≤ 400000) :
    ∃ a c w', (Builtin.append_ #[22, 22] 22 #[v, .slice (some ⟨w.heap.size, 0, none⟩) 1 1]).run Tryd.prog (w.alloc (.cells #[.string (strOfNums y.name), .int .i64 y.at1.1, .int .i64 y.at1.2] 35)) = .ok (.slice a (l.length + 1) c) w' ∧
      w'.ownsRow base 35 3 (.slice a (l.length + 1) c) (l ++ [y]).length ((l ++ [y]).flatMap cO) ∧ Grow w w' v (.slice a (l.length + 1) c) := by
  obtain ⟨v', w', h1, h2, h3⟩ := append_st 35 22 3 32 zO Tryd.underlying22 Tryd.infoI rfl (by decide) (by decide) base v l.length (l.flatMap cO) w #[.string (strOfNums y.name), .int .i64 y.at1.1, .int .i64 y.at1.2] rfl (fun u hu => by simp at hu; rcases hu with rfl | rfl | rfl <;> rfl) h hb hn
  obtain ⟨a, c, rfl⟩ := own_shape h2
  exact ⟨a, c, w', h1, by rw [List.flatMap_append, List.length_append]; exact h2, h3⟩
/-- A file's tree as a declaration's: its imports among the oneofs. -/
def toD (t : MT) : MD := ⟨false, [], (0, 0), [], t.imps.map (fun y => (⟨y.name, y.at1⟩ : MO)), t.decls, [], []⟩
/-- While the program builds a file: the reader, the file's block, its lists. -/
structure FI (w0 : World) (b off cap : Nat) (ms : List Mw) (p : Nat) (w : World) (base pd n : Nat) (wr : World) (j : Nat) (x : DV) : Prop where
  pr : PR w0 b off cap ms p wr j
  fr : Keep (fun k => k ≠ p ∧ k < base) w wr
  blk : Blk wr pd 25 #[x.o, x.dd]
  own : OwnD wr base n 44 35 41 46 112 (· = pd) x
  lo : p < base
  up : base ≤ pd
section
variable {w0 : World} {b off cap : Nat} {ms : List Mw} {p : Nat} {w : World} {base pd n : Nat} {wr w' : World} {j k : Nat} {x : DV}
theorem FI.reader (h : FI w0 b off cap ms p w base pd n wr j x) (K : Keep (· ≠ p) wr w') (R : PR w0 b off cap ms p w' k) : FI w0 b off cap ms p w base pd n w' k x :=
  ⟨R, h.fr.trans (K.weak (fun q hq => hq.1)), h.blk.keep K (by have := h.lo; have := h.up; omega), h.own.keep K (fun q hq _ (e : q = p) => by have := h.lo; omega), h.lo, h.up⟩
theorem FI.kept (h : FI w0 b off cap ms p w base pd n wr j x) (g : Below wr.heap.size wr w') : FI w0 b off cap ms p w base pd n w' j x := h.reader (Keep.ofBelow g) (h.pr.kept g)
theorem FI.frame (h : FI w0 b off cap ms p w base pd n wr j x) (K : Keep (· ≠ p) wr w') : Keep (fun k => k ≠ p ∧ k < base) w w' := h.fr.trans (K.weak (fun q hq => hq.1))
theorem FI.base_le (h : FI w0 b off cap ms p w base pd n wr j x) : base ≤ wr.heap.size := Nat.le_trans h.up (Nat.le_of_lt h.blk.lt)
theorem FI.addI (h : FI w0 b off cap ms p w base pd n wr j x) {v' : Value} {l : List MO} (g : Grow wr w' x.o v') (ho : w'.ownsRow base 35 3 v' l.length (l.flatMap cO)) :
    FI w0 b off cap ms p w base pd n (w'.setCell ⟨pd, 0, none⟩ v') j ⟨{ x.d with oneofs := l }, x.f, v', x.dd, x.r, x.s⟩ := by
  have hb : Blk w' pd 25 #[x.o, x.dd] := h.blk.keep (Keep.ofGrow (f := fun q => x.o.ownBlock ≠ some q) g (fun _ hk => hk)) (fun hk => h.own.me pd (.inr (.inl hk)) rfl)
  have ho' := h.own.addO (by decide) (by decide) (by decide) (by decide) g ho
  have hpr := grow_pr g h.own.o h.lo h.pr
  refine ⟨hpr.set (by have := h.lo; have := h.up; show p < pd; omega) _, ?_, (hb.set 0 _).is (by simp), ho'.keep (f := (· ≠ pd)) (Keep.setCell _ _ _ (by simp)) (fun q _ hq => hq), h.lo, h.up⟩
  exact (h.fr.trans ((grow_keep g h.own.o h.lo).weak (fun q hq => hq.2))).trans (Keep.setCell _ _ _ (fun hq => by have := hq.2; have := h.up; simp at *; omega))
theorem FI.addD (h : FI w0 b off cap ms p w base pd n wr j x) {N : Nat} {y : DV} (hN : base ≤ N) (hm : ∀ k, x.mine k ∨ k = pd → k < N) (hy : RD n wr (fun k => N ≤ k ∧ k < wr.heap.size) y) {v' : Value}
    {Z : Nat → Prop} {dvs : List DV} (e : dvs.map DV.d = x.d.decls) (hd : wr.ownsRow base 41 9 x.dd dvs.length (dvs.flatMap cD)) (hz : ∀ k, Z k → base ≤ k ∧ k < wr.heap.size) (hmz : ∀ k, x.mine k ∨ k = pd → ¬ Z k) (hys : ∀ y ∈ dvs, RD n wr Z y)
    (g : Grow wr w' x.dd v') (ho : w'.ownsRow base 41 9 v' (dvs.length + 1) (dvs.flatMap cD ++ cD y)) :
    FI w0 b off cap ms p w base pd n (w'.setCell ⟨pd, 1, none⟩ v') j ⟨{ x.d with decls := x.d.decls ++ [y.d] }, x.f, x.o, v', x.r, x.s⟩ := by
  have hb : Blk w' pd 25 #[x.o, x.dd] := h.blk.keep (Keep.ofGrow (f := fun q => x.dd.ownBlock ≠ some q) g (fun _ hk => hk)) (fun hk => h.own.me pd (.inr (.inr (.inl hk))) rfl)
  have ho' := h.own.addD (by decide) (by decide) (by decide) (by decide) (Zy := fun k => N ≤ k ∧ k < wr.heap.size) (fun k hk => ⟨by omega, hk.2⟩) (fun k hk hk2 => by have := hm k hk; omega) hy Z e hd hz hmz hys g ho
  have hpr := grow_pr g hd h.lo h.pr
  refine ⟨hpr.set (by have := h.lo; have := h.up; show p < pd; omega) _, ?_, (hb.set 1 _).is (by simp), ho'.keep (f := (· ≠ pd)) (Keep.setCell _ _ _ (by simp)) (fun q _ hq => hq), h.lo, h.up⟩
  exact (h.fr.trans ((grow_keep g hd h.lo).weak (fun q hq => hq.2))).trans (Keep.setCell _ _ _ (fun hq => by have := hq.2; have := h.up; simp at *; omega))
end
end Go.Proofs.YtidimdbnnnpplaaDoor
