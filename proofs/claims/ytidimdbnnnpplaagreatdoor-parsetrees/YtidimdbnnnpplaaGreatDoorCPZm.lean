/-
  The reader of the program parse: a member that is a message.
  The reader of the program parse: a member, over what a message answers.
  The reader of the program parse: a message.
  A file that the program builds, in a block of its own.
  The reader of the program parse: a file.
  What a text is read as; the known texts' trees.
-/
import Derived.Test.YtidimdbnnnpplaaGreatDoorCPX
import Derived.Deep.CutRange
import Derived.Test.YtidimdbnnnpplaaGreatDoorCPKb
import Derived.Test.YtidimdbnnnpplaaGreatDoorCPB
namespace Go.Proofs.YtidimdbnnnpplaaGreatDoor
open Go.RowKit
set_option maxRecDepth 1000000
set_option linter.unusedVariables false
set_option linter.unusedSimpArgs false
set_option maxHeartbeats 8000000
section
variable (w0 : World) (b off cap : Nat) (ms : List Mw) (p : Nat) (w : World) (i : Nat) (base pd : Nat)
theorem memberMsg (L : Nat) (x : DV) (ar : Int) (HM : MsgC w0 b off cap ms p L) (har : ar + 1 + L = 8) (har0 : 0 ≤ ar) (hml : ms.length ≤ 70000) (htot : tot x.d + 3 * muM (stA ms i) ≤ 300000) (hi : isM (stA ms i) wMessage = true) (h : DI w0 b off cap ms p w base pd (L + 1) w i x) : Calls Tryz.prog 102 #[.pointer (some ⟨p, 0, none⟩), .pointer (some ⟨pd, 0, none⟩), .int .i64 ar] w fun e w' => (∃ j x', Hid ((dclM L (stA ms i)).2 = stA ms j) ∧ Hid (x'.d = { x.d with decls := x.d.decls ++ [(dclM L (stA ms i)).1] }) ∧ e = .returned (.tuple #[]) ∧ Hid (DI w0 b off cap ms p w base pd (L + 1) w' j x')) ∨ (Fell (dclM L (stA ms i)).2 e ∧ Keep (fun k => k ≠ p ∧ k < base) w w') := by
  have hpl : p < w.heap.size := h.pr.blk.lt
  have HI0 := hid h
  have HML := hid hml
  have HTT := hid htot
  have HHI := hid hi
  have HMM := hid HM
  have HAR := hid har
  have har1 : ar + 1 ≤ 9223372036854775807 := by omega
  have har2 : -9223372036854775808 ≤ ar + 1 := by omega
  have har3 : IntKind.i64.wrap (ar + 1) = ar + 1 := wrap_small _ (by omega) (by omega)
  clear HM har
  have WBh := WB.of h.pr.okW
  have hms := (is_parts hi).2.2
  have e0 : ((strOfNums (hdM (stA ms i)).s).toList == [109, 101, 115, 115, 97, 103, 101]) = true := by rw [WBh.e0, hms]; decide
  clear hms WBh
  clear h hml htot hi
  obtain ⟨xd, xf, xo, xdd, xr, xs⟩ := x
  dsimp only at *
  have hf := wordF1
  have hlo := HI0.out.lo
  have hup := HI0.out.up
  go_enter Tryz.func102, Tryz.ntmps102
  go_wp2_with fail
  refine (nextW w0 b off cap ms p _ i HI0.out.pr).mono ?_
  rintro e w1 ⟨⟨sa, sc, rfl, hr⟩, hb1⟩
  have HI1 := hid (HI0.out.kept hb1)
  have hs1 := hb1.size
  clear hb1 hr
  obtain ⟨da, dc, dvs, Z, rfl, hzh⟩ := ZH.start HI1.out HTT.out
  have HZH := hid hzh
  have hdl : (dvs.length : Int) ≤ 300000 := by have := hzh.hl; omega
  have hix : (dvs.length : Int) < (dvs.length : Int) + 1 := by omega
  have hix0 : (0 : Int) ≤ (dvs.length : Int) := by omega
  clear hzh
  have xb1 := HI1.out.blk.cellF
  have yb1 := HI1.out.blk.frz
  have zb1 := HI1.out.blk.lt
  go_wp2_with fail
  go_region_law (first | (have hB := Bz; obtain ⟨g, lc, w3, HRUN, HZC⟩ := HZH.out.ahead hK2.out HR2.out hrd.out w1.heap.size Bz.out; refine step_append_ran rfl _ _ 23 23 rfl rfl _ _ (.slice (some ⟨g, 0, none⟩) (dvs.length + 1) lc) w3 rfl rfl HRUN.out ?_; have k0 := HZC.out.k0; have k1 := HZC.out.k1; have k2 := HZC.out.k2; have k3 := HZC.out.k3; have k4 := HZC.out.k4; have k5 := HZC.out.k5; have k6 := HZC.out.k6; have k7 := HZC.out.k7; have k8 := HZC.out.k8; have kf := HZC.out.kf; have xb3 := HZC.out.blk.cellF; have yb3 := HZC.out.blk.frz; have hne := HZC.out.ne; have hne' : pd ≠ g := Ne.symm hne; have hgl := HZC.out.lt; have hpl3 := HZC.out.blk.lt) | (obtain ⟨g, lc, w3, HRUN, HZC⟩ := HZH.out.behind hK2.out HR2.out hrd.out; refine step_append_ran rfl _ _ 23 23 rfl rfl _ _ (.slice (some ⟨g, 0, none⟩) (dvs.length + 1) lc) w3 rfl rfl HRUN.out ?_; have k0 := HZC.out.k0; have k1 := HZC.out.k1; have k2 := HZC.out.k2; have k3 := HZC.out.k3; have k4 := HZC.out.k4; have k5 := HZC.out.k5; have k6 := HZC.out.k6; have k7 := HZC.out.k7; have k8 := HZC.out.k8; have kf := HZC.out.kf; have xb3 := HZC.out.blk.cellF; have yb3 := HZC.out.blk.frz; have hne := HZC.out.ne; have hne' : pd ≠ g := Ne.symm hne; have hgl := HZC.out.lt; have hpl3 := HZC.out.blk.lt) | (go_simp; go_wp2_with (go_at_call 77; refine (HMM.out (ar + 1) _ i HAR.out HHI.out (by have := HI1.out.pr; exact prBy)).mono ?_; rintro e w2 hc; obtain (⟨j2, yd, a1, n1, c1, a2, n2, c2, a3, n3, c3, a4, n4, c4, a5, n5, c5, rfl, hy1, hy2, hKW, hK2, HR2, hrd⟩ | ⟨⟨hcd, rfl⟩, hkf⟩) := HZH.out.call (m := L + 1) (by first | exact Keep.refl _ _ | exact kp_drew (Keep.refl _ _) | exact kp_alloc (Keep.refl _ _) _ | exact kp_drew (kp_alloc (Keep.refl _ _) _) | exact kp_alloc (kp_drew (Keep.refl _ _)) _) (by omega) hc; rotate_left; (exact ⟨rfl, .inr ⟨⟨hcd, rfl⟩, by have := hkf.out; exact kpBy⟩⟩); clear hc; have xb2 := (HZH.out.di.reader hK2.out HR2.out).blk.cellF; have zb2 := (HZH.out.di.reader hK2.out HR2.out).blk.lt; have hs2 := hK2.out.size; (try have Bz : Hid (Blk w2 w1.heap.size 102 #[.bool false, .string ⟨#[]⟩, .int .i64 0, .int .i64 0, .slice none 0 0, .slice none 0 0, .slice none 0 0, .slice none 0 0, .slice none 0 0]) := hid (Blk.keep ((Blk.newAt (w := w1) rfl).kept (below_drew1 _)) hKW.out (show w1.heap.size ≠ p by omega))))))
  all_goals (go_wp2; go_end0; exact .inl ⟨j2, ⟨{ xd with decls := xd.decls ++ [yd] }, xf, xo, _, xr, xs⟩, hy1, hid (by rw [← hy2.out]), rfl, by first | with_reducible exact hid HZC.out.finA | with_reducible exact hid HZC.out.finB⟩)
end
section
variable (w0 : World) (b off cap : Nat) (ms : List Mw) (p : Nat) (w : World) (i : Nat) (base pd : Nat)
theorem memberW (L : Nat) (x : DV) (ar : Int) (HM : MsgC w0 b off cap ms p L) (har : ar + 1 + L = 8) (har0 : 0 ≤ ar) (hml : ms.length ≤ 70000) (htot : tot x.d + 3 * muM (stA ms i) ≤ 300000) (h : DI w0 b off cap ms p w base pd (L + 1) w i x) : Calls Tryz.prog 102 #[.pointer (some ⟨p, 0, none⟩), .pointer (some ⟨pd, 0, none⟩), .int .i64 ar] w fun e w' => (∃ j x', Hid ((memM (dclM L) (x.d, stA ms i)).2 = stA ms j) ∧ Hid (x'.d = (memM (dclM L) (x.d, stA ms i)).1) ∧ e = .returned (.tuple #[]) ∧ Hid (DI w0 b off cap ms p w base pd (L + 1) w' j x')) ∨ (Fell (memM (dclM L) (x.d, stA ms i)).2 e ∧ Keep (fun k => k ≠ p ∧ k < base) w w') := by
  cases h0 : isM (stA ms i) wMessage with
  | true =>
    rw [show memM (dclM L) (x.d, stA ms i) = ({ x.d with decls := x.d.decls ++ [(dclM L (stA ms i)).1] }, (dclM L (stA ms i)).2) by unfold memM; rw [if_pos (.inl h0)]]
    exact memberMsg w0 b off cap ms p w i base pd L x ar HM har har0 hml htot h0 h
  | false =>
  cases h1 : isM (stA ms i) wEnum with
  | true =>
    rw [show memM (dclM L) (x.d, stA ms i) = ({ x.d with decls := x.d.decls ++ [(enmM (stA ms i)).1] }, (enmM (stA ms i)).2) by unfold memM; rw [if_pos (.inr h1), dcl_enum h1]]
    exact memberEnum w0 b off cap ms p w i base pd (L + 1) x ar hml htot h1 (by omega) h
  | false =>
  have hn : ¬ (isM (stA ms i) wMessage = true ∨ isM (stA ms i) wEnum = true) := by rw [h0, h1]; decide
  cases h2 : isM (stA ms i) wOneof with
  | true =>
    rw [show memM (dclM L) (x.d, stA ms i) = oneofM x.d (stA ms i) by unfold memM; rw [if_neg hn, if_pos h2]]
    exact memberOneof w0 b off cap ms p w i base pd (L + 1) x ar hml htot h2 h
  | false =>
  cases h3 : isM (stA ms i) wReserved with
  | true =>
    rw [show memM (dclM L) (x.d, stA ms i) = resM x.d (stA ms i) by unfold memM; rw [if_neg hn, if_neg (by rw [h2]; decide), if_pos h3]]
    exact memberRes w0 b off cap ms p w i base pd (L + 1) x ar hml htot h3 h
  | false =>
  cases h4 : isM (stA ms i) wMap with
  | true =>
    rw [show memM (dclM L) (x.d, stA ms i) = ({ x.d with fields := x.d.fields ++ [(prsM (stA ms i)).1] }, (prsM (stA ms i)).2) by unfold memM; rw [if_neg hn, if_neg (by rw [h2]; decide), if_neg (by rw [h3]; decide), if_pos h4]]
    exact memberMap w0 b off cap ms p w i base pd (L + 1) x ar hml htot h4 h
  | false =>
  cases h5 : isM (stA ms i) wRepeated with
  | true =>
    rw [show memM (dclM L) (x.d, stA ms i) = ({ x.d with fields := x.d.fields ++ [(fB (fZ 2 0 [] (atM (hdM (stA ms i)))) (nxM (stA ms i))).1] }, (fB (fZ 2 0 [] (atM (hdM (stA ms i)))) (nxM (stA ms i))).2) by
      have hl : labM (stA ms i) = 2 := by unfold labM; rw [if_pos h5]
      unfold memM; rw [if_neg hn, if_neg (by rw [h2]; decide), if_neg (by rw [h3]; decide), if_neg (by rw [h4]; decide)]; simp only [hl]; rw [if_neg (by decide), fB_is (by decide)]]
    exact memberRep w0 b off cap ms p w i base pd (L + 1) x ar hml htot h5 h
  | false =>
  cases h6 : isM (stA ms i) wOptional with
  | true =>
    rw [show memM (dclM L) (x.d, stA ms i) = ({ x.d with fields := x.d.fields ++ [(fB (fZ 1 0 [] (atM (hdM (stA ms i)))) (nxM (stA ms i))).1] }, (fB (fZ 1 0 [] (atM (hdM (stA ms i)))) (nxM (stA ms i))).2) by
      have hl : labM (stA ms i) = 1 := by unfold labM; rw [if_neg (by rw [h5]; decide), if_pos h6]
      unfold memM; rw [if_neg hn, if_neg (by rw [h2]; decide), if_neg (by rw [h3]; decide), if_neg (by rw [h4]; decide)]; simp only [hl]; rw [if_neg (by decide), fB_is (by decide)]]
    exact memberOpt w0 b off cap ms p w i base pd (L + 1) x ar hml htot h6 h
  | false =>
    rw [show memM (dclM L) (x.d, stA ms i) = ({ x.d with fields := x.d.fields ++ [(fB (fZ 0 0 [] (0, 0)) (stA ms i)).1] }, (fB (fZ 0 0 [] (0, 0)) (stA ms i)).2) by
      have hl : labM (stA ms i) = 0 := by unfold labM; rw [if_neg (by rw [h5]; decide), if_neg (by rw [h6]; decide)]
      unfold memM; rw [if_neg hn, if_neg (by rw [h2]; decide), if_neg (by rw [h3]; decide), if_neg (by rw [h4]; decide), if_pos hl, fB_is (by decide)]]
    exact memberFld w0 b off cap ms p w i base pd (L + 1) x ar hml htot ⟨h0, h1, h2, h3, h6, h5, h4⟩ h
end
theorem keep_then {w v u : World} {p N : Nat} (h : Keep (· ≠ p) w v) (g : Keep (fun k => k ≠ p ∧ k < N) v u) (hN : w.heap.size ≤ N) : Keep (· ≠ p) w u :=
  ⟨g.os.trans h.os, g.tape.trans h.tape, g.output.trans h.output, Nat.le_trans h.size g.size, fun q hq hf => by rw [g.block q (Nat.lt_of_lt_of_le hq h.size) ⟨hf, by omega⟩, h.block q hq hf]⟩
theorem memL_go {L : Nat} {d : MD} {s : PS} (h0 : s.cd = 0) (h : isM s [125] = false) : memL (dclM L) (d, s) = memL (dclM L) (memM (dclM L) (d, s)) := by
  unfold memL
  exact whM_go (p := fun x : MD × PS => x.2) (x := (d, s)) (fun x hx => mem_dec (fun s hs => mu_dcl_lt L hs) (endC_cd hx).1) (by unfold endC; simp [h0, h])
theorem memL_stop {L : Nat} {d : MD} {s : PS} (h : isM s [125] = true) : memL (dclM L) (d, s) = (d, s) := by
  unfold memL
  exact whM_stop (by unfold endC; simp [h])
section
variable (w0 : World) (b off cap : Nat) (ms : List Mw) (p : Nat) (w : World) (i : Nat)
theorem message0 (hi : isM (stA ms i) wMessage = true) (h : PR w0 b off cap ms p w i) : Calls Tryz.prog 77 #[.pointer (some ⟨p, 0, none⟩), .int .i64 8] w (DeclP w0 b off cap ms p 1 (dclM 0 (stA ms i)) w) := by
  have HD : Hid (dclM 0 (stA ms i) = (zD, badM (stA ms i) 17)) := hid (by unfold dclM; rw [if_neg (by rw [is_other hi (by decide)]; decide)])
  clear hi
  unfold DeclP
  have hk0 : Hid (Keep (· ≠ p) w w) := hid (Keep.refl _ _)
  have hpl : p < w.heap.size := h.blk.lt
  have HR0 := hid h
  clear h
  go_enter Tryz.func77, Tryz.ntmps77
  go_wp2_with fail
  refine (giveUpW w0 b off cap ms p _ i 17 (by have := HR0.out; exact prBy)).mono ?_
  rintro e w1 ⟨rfl, hb1⟩
  have hk1 : Hid (Keep (· ≠ p) w w1) := hid (Keep.trans (by have := hk0.out; exact kpBy) (Keep.ofBelow hb1))
  clear hb1
  go_wp2
  exact ⟨rfl, by have := hk1.out; exact kpBy, .inr (by rw [HD.out]; exact ⟨bad_cd (by decide), by unfold badM; rw [if_pos (show (stA ms i).cd = 0 from rfl)]⟩)⟩
theorem messageS (L : Nat) (ar : Int) (HM : MsgC w0 b off cap ms p L) (har : ar + 1 + L = 8) (har0 : 0 ≤ ar) (hml : ms.length ≤ 70000) (h : PR w0 b off cap ms p w i) : Calls Tryz.prog 77 #[.pointer (some ⟨p, 0, none⟩), .int .i64 ar] w (DeclP w0 b off cap ms p (L + 2) (msgM (dclM L) (stA ms i)) w) := by
  have HML := hid hml
  have HMM := hid HM
  have HAR := hid har
  have hlt : ¬ (8 : Int) ≤ ar := by omega
  have hlt' : ar < 8 := by omega
  clear hml HM har
  unfold DeclP
  have hk0 : Hid (Keep (· ≠ p) w w) := hid (Keep.refl _ _)
  have hpl : p < w.heap.size := h.blk.lt
  have HR0 := hid h
  clear h
  go_enter Tryz.func77, Tryz.ntmps77
  go_wp2_with fail
  refine (skipW w0 b off cap ms p _ i ⟨#[109, 101, 115, 115, 97, 103, 101]⟩ wMessage rfl plain_msg (by have := HR0.out; exact prBy)).mono ?_
  rintro e w1 ⟨hK1, (⟨j1, ua, uc, he1, rfl, HR1⟩ | ⟨hcd, rfl⟩)⟩
  case inr =>
    have hk1 : Hid (Keep (· ≠ p) w w1) := hid (Keep.trans (by have := hk0.out; exact kpBy) hK1)
    clear hK1
    go_wp2
    exact ⟨rfl, by have := hk1.out; exact kpBy, .inr (by rw [show (msgM (dclM L) (stA ms i)).2 = eatM (stA ms i) wMessage by unfold msgM msB msA; simp only [eat_bad hcd, take_bad hcd, memL_bad hcd]]; exact ⟨hcd, rfl⟩)⟩
  have Br : Blk w1 (w.heap.size) 102 #[.bool false, .string ⟨#[]⟩, .int .i64 0, .int .i64 0, .slice none 0 0, .slice none 0 0, .slice none 0 0, .slice none 0 0, .slice none 0 0] := Blk.keep ((Blk.newAt (by simp)).is (by first | rfl | simp)) hK1 (show w.heap.size ≠ p by omega)
  have hs1 := hK1.size
  try simp at hs1
  have xr := Br.cellF
  have yr := Br.frz
  have zr : w.heap.size < w1.heap.size := by omega
  have hp1 : p < w1.heap.size := by omega
  have hq1 : w.heap.size ≤ w1.heap.size := by omega
  have hk1 : Hid (Keep (· ≠ p) w w1) := hid (Keep.trans (by have := hk0.out; exact kpBy) hK1)
  clear hK1
  go_wp2_with fail
  refine (takeW w0 b off cap ms p _ j1 1 (by decide) (by have := HR1.out; exact prBy)).mono ?_
  rintro e w2 ⟨hK2, (⟨j2, m1, sa, sc, he2, hm1, rfl, hr1, ho1, HR2⟩ | ⟨hcd, rfl⟩)⟩
  case inr =>
    have hk2 : Hid (Keep (· ≠ p) w w2) := hid (Keep.trans (by have := hk1.out; exact kpBy) hK2)
    clear hK2
    go_wp2
    exact ⟨rfl, by have := hk2.out; exact kpBy, .inr (by rw [show (msgM (dclM L) (stA ms i)).2 = (takeM (stA ms j1) 1).2 by unfold msgM msB msA; rw [he1.out]; simp only [eat_bad hcd, memL_bad hcd]]; exact ⟨hcd, rfl⟩)⟩
  replace Br : Blk w2 (w.heap.size) 102 #[.bool false, .string ⟨#[]⟩, .int .i64 0, .int .i64 0, .slice none 0 0, .slice none 0 0, .slice none 0 0, .slice none 0 0, .slice none 0 0] := Blk.keep (Br.is (by first | rfl | simp)) hK2 (show w.heap.size ≠ p by omega)
  clear xr yr
  have hs2 := hK2.size
  try simp at hs2
  have xr := Br.cellF
  have yr := Br.frz
  replace zr : w.heap.size < w2.heap.size := by omega
  have hp2 : p < w2.heap.size := by omega
  have hq2 : w.heap.size ≤ w2.heap.size := by omega
  have hk2 : Hid (Keep (· ≠ p) w w2) := hid (Keep.trans (by have := hk1.out; exact kpBy) hK2)
  clear hK2
  have HEA : Hid (msA (stA ms i) = (m1, stA ms j2)) := hid (by unfold msA; rw [he1.out, hm1.out, ← he2.out])
  go_upto_region 5 with fail
  go_cut [6] from 15 to 19 (fun s4 wc => ∃ Q, s4 = .pointer (some ⟨Q, 0, none⟩) ∧ Hid (PR w0 b off cap ms p wc j2) ∧ Hid (Keep (· ≠ p) w wc) ∧ Hid (w.heap.size < Q ∧ Q < wc.heap.size) ∧ Hid (Blk wc Q 102 #[.bool false, .string (strOfNums m1.s), .int .i64 m1.line, .int .i64 m1.col, .slice none 0 0, .slice none 0 0, .slice none 0 0, .slice none 0 0, .slice none 0 0]) ∧ Hid (Blk wc (w.heap.size) 102 #[.bool false, .string ⟨#[]⟩, .int .i64 0, .int .i64 0, .slice none 0 0, .slice none 0 0, .slice none 0 0, .slice none 0 0, .slice none 0 0]))
  case first =>
    have Bm : Blk (w2.alloc (.cells #[.int .i64 m1.kind, .string (strOfNums m1.s), .int .u64 m1.n, .slice sa m1.b.length sc, .int .i64 m1.line, .int .i64 m1.col] 159)) w2.heap.size 159 #[.int .i64 m1.kind, .string (strOfNums m1.s), .int .u64 m1.n, .slice sa m1.b.length sc, .int .i64 m1.line, .int .i64 m1.col] := Blk.newAt rfl
    have Bq : Blk (w2.alloc (.cells #[.int .i64 m1.kind, .string (strOfNums m1.s), .int .u64 m1.n, .slice sa m1.b.length sc, .int .i64 m1.line, .int .i64 m1.col] 159)) w.heap.size 102 #[.bool false, .string ⟨#[]⟩, .int .i64 0, .int .i64 0, .slice none 0 0, .slice none 0 0, .slice none 0 0, .slice none 0 0, .slice none 0 0] := Br.kept (below_alloc _)
    have HRm : Hid (PR w0 b off cap ms p (w2.alloc (.cells #[.int .i64 m1.kind, .string (strOfNums m1.s), .int .u64 m1.n, .slice sa m1.b.length sc, .int .i64 m1.line, .int .i64 m1.col] 159)) j2) := hid (HR2.out.alloc _)
    have hkm : Hid (Keep (· ≠ p) w (w2.alloc (.cells #[.int .i64 m1.kind, .string (strOfNums m1.s), .int .u64 m1.n, .slice sa m1.b.length sc, .int .i64 m1.line, .int .i64 m1.col] 159))) := hid (kp_alloc hk2.out _)
    have zmm : w2.heap.size < (w2.alloc (.cells #[.int .i64 m1.kind, .string (strOfNums m1.s), .int .u64 m1.n, .slice sa m1.b.length sc, .int .i64 m1.line, .int .i64 m1.col] 159)).heap.size := by simp
    generalize w2.alloc (.cells #[.int .i64 m1.kind, .string (strOfNums m1.s), .int .u64 m1.n, .slice sa m1.b.length sc, .int .i64 m1.line, .int .i64 m1.col] 159) = wm at *
    have xm := Bm.cellF
    go_region_held3 (fun W => W.cell? ⟨w2.heap.size, 0, none⟩ = some (.int .i64 m1.kind) ∧ W.cell? ⟨w2.heap.size, 1, none⟩ = some (.string (strOfNums m1.s)) ∧ W.cell? ⟨w2.heap.size, 2, none⟩ = some (.int .u64 m1.n) ∧ W.cell? ⟨w2.heap.size, 3, none⟩ = some (.slice sa m1.b.length sc) ∧ W.cell? ⟨w2.heap.size, 4, none⟩ = some (.int .i64 m1.line) ∧ W.cell? ⟨w2.heap.size, 5, none⟩ = some (.int .i64 m1.col)) (first | with_reducible exact blkc6 (blkoth9 Vm.out (show w2.heap.size ≠ wm.heap.size by omega)) | with_reducible exact blkc6 (Vm.out.kept (below_alloc _)) | with_reducible exact blkc6 Vm.out | with_reducible exact blkc6 ((Bm.kept (below_drew1 _)).kept (below_alloc _)) | with_reducible exact blkc6 ((Bm.kept (below_alloc _)).kept (below_drew1 _)) | with_reducible exact blkc6 (Bm.kept (below_drew1 _))) (first | (go_at_call 100; refine (placeOfW _ m1 sa sc).mono ?_; rintro e w3 ⟨rfl, hb3⟩; have Vm : Hid (Blk w3 w2.heap.size 159 #[.int .i64 m1.kind, .string (strOfNums m1.s), .int .u64 m1.n, .slice sa m1.b.length sc, .int .i64 m1.line, .int .i64 m1.col]) := hid (Blk.kept (by first | exact Bm.kept (below_drew1 _) | exact (Bm.kept (below_drew1 _)).kept (below_alloc _) | exact (Bm.kept (below_alloc _)).kept (below_drew1 _)) hb3); have Vr : Hid (Blk w3 w.heap.size 102 #[.bool false, .string ⟨#[]⟩, .int .i64 0, .int .i64 0, .slice none 0 0, .slice none 0 0, .slice none 0 0, .slice none 0 0, .slice none 0 0]) := hid (Blk.kept (by first | exact Bq.kept (below_drew1 _) | exact (Bq.kept (below_drew1 _)).kept (below_alloc _) | exact (Bq.kept (below_alloc _)).kept (below_drew1 _)) hb3); (try have Vq : Hid (Blk w3 wm.heap.size 102 #[.bool false, .string ⟨#[]⟩, .int .i64 0, .int .i64 0, .slice none 0 0, .slice none 0 0, .slice none 0 0, .slice none 0 0, .slice none 0 0]) := hid (Blk.kept (by first | exact Blk.newAt (w := wm.drew) rfl | exact (Blk.newAt (w := wm) rfl).kept (below_drew1 _)) hb3)); (try have xq := Vq.out.cellF); (try have yq := Vq.out.frz); have HR3 : Hid (PR w0 b off cap ms p w3 j2) := hid (PR.kept (by have := HRm.out; exact prBy) hb3); have hk3 : Hid (Keep (· ≠ p) w w3) := hid (Keep.trans (by have := hkm.out; exact kpBy) (Keep.ofBelow hb3)); have hs3 := hb3.size; (try simp at hs3); clear hb3))
    · go_wp2_with fail
      go_meet
      (exact ⟨w3.heap.size, rfl, hid (by have := HR3.out; exact prBy), hid (by have := hk3.out; exact kpBy), hid ⟨by omega, by first | (simp; done) | (simp; omega) | omega⟩, hid (Blk.newAt rfl), hid (Vr.out.kept (below_alloc _))⟩)
    · go_wp2_with fail
      go_meet
      (exact ⟨wm.heap.size, rfl, hid (by have := HR3.out; exact prBy), hid (by have := hk3.out; exact kpBy), hid ⟨by omega, by first | (simp; done) | (simp; omega) | omega⟩, hid (blkall9 Vq.out), hid (blkoth9 Vr.out (show w.heap.size ≠ wm.heap.size by omega))⟩)
  case rest =>
    obtain ⟨Q, rfl, HR0, hk0, hQ, BQ, BR⟩ := hcut
    have hQ1 := hQ.out.1
    have hQ2 := hQ.out.2
    clear Br xr yr zr
    have Br := BR.out
    have Bq := BQ.out
    have xr := Br.cellF
    have yr := Br.frz
    have zr : w.heap.size < wc.heap.size := by omega
    have xq := Bq.cellF
    have yq := Bq.frz
    have zq : Q < wc.heap.size := by omega
    go_wp2_with fail
    refine (skipW w0 b off cap ms p _ j2 ⟨#[123]⟩ [123] rfl plain_lc (by have := HR0.out; exact prBy)).mono ?_
    rintro e v1 ⟨hK1, (⟨j3, ua3, uc3, he3, rfl, HR1⟩ | ⟨hcd, rfl⟩)⟩
    case inr =>
      have hk1 : Hid (Keep (· ≠ p) w v1) := hid (Keep.trans (by have := hk0.out; exact kpBy) hK1)
      clear hK1
      go_wp2
      exact ⟨rfl, by have := hk1.out; exact kpBy, .inr (by rw [show (msgM (dclM L) (stA ms i)).2 = eatM (stA ms j2) [123] by unfold msgM msB; rw [HEA.out]; simp only [eat_bad hcd, memL_bad hcd]]; exact ⟨hcd, rfl⟩)⟩
    replace Br : Blk v1 (w.heap.size) 102 #[.bool false, .string ⟨#[]⟩, .int .i64 0, .int .i64 0, .slice none 0 0, .slice none 0 0, .slice none 0 0, .slice none 0 0, .slice none 0 0] := Blk.keep (Br.is (by first | rfl | simp)) hK1 (show w.heap.size ≠ p by omega)
    replace Bq : Blk v1 (Q) 102 #[.bool false, .string (strOfNums m1.s), .int .i64 m1.line, .int .i64 m1.col, .slice none 0 0, .slice none 0 0, .slice none 0 0, .slice none 0 0, .slice none 0 0] := Blk.keep (Bq.is (by first | rfl | simp)) hK1 (show Q ≠ p by omega)
    clear xr yr xq yq
    have hs1 := hK1.size
    try simp at hs1
    have xr := Br.cellF
    have yr := Br.frz
    replace zr : w.heap.size < v1.heap.size := by omega
    have xq := Bq.cellF
    have yq := Bq.frz
    replace zq : Q < v1.heap.size := by omega
    have hp1 : p < v1.heap.size := by omega
    have hq1 : w.heap.size ≤ v1.heap.size := by omega
    have hk1 : Hid (Keep (· ≠ p) w v1) := hid (Keep.trans (by have := hk0.out; exact kpBy) hK1)
    clear hK1
    have HEM : Hid ((msgM (dclM L) (stA ms i)) = ((memL (dclM L) (⟨false, m1.s, atM m1, [], [], [], [], []⟩, stA ms j3)).1, eatM (memL (dclM L) (⟨false, m1.s, atM m1, [], [], [], [], []⟩, stA ms j3)).2 [125])) := hid (by unfold msgM msB; rw [HEA.out]; simp only []; rw [he3.out])
    have HD0 : Hid (DI w0 b off cap ms p v1 (w.heap.size + 1) Q (L + 1) v1 j3 ⟨⟨false, m1.s, atM m1, [], [], [], [], []⟩, .slice none 0 0, .slice none 0 0, .slice none 0 0, .slice none 0 0, .slice none 0 0⟩) := hid ⟨HR1.out, Keep.refl _ _, Bq, OwnD.nil _ _ _ _ _ _ _ _ _ (fun k hk => by subst hk; omega) _ _ _, by omega, by omega⟩
    have HRB := hid Br
    have zr1 := zr
    clear Br xr yr zr Bq xq yq zq
    go_wp2
    go_loopw [] (fun wr => ∃ j x, Hid (memL (dclM L) (⟨false, m1.s, atM m1, [], [], [], [], []⟩, stA ms j3) = memL (dclM L) (x.d, stA ms j)) ∧ Hid (DI w0 b off cap ms p v1 (w.heap.size + 1) Q (L + 1) wr j x) ∧ Hid (tot x.d + 3 * muM (stA ms j) ≤ 300000)) (fun wr => ms.length - ixW wr p)
    case atStart => exact ⟨j3, ⟨⟨false, m1.s, atM m1, [], [], [], [], []⟩, .slice none 0 0, .slice none 0 0, .slice none 0 0, .slice none 0 0, .slice none 0 0⟩, hid rfl, HD0, hid (by have := mu_st ms j3 HML.out; unfold tot; simp; omega)⟩
    case round =>
      clear HD0 HR1
      obtain ⟨j, x, hrl, HI, htot⟩ := hrel
      have hm0 := HI.out.pr.ix
      cases hi : isM (stA ms j) [125] with
      | false =>
        have HSG := hid (memL_go (L := L) (d := x.d) (s := stA ms j) rfl hi)
        have HDEC : Hid (muM (memM (dclM L) (x.d, stA ms j)).2 < muM (stA ms j)) := hid (mem_dec (x := (x.d, stA ms j)) (fun s hs => mu_dcl_lt L hs) rfl)
        have HTOT : Hid (tot (memM (dclM L) (x.d, stA ms j)).1 + 3 * muM (memM (dclM L) (x.d, stA ms j)).2 ≤ tot x.d + 3 * muM (stA ms j)) := hid (mem_tot (x := (x.d, stA ms j)) (fun s hs => mu_dcl_lt L hs) rfl)
        go_wp2_with fail
        refine (isNextW w0 b off cap ms p _ j ⟨#[125]⟩ [125] rfl plain_rc HI.out.pr).mono ?_
        rintro e x1 ⟨rfl, hb1⟩
        rw [hi]
        have HI1 := hid (HI.out.kept hb1)
        clear hb1
        go_wp2_with fail
        refine (memberW w0 b off cap ms p _ j (w.heap.size + 1) Q L x ar HMM.out HAR.out har0 HML.out htot.out HI1.out.here).mono ?_
        rintro e x2 (⟨j2x, y, hy1, hy2, rfl, h3⟩ | ⟨⟨hcd, rfl⟩, hK⟩)
        · have HI2 := hid (h3.out.since HI1.out.fr)
          clear h3
          go_wp2
          exact ⟨⟨j2x, y, hid (by rw [hrl.out, HSG.out, hy2.out, ← hy1.out]), HI2, hid (by
            have h1 := htot.out
            have h2 := HTOT.out
            rw [← hy2.out, hy1.out] at h2
            omega)⟩, by
            have h1 := HDEC.out
            rw [hy1.out] at h1
            have h2 := stA_mu HI.out.pr.lt HI2.out.pr.lt h1
            have h3 := HI2.out.pr.lt
            rw [hm0, HI2.out.pr.ix]
            omega⟩
        · have hk2 := hid (HI1.out.fr.trans hK)
          clear hK
          go_wp2
          exact ⟨rfl, keep_then hk1.out hk2.out (by omega), .inr (by rw [HEM.out]; simp only []; rw [hrl.out, HSG.out]; rw [show memM (dclM L) (x.d, stA ms j) = ((memM (dclM L) (x.d, stA ms j)).1, (memM (dclM L) (x.d, stA ms j)).2) from rfl, memL_bad hcd]; simp only [eat_bad hcd]; exact ⟨hcd, rfl⟩)⟩
      | true =>
        have HSG := hid (memL_stop (L := L) (d := x.d) hi)
        go_wp2_with fail
        refine (isNextW w0 b off cap ms p _ j ⟨#[125]⟩ [125] rfl plain_rc HI.out.pr).mono ?_
        rintro e x1 ⟨rfl, hb1⟩
        rw [hi]
        have HI1 := hid (HI.out.kept hb1)
        clear hb1
        go_wp2_with fail
        refine (skipW w0 b off cap ms p _ j ⟨#[125]⟩ [125] rfl plain_rc HI1.out.pr).mono ?_
        rintro e x2 ⟨hK2, (⟨j2x, ta, tc, hy1, rfl, HR2⟩ | ⟨hcd, rfl⟩)⟩
        case inr =>
          have hk2 := hid (HI1.out.frame hK2)
          clear hK2
          go_wp2
          exact ⟨rfl, keep_then hk1.out hk2.out (by omega), .inr (by rw [HEM.out]; simp only []; rw [hrl.out, HSG.out]; exact ⟨hcd, rfl⟩)⟩
        have HI2 := hid (HI1.out.reader hK2 HR2.out)
        clear hK2
        have hk2 := hid (keep_then hk1.out HI2.out.fr (by omega))
        have BR2 : Blk x2 w.heap.size 102 #[.bool false, .string ⟨#[]⟩, .int .i64 0, .int .i64 0, .slice none 0 0, .slice none 0 0, .slice none 0 0, .slice none 0 0, .slice none 0 0] := HRB.out.keep HI2.out.fr ⟨by omega, by omega⟩
        obtain ⟨xd, xf, xo, xdd, xr', xs⟩ := x
        try dsimp only at HI2
        obtain ⟨fa, fc, rfl⟩ : ∃ fa fc, xf = .slice fa xd.fields.length fc := own_shape HI2.out.own.f
        obtain ⟨oa, oc, rfl⟩ : ∃ oa oc, xo = .slice oa xd.oneofs.length oc := own_shape HI2.out.own.o
        obtain ⟨ra, rc, rfl⟩ : ∃ ra rc, xr' = .slice ra xd.res.length rc := own_shape HI2.out.own.r
        obtain ⟨ya, yc, rfl⟩ : ∃ ya yc, xs = .slice ya xd.syms.length yc := own_shape HI2.out.own.s
        obtain ⟨Z, dvs, ee, hd0, _⟩ := HI2.out.own.dd
        try dsimp only at hd0
        obtain ⟨da, dc, rfl⟩ : ∃ da dc, xdd = .slice da dvs.length dc := own_shape hd0
        clear ee hd0
        have xq := HI2.out.blk.cellF
        try dsimp only at xq
        have yq := HI2.out.blk.frz
        have zq := HI2.out.blk.lt
        have xr := BR2.cellF
        have yr := BR2.frz
        have zr := BR2.lt
        go_wp2
        exact bodyPost_ret (v := .agg #[.bool xd.enum, .string (strOfNums xd.name), .int .i64 xd.at1.1, .int .i64 xd.at1.2, .slice fa xd.fields.length fc, .slice oa xd.oneofs.length oc, .slice da dvs.length dc, .slice ra xd.res.length rc, .slice ya xd.syms.length yc]) (by simp [results, Tryz.results77, go_sem, xr, xq, zr]) rfl ⟨by have := hk2.out; exact kpBy, .inl ⟨j2x, ⟨xd, .slice fa xd.fields.length fc, .slice oa xd.oneofs.length oc, .slice da dvs.length dc, .slice ra xd.res.length rc, .slice ya xd.syms.length yc⟩, hid (by rw [HEM.out]; simp only []; rw [hrl.out, HSG.out]; exact hy1.out), hid (by rw [HEM.out]; simp only []; rw [hrl.out, HSG.out]), rfl, hid (RD.weak (fun k hk => ⟨by omega, by have := hk.2; simp; omega⟩) _ _ (RD.keep (f := (· ≠ w.heap.size)) (by exact kpBy) (fun k hk (e : k = w.heap.size) => by omega) _ _ HI2.out.own.rd)), hid (by have := HI2.out.pr; exact prBy)⟩⟩
theorem messageW (hml : ms.length ≤ 70000) : ∀ L : Nat, L ≤ 8 → MsgC w0 b off cap ms p L := by
  intro L
  induction L with
  | zero =>
    intro _ ar W i har hi h
    have : ar = 8 := by omega
    subst this
    exact message0 w0 b off cap ms p W i hi h
  | succ L ih =>
    intro hL ar W i har hi h
    rw [dcl_msg hi]
    exact messageS w0 b off cap ms p W i L ar (ih (by omega)) (by omega) (by omega) hml h
end
theorem Tryz.infoI : (Tryz.prog.info? 81).map (fun i => (i.zero, i.size, i.bytes)) = some (some zO, 3, 32) := by kernel_rfl
theorem appendI (base : Nat) (v : Value) (l : List MO) (y : MO) (w : World) (h : w.ownsRow base 81 3 v l.length (l.flatMap cO)) (hb : base ≤ w.heap.size) (hn : l.length ≤ 400000) :
    ∃ a c w', (Builtin.append_ #[22, 22] 22 #[v, .slice (some ⟨w.heap.size, 0, none⟩) 1 1]).run Tryz.prog (w.alloc (.cells #[.string (strOfNums y.name), .int .i64 y.at1.1, .int .i64 y.at1.2] 81)) = .ok (.slice a (l.length + 1) c) w' ∧
      w'.ownsRow base 81 3 (.slice a (l.length + 1) c) (l ++ [y]).length ((l ++ [y]).flatMap cO) ∧ Grow w w' v (.slice a (l.length + 1) c) := by
  obtain ⟨v', w', h1, h2, h3⟩ := append_st 81 22 3 32 zO Tryz.underlying22 Tryz.infoI rfl (by decide) (by decide) base v l.length (l.flatMap cO) w #[.string (strOfNums y.name), .int .i64 y.at1.1, .int .i64 y.at1.2] rfl (fun u hu => by simp at hu; rcases hu with rfl | rfl | rfl <;> rfl) h hb hn
  obtain ⟨a, c, rfl⟩ := own_shape h2
  exact ⟨a, c, w', h1, by rw [List.flatMap_append, List.length_append]; exact h2, h3⟩
/-- A file's tree as a declaration's: its imports among the oneofs. -/
def toD (t : MT) : MD := ⟨false, [], (0, 0), [], t.imps.map (fun y => (⟨y.name, y.at1⟩ : MO)), t.decls, [], []⟩
/-- While the program builds a file: the reader, the file's block, its lists. -/
structure FI (w0 : World) (b off cap : Nat) (ms : List Mw) (p : Nat) (w : World) (base pd n : Nat) (wr : World) (j : Nat) (x : DV) : Prop where
  pr : PR w0 b off cap ms p wr j
  fr : Keep (fun k => k ≠ p ∧ k < base) w wr
  blk : Blk wr pd 25 #[x.o, x.dd]
  own : OwnD wr base n 143 81 102 150 154 (· = pd) x
  lo : p < base
  up : base ≤ pd
section
variable {w0 : World} {b off cap : Nat} {ms : List Mw} {p : Nat} {w : World} {base pd n : Nat} {wr w' : World} {j k : Nat} {x : DV}
theorem FI.reader (h : FI w0 b off cap ms p w base pd n wr j x) (K : Keep (· ≠ p) wr w') (R : PR w0 b off cap ms p w' k) : FI w0 b off cap ms p w base pd n w' k x :=
  ⟨R, h.fr.trans (K.weak (fun q hq => hq.1)), h.blk.keep K (by have := h.lo; have := h.up; omega), h.own.keep K (fun q hq _ (e : q = p) => by have := h.lo; omega), h.lo, h.up⟩
theorem FI.kept (h : FI w0 b off cap ms p w base pd n wr j x) (g : Below wr.heap.size wr w') : FI w0 b off cap ms p w base pd n w' j x := h.reader (Keep.ofBelow g) (h.pr.kept g)
theorem FI.frame (h : FI w0 b off cap ms p w base pd n wr j x) (K : Keep (· ≠ p) wr w') : Keep (fun k => k ≠ p ∧ k < base) w w' := h.fr.trans (K.weak (fun q hq => hq.1))
theorem FI.base_le (h : FI w0 b off cap ms p w base pd n wr j x) : base ≤ wr.heap.size := Nat.le_trans h.up (Nat.le_of_lt h.blk.lt)
theorem FI.addI (h : FI w0 b off cap ms p w base pd n wr j x) {v' : Value} {l : List MO} (g : Grow wr w' x.o v') (ho : w'.ownsRow base 81 3 v' l.length (l.flatMap cO)) :
    FI w0 b off cap ms p w base pd n (w'.setCell ⟨pd, 0, none⟩ v') j ⟨{ x.d with oneofs := l }, x.f, v', x.dd, x.r, x.s⟩ := by
  have hb : Blk w' pd 25 #[x.o, x.dd] := h.blk.keep (Keep.ofGrow (f := fun q => x.o.ownBlock ≠ some q) g (fun _ hk => hk)) (fun hk => h.own.me pd (.inr (.inl hk)) rfl)
  have ho' := h.own.addO (by decide) (by decide) (by decide) (by decide) g ho
  have hpr := grow_pr g h.own.o h.lo h.pr
  refine ⟨hpr.set (by have := h.lo; have := h.up; show p < pd; omega) _, ?_, (hb.set 0 _).is (by simp), ho'.keep (f := (· ≠ pd)) (Keep.setCell _ _ _ (by simp)) (fun q _ hq => hq), h.lo, h.up⟩
  exact (h.fr.trans ((grow_keep g h.own.o h.lo).weak (fun q hq => hq.2))).trans (Keep.setCell _ _ _ (fun hq => by have := hq.2; have := h.up; simp at *; omega))
theorem FI.addD (h : FI w0 b off cap ms p w base pd n wr j x) {N : Nat} {y : DV} (hN : base ≤ N) (hm : ∀ k, x.mine k ∨ k = pd → k < N) (hy : RD n wr (fun k => N ≤ k ∧ k < wr.heap.size) y) {v' : Value}
    {Z : Nat → Prop} {dvs : List DV} (e : dvs.map DV.d = x.d.decls) (hd : wr.ownsRow base 102 9 x.dd dvs.length (dvs.flatMap cD)) (hz : ∀ k, Z k → base ≤ k ∧ k < wr.heap.size) (hmz : ∀ k, x.mine k ∨ k = pd → ¬ Z k) (hys : ∀ y ∈ dvs, RD n wr Z y)
    (g : Grow wr w' x.dd v') (ho : w'.ownsRow base 102 9 v' (dvs.length + 1) (dvs.flatMap cD ++ cD y)) :
    FI w0 b off cap ms p w base pd n (w'.setCell ⟨pd, 1, none⟩ v') j ⟨{ x.d with decls := x.d.decls ++ [y.d] }, x.f, x.o, v', x.r, x.s⟩ := by
  have hb : Blk w' pd 25 #[x.o, x.dd] := h.blk.keep (Keep.ofGrow (f := fun q => x.dd.ownBlock ≠ some q) g (fun _ hk => hk)) (fun hk => h.own.me pd (.inr (.inr (.inl hk))) rfl)
  have ho' := h.own.addD (by decide) (by decide) (by decide) (by decide) (Zy := fun k => N ≤ k ∧ k < wr.heap.size) (fun k hk => ⟨by omega, hk.2⟩) (fun k hk hk2 => by have := hm k hk; omega) hy Z e hd hz hmz hys g ho
  have hpr := grow_pr g hd h.lo h.pr
  refine ⟨hpr.set (by have := h.lo; have := h.up; show p < pd; omega) _, ?_, (hb.set 1 _).is (by simp), ho'.keep (f := (· ≠ pd)) (Keep.setCell _ _ _ (by simp)) (fun q _ hq => hq), h.lo, h.up⟩
  exact (h.fr.trans ((grow_keep g hd h.lo).weak (fun q hq => hq.2))).trans (Keep.setCell _ _ _ (fun hq => by have := hq.2; have := h.up; simp at *; omega))
end
theorem appendY (base : Nat) (v : Value) (dvs : List DV) (yd : MD) (a1 : Option Addr) (n1 c1 : Nat) (a2 : Option Addr) (n2 c2 : Nat) (a3 : Option Addr) (n3 c3 : Nat) (a4 : Option Addr) (n4 c4 : Nat) (a5 : Option Addr) (n5 c5 : Nat) (w : World) (h : w.ownsRow base 102 9 v dvs.length (dvs.flatMap cD)) (hb : base ≤ w.heap.size) (hn : dvs.length ≤ 400000) :
    ∃ a c w', (Builtin.append_ #[23, 23] 23 #[v, .slice (some ⟨w.heap.size, 0, none⟩) 1 1]).run Tryz.prog (w.alloc (.cells #[.bool yd.enum, .string (strOfNums yd.name), .int .i64 yd.at1.1, .int .i64 yd.at1.2, .slice a1 n1 c1, .slice a2 n2 c2, .slice a3 n3 c3, .slice a4 n4 c4, .slice a5 n5 c5] 102)) = .ok (.slice a (dvs.length + 1) c) w' ∧
      w'.ownsRow base 102 9 (.slice a (dvs.length + 1) c) (dvs.length + 1) (dvs.flatMap cD ++ cD ⟨yd, .slice a1 n1 c1, .slice a2 n2 c2, .slice a3 n3 c3, .slice a4 n4 c4, .slice a5 n5 c5⟩) ∧ Grow w w' v (.slice a (dvs.length + 1) c) := by
  obtain ⟨v', w', h1, h2, h3⟩ := append_st 102 23 9 160 zD9 Tryz.underlying23 Tryz.infoD rfl (by decide) (by decide) base v dvs.length (dvs.flatMap cD) w #[.bool yd.enum, .string (strOfNums yd.name), .int .i64 yd.at1.1, .int .i64 yd.at1.2, .slice a1 n1 c1, .slice a2 n2 c2, .slice a3 n3 c3, .slice a4 n4 c4, .slice a5 n5 c5] rfl (fun u hu => by simp at hu; rcases hu with rfl | rfl | rfl | rfl | rfl | rfl | rfl | rfl | rfl <;> rfl) h hb hn
  obtain ⟨a, c, rfl⟩ := own_shape h2
  exact ⟨a, c, w', h1, h2, h3⟩
theorem filL_go {t : MT} {s : PS} (h0 : s.cd = 0) (h : (hdM s).kind ≠ 5) : filL (t, s) = filL (filSt (t, s)) := by
  unfold filL
  exact whM_go (p := fun x : MT × PS => x.2) (x := (t, s)) fil_dec (by unfold filC; simp [h0, h])
theorem filL_stop {t : MT} {s : PS} (h : (hdM s).kind = 5) : filL (t, s) = (t, s) := by
  unfold filL
  exact whM_stop (by unfold filC; simp [h])
theorem filL_bad {t : MT} {s : PS} (h : s.cd ≠ 0) : filL (t, s) = (t, s) := by
  unfold filL
  exact whM_stop (by unfold filC; simp [h])
theorem plain_imp : plainW wImport := ⟨by decide, 105, [109, 112, 111, 114, 116], rfl, by decide, by decide⟩
theorem toD_imp (t : MT) (y : MI) : ({ toD t with oneofs := (toD t).oneofs ++ [(⟨y.name, y.at1⟩ : MO)] } : MD) = toD ⟨t.imps ++ [y], t.decls⟩ := by simp [toD]
theorem toD_dcl (t : MT) (y : MD) : ({ toD t with decls := (toD t).decls ++ [y] } : MD) = toD ⟨t.imps, t.decls ++ [y]⟩ := by simp [toD]
section
variable {w0 : World} {b off cap : Nat} {ms : List Mw} {p : Nat} {w : World} {base pd n : Nat} {w1 w2 : World} {i j2 : Nat} {x : DV}
/-- A declaration more. -/
theorem FI.more (h : FI w0 b off cap ms p w base pd n w1 i x) (hl : x.d.decls.length ≤ 300000) (hK : Keep (· ≠ p) w1 w2) (R2 : PR w0 b off cap ms p w2 j2) {yd : MD} {a1 : Option Addr} {n1 c1 : Nat} {a2 : Option Addr} {n2 c2 : Nat} {a3 : Option Addr} {n3 c3 : Nat} {a4 : Option Addr} {n4 c4 : Nat} {a5 : Option Addr} {n5 c5 : Nat}
    (hy : RD n w2 (fun k => w1.heap.size ≤ k ∧ k < w2.heap.size) ⟨yd, .slice a1 n1 c1, .slice a2 n2 c2, .slice a3 n3 c3, .slice a4 n4 c4, .slice a5 n5 c5⟩) :
    ∃ a m c w3, Hid ((Builtin.append_ #[23, 23] 23 #[x.dd, .slice (some ⟨w2.heap.size, 0, none⟩) 1 1]).run Tryz.prog (w2.alloc (.cells #[.bool yd.enum, .string (strOfNums yd.name), .int .i64 yd.at1.1, .int .i64 yd.at1.2, .slice a1 n1 c1, .slice a2 n2 c2, .slice a3 n3 c3, .slice a4 n4 c4, .slice a5 n5 c5] 102)) = .ok (.slice a m c) w3) ∧ Hid (Blk w3 pd 25 #[x.o, x.dd]) ∧
      Hid (FI w0 b off cap ms p w base pd n (w3.setCell ⟨pd, 1, none⟩ (.slice a m c)) j2 ⟨{ x.d with decls := x.d.decls ++ [yd] }, x.f, x.o, .slice a m c, x.r, x.s⟩) := by
  obtain ⟨Z, dvs, ee, hd, hz, hm, hys⟩ := h.own.dd
  have hlo := h.lo
  have HI2 := h.reader hK R2
  have hd2 := own_keep (f := (· ≠ p)) hd (fun q hq (e : q = p) => by have := (own_type hd hq).1; omega) hK
  have hdl : dvs.length = x.d.decls.length := by rw [← ee]; simp
  obtain ⟨a, c, w3, h1, h2, h3⟩ := appendY base x.dd dvs yd a1 n1 c1 a2 n2 c2 a3 n3 c3 a4 n4 c4 a5 n5 c5 w2 hd2 HI2.base_le (by omega)
  refine ⟨a, dvs.length + 1, c, w3, hid h1, hid (HI2.blk.keep (Keep.ofGrow (f := fun q => x.dd.ownBlock ≠ some q) h3 (fun _ hk => hk)) (fun hk => HI2.own.me pd (.inr (.inr (.inl hk))) rfl)), hid ?_⟩
  exact HI2.addD (N := w1.heap.size) (Z := Z) (dvs := dvs) h.base_le (fun k hk => by
    rcases hk with hk | rfl
    · exact (h.own.lt hk).2
    · exact h.blk.lt) hy ee hd2 (fun k hk => ⟨(hz k hk).1, Nat.lt_of_lt_of_le (hz k hk).2 hK.size⟩) hm (fun y' h' => RD.keep (f := (· ≠ p)) hK (fun q hq (e : q = p) => by have := (hz q hq).1; omega) n y' (hys y' h')) h3 h2
theorem FI.shape (h : FI w0 b off cap ms p w base pd n w1 i x) : ∃ a1 c1 a2 c2, x.o = .slice a1 x.d.oneofs.length c1 ∧ x.dd = .slice a2 x.d.decls.length c2 := by
  obtain ⟨Z, dvs, ee, hd, _⟩ := h.own.dd
  obtain ⟨a1, c1, e1⟩ := own_shape h.own.o
  obtain ⟨a2, c2, e2⟩ := own_shape hd
  have hdl : dvs.length = x.d.decls.length := by rw [← ee]; simp
  exact ⟨a1, c1, a2, c2, e1, by rw [← hdl]; exact e2⟩
/-- What a call answers that reads one more. -/
theorem FI.call (h : FI w0 b off cap ms p w base pd n w1 i x) {W : World} {e : Ending} {M : MD × PS} {m : Nat} (hb : Keep (· ≠ p) w1 W) (hm : m ≤ n) (hc : DeclP w0 b off cap ms p m M W e w2) :
    (∃ j2 yd a1 n1 c1 a2 n2 c2 a3 n3 c3 a4 n4 c4 a5 n5 c5, e = .returned (.agg #[.bool yd.enum, .string (strOfNums yd.name), .int .i64 yd.at1.1, .int .i64 yd.at1.2, .slice a1 n1 c1, .slice a2 n2 c2, .slice a3 n3 c3, .slice a4 n4 c4, .slice a5 n5 c5]) ∧ Hid (M.2 = stA ms j2) ∧ Hid (yd = M.1) ∧ Hid (Keep (· ≠ p) w1 w2) ∧ Hid (PR w0 b off cap ms p w2 j2) ∧ Hid (RD n w2 (fun k => w1.heap.size ≤ k ∧ k < w2.heap.size) ⟨yd, .slice a1 n1 c1, .slice a2 n2 c2, .slice a3 n3 c3, .slice a4 n4 c4, .slice a5 n5 c5⟩)) ∨
    (Fell M.2 e ∧ Hid (Keep (fun k => k ≠ p ∧ k < base) w w2)) := by
  obtain ⟨hK, (⟨j2, y, h1, h2, rfl, hrd, hR⟩ | hF)⟩ := hc
  · have hrd2 := RD.upto hm y (RD.weak (fun k (hk : W.heap.size ≤ k ∧ k < w2.heap.size) => (⟨Nat.le_trans hb.size hk.1, hk.2⟩ : w1.heap.size ≤ k ∧ k < w2.heap.size)) m y hrd.out)
    obtain ⟨yd, yf, yo, ydd, yr, ys⟩ := y
    cases m with
    | zero => exact hrd.out.elim
    | succ m =>
      obtain ⟨⟨a1, c1, r1, _⟩, ⟨a2, c2, r2, _⟩, ⟨a4, c4, r4, _⟩, ⟨a5, c5, r5, _⟩, dvs', _, ⟨a3, c3, r3, _⟩, _⟩ := hrd.out
      dsimp only at r1 r2 r3 r4 r5 h2
      subst r1 r2 r3 r4 r5
      exact .inl ⟨j2, yd, a1, _, c1, a2, _, c2, a3, _, c3, a4, _, c4, a5, _, c5, rfl, h1, h2, hid (hb.trans hK), hR, hid hrd2⟩
  · exact .inr ⟨hF, hid (h.frame (hb.trans hK))⟩
end
section
variable (w0 : World) (b off cap : Nat) (ms : List Mw) (p : Nat) (w : World) (i : Nat)
theorem fileW (hml : ms.length ≤ 70000) (h : PR w0 b off cap ms p w i) : Calls Tryz.prog 37 #[.pointer (some ⟨p, 0, none⟩)] w fun e w' => Keep (· ≠ p) w w' ∧ ((∃ a1 n1 c1 a2 n2 c2, e = .returned (.agg #[.slice a1 n1 c1, .slice a2 n2 c2]) ∧ (filL (⟨[], []⟩, stA ms i)).2.cd = 0 ∧ Hid (∃ x : DV, x.d = toD (filL (⟨[], []⟩, stA ms i)).1 ∧ x.o = .slice a1 n1 c1 ∧ x.dd = .slice a2 n2 c2 ∧ RD 10 w' (fun k => w.heap.size ≤ k ∧ k < w'.heap.size) x)) ∨ Fell (filL (⟨[], []⟩, stA ms i)).2 e) := by
  have HML := hid hml
  have HMM := hid (messageW w0 b off cap ms p hml 8 (Nat.le_refl _))
  have hpl : p < w.heap.size := h.blk.lt
  have HR0 := hid h
  have hkV : Hid (Keep (· ≠ p) w ((w.alloc (.cells #[.slice none 0 0, .slice none 0 0] 25)).alloc (.cells #[.slice none 0 0, .slice none 0 0] 25))) := hid (kp_alloc (kp_alloc (Keep.refl _ _) _) _)
  have hf0 := wordF0
  have hf1 := wordF1
  clear h hml
  go_enter Tryz.func37, Tryz.ntmps37
  go_wp2
  go_loopw [] (fun wr => ∃ j x t, Hid ((filL (⟨[], []⟩, stA ms i)) = filL (t, stA ms j)) ∧ Hid (x.d = toD t) ∧ Hid (FI w0 b off cap ms p ((w.alloc (.cells #[.slice none 0 0, .slice none 0 0] 25)).alloc (.cells #[.slice none 0 0, .slice none 0 0] 25)) (w.heap.size + 1) (w.heap.size + 1) 9 wr j x) ∧ Hid (t.imps.length + t.decls.length + 3 * muM (stA ms j) ≤ 300000)) (fun wr => ms.length - ixW wr p)
  case atStart => exact ⟨i, ⟨toD ⟨[], []⟩, .slice none 0 0, .slice none 0 0, .slice none 0 0, .slice none 0 0, .slice none 0 0⟩, ⟨[], []⟩, hid rfl, hid rfl, hid ⟨(HR0.out.alloc _).alloc _, Keep.refl _ _, Blk.newAt (by simp), OwnD.nil _ _ _ _ _ _ _ _ _ (fun k hk => by subst hk; simp) _ _ _, by omega, by omega⟩, hid (by have := mu_st ms i HML.out; simp; omega)⟩
  case round =>
    obtain ⟨j, x, t, hrl, hxt, HI, htot⟩ := hrel
    have hm0 := HI.out.pr.ix
    obtain ⟨oa, oc, da, dc, eo, ed⟩ := HI.out.shape
    obtain ⟨xd, xf, xo, xdd, xr, xs⟩ := x
    dsimp only at eo ed hxt
    have hxt' := hxt.out
    subst hxt'
    subst eo ed
    clear hxt
    have HTL : Hid ((toD t).oneofs.length ≤ 300000 ∧ (toD t).decls.length ≤ 300000) := hid (by have := htot.out; unfold toD; simp; omega)
    by_cases hE : (hdM (stA ms j)).kind = 5
    · have HSG := hid (filL_stop (t := t) hE)
      have hEi : ((hdM (stA ms j)).kind == 5) = true := by rw [hE]; rfl
      go_wp2_with fail
      refine (nextW w0 b off cap ms p _ j HI.out.pr).mono ?_
      rintro e x1 ⟨⟨sa, sc, rfl, hr⟩, hb1⟩
      rw [hE]
      have HI1 := hid (HI.out.kept hb1)
      clear hb1 hr
      have hk1 := hid (keep_then hkV.out HI1.out.fr (by omega))
      have BR1 : Blk x1 w.heap.size 25 #[.slice none 0 0, .slice none 0 0] := Blk.keep ((Blk.newAt (w := w) rfl).kept (below_alloc _)) HI1.out.fr ⟨by omega, by omega⟩
      have xq := HI1.out.blk.cellF
      have yq := HI1.out.blk.frz
      have zq := HI1.out.blk.lt
      have xr1 := BR1.cellF
      have yr1 := BR1.frz
      have zr1 := BR1.lt
      go_wp2
      exact bodyPost_ret (v := .agg #[.slice oa (toD t).oneofs.length oc, .slice da (toD t).decls.length dc]) (by simp [results, Tryz.results37, go_sem, xr1, xq, zr1]) rfl ⟨by have := hk1.out; exact kpBy, .inl ⟨oa, _, oc, da, _, dc, rfl, by rw [hrl.out, HSG.out]; rfl, hid ⟨⟨toD t, xf, .slice oa (toD t).oneofs.length oc, .slice da (toD t).decls.length dc, xr, xs⟩, by rw [hrl.out, HSG.out], rfl, rfl, RD.weak (fun k hk => ⟨by omega, by have := hk.2; simp; omega⟩) _ _ (RD.keep (f := (· ≠ w.heap.size)) (by exact kpBy) (fun k hk (e : k = w.heap.size) => by omega) _ _ HI1.out.own.rd)⟩⟩⟩
    · have HE := hid hE
      have WBo := HI.out.pr.okW
      have HSG := hid (filL_go (t := t) (s := stA ms j) rfl hE)
      have HDEC : Hid (muM (filSt (t, stA ms j)).2 < muM (stA ms j)) := hid (fil_dec (t, stA ms j) (by unfold filC; simp [hE]; rfl))
      have HTOT : Hid ((filSt (t, stA ms j)).1.imps.length + (filSt (t, stA ms j)).1.decls.length + 3 * muM (filSt (t, stA ms j)).2 ≤ t.imps.length + t.decls.length + 3 * muM (stA ms j)) := hid (fil_tot (t, stA ms j) (by unfold filC; simp [hE]; rfl))
      have e0 := wordB WBo plain_imp (X := [105, 109, 112, 111, 114, 116]) (by rw [str_list]; rfl)
      have e1 := wordB WBo plain_msg (X := [109, 101, 115, 115, 97, 103, 101]) (by rw [str_list]; rfl)
      have e2 := wordB WBo (x := wEnum) plain_enum (X := [101, 110, 117, 109]) (by rw [str_list]; rfl)
      rw [← is_plain (s := stA ms j) rfl WBo plain_imp] at e0
      rw [← is_plain (s := stA ms j) rfl WBo plain_msg] at e1
      rw [← is_plain (s := stA ms j) (x := wEnum) rfl WBo plain_enum] at e2
      cases h0 : isM (stA ms j) wImport with
      | true =>
          have HST : Hid (filSt (t, stA ms j) = (⟨t.imps ++ [(impM (stA ms j)).1], t.decls⟩, (impM (stA ms j)).2)) := hid (by unfold filSt; rw [if_pos h0])
          have HSI : Hid ((filL (⟨[], []⟩, stA ms i)) = filL (⟨t.imps ++ [(impM (stA ms j)).1], t.decls⟩, (impM (stA ms j)).2)) := hid (by rw [hrl.out, HSG.out, HST.out])
          rw [HST.out] at HDEC HTOT
          rw [h0] at e0
          go_wp2_with fail
          refine (nextW w0 b off cap ms p _ j HI.out.pr).mono ?_
          rintro e x1 ⟨⟨sa, sc, rfl, hr⟩, hb1⟩
          have HI1 := hid (HI.out.kept hb1)
          clear hb1 hr
          go_wp2_with fail
          refine (nextW w0 b off cap ms p _ j HI1.out.pr).mono ?_
          rintro e x2 ⟨⟨sa2, sc2, rfl, hr⟩, hb2⟩
          have HI2 := hid (HI1.out.kept hb2)
          clear hb2 hr
          have xb2 := HI2.out.blk.cellF
          have yb2 := HI2.out.blk.frz
          have zb2 := HI2.out.blk.lt
          go_wp2_with fail
          go_region_law (first | (refine step_append_ran rfl _ _ 22 22 rfl rfl _ _ (.slice la ((toD t).oneofs.length + 1) lc) x4 rfl rfl HRUN.out ?_) | (go_simp; go_wp2_with (go_at_call 76; refine (importedW w0 b off cap ms p _ j (by have := HI2.out.pr; exact prBy)).mono ?_; rintro e x3 ⟨hK3, (⟨j3, y, hy1, hy2, rfl, HR3⟩ | ⟨hcd, rfl⟩)⟩; rotate_left; (have hk3 := hid (keep_then hkV.out (HI2.out.frame (show Keep (· ≠ p) _ x3 from ⟨hK3.os, hK3.tape, hK3.output, hK3.size, hK3.block⟩)) (by omega)); exact ⟨rfl, by have := hk3.out; exact kpBy, .inr (by rw [HSI.out, filL_bad hcd]; exact ⟨hcd, rfl⟩)⟩); have HI3 : Hid (FI w0 b off cap ms p ((w.alloc (.cells #[.slice none 0 0, .slice none 0 0] 25)).alloc (.cells #[.slice none 0 0, .slice none 0 0] 25)) (w.heap.size + 1) (w.heap.size + 1) 9 x3 j3 ⟨toD t, xf, .slice oa (toD t).oneofs.length oc, .slice da (toD t).decls.length dc, xr, xs⟩) := hid ((HI2.out.kept (by first | exact Below.refl _ _ | exact below_drew1 _)).reader hK3 HR3.out); have hs3 := hK3.size; (try simp at hs3); clear hK3; obtain ⟨la, lc, x4, hrun, hown, hgrow⟩ := appendI (w.heap.size + 1) (.slice oa (toD t).oneofs.length oc) (toD t).oneofs ⟨y.name, y.at1⟩ x3 HI3.out.own.o HI3.out.base_le (by have := HTL.out; omega); have HRUN := hid hrun; have HI4 := hid (HI3.out.addI hgrow hown); have xb3 := HI3.out.blk.cellF; have zb3 := HI3.out.blk.lt; have HB4 : Blk x4 (w.heap.size + 1) 25 _ := (HI3.out.blk.keep (Keep.ofGrow (f := fun q => (Value.slice oa (toD t).oneofs.length oc).ownBlock ≠ some q) hgrow (fun _ hk => hk)) (fun hk => HI3.out.own.me _ (.inr (.inl hk)) rfl)); have xb4 := HB4.cellF; have yb4 := HB4.frz; clear hrun hown hgrow HB4)))
          all_goals (go_wp2; exact ⟨⟨j3, ⟨_, xf, .slice la ((toD t).oneofs.length + 1) lc, .slice da (toD t).decls.length dc, xr, xs⟩, ⟨t.imps ++ [y], t.decls⟩, hid (by rw [HSI.out]; rw [← hy2.out, hy1.out]), hid (by exact toD_imp t y), HI4, hid (by
            have h1 := htot.out
            have h2 := HTOT.out
            rw [← hy2.out, hy1.out] at h2; simp only [List.length_append, List.length_cons, List.length_nil] at h2 ⊢; omega)⟩, by
            have h1 := HDEC.out
            rw [hy1.out] at h1
            have h2 := stA_mu HI.out.pr.lt HI4.out.pr.lt h1
            have h3 := HI4.out.pr.lt
            rw [hm0, HI4.out.pr.ix]
            omega⟩)
      | false =>
      cases h1 : isM (stA ms j) wMessage with
      | true =>
          have HST : Hid (filSt (t, stA ms j) = (⟨t.imps, t.decls ++ [(dclM 8 (stA ms j)).1]⟩, (dclM 8 (stA ms j)).2)) := hid (by unfold filSt; rw [if_neg (by rw [h0]; decide), if_pos (.inl h1)])
          have HSI : Hid ((filL (⟨[], []⟩, stA ms i)) = filL (⟨t.imps, t.decls ++ [(dclM 8 (stA ms j)).1]⟩, (dclM 8 (stA ms j)).2)) := hid (by rw [hrl.out, HSG.out, HST.out])
          have HH1 := hid h1
          rw [HST.out] at HDEC HTOT
          rw [h0] at e0
          rw [h1] at e1
          go_wp2_with fail
          refine (nextW w0 b off cap ms p _ j HI.out.pr).mono ?_
          rintro e x1 ⟨⟨sa, sc, rfl, hr⟩, hb1⟩
          have HI1 := hid (HI.out.kept hb1)
          clear hb1 hr
          go_wp2_with fail
          refine (nextW w0 b off cap ms p _ j HI1.out.pr).mono ?_
          rintro e x2 ⟨⟨sa2, sc2, rfl, hr⟩, hb2⟩
          have HI2 := hid (HI1.out.kept hb2)
          clear hb2 hr
          have xb2 := HI2.out.blk.cellF
          have yb2 := HI2.out.blk.frz
          have zb2 := HI2.out.blk.lt
          go_wp2_with fail
          go_region_law (first | (obtain ⟨la, lm, lc, x4, HRUN, HB4, HI4⟩ := HI2.out.more HTL.out.2 hK3.out HR3.out hrd.out; refine step_append_ran rfl _ _ 23 23 rfl rfl _ _ (.slice la lm lc) x4 rfl rfl HRUN.out ?_; have xb4 := HB4.out.cellF; have yb4 := HB4.out.frz; have zb4 := HB4.out.lt) | (go_simp; go_wp2_with (go_at_call 77; refine (HMM.out 0 _ j (by decide) HH1.out (by have := HI2.out.pr; exact prBy)).mono ?_; rintro e x3 hc; obtain (⟨j3, yd, a1, n1, c1, a2, n2, c2, a3, n3, c3, a4, n4, c4, a5, n5, c5, rfl, hy1, hy2, hK3, HR3, hrd⟩ | ⟨⟨hcd, rfl⟩, hkf⟩) := HI2.out.call (m := 9) (by first | exact Keep.refl _ _ | exact kp_drew (Keep.refl _ _)) (by omega) hc; rotate_left; (have hk3 := hid (keep_then hkV.out hkf.out (by omega)); exact ⟨rfl, by have := hk3.out; exact kpBy, .inr (by rw [HSI.out, filL_bad hcd]; exact ⟨hcd, rfl⟩)⟩); clear hc; have xb3 := (HI2.out.reader hK3.out HR3.out).blk.cellF; have zb3 := (HI2.out.reader hK3.out HR3.out).blk.lt)))
          all_goals (go_wp2; exact ⟨⟨j3, ⟨_, xf, .slice oa (toD t).oneofs.length oc, .slice la lm lc, xr, xs⟩, ⟨t.imps, t.decls ++ [yd]⟩, hid (by rw [HSI.out]; rw [← hy2.out, hy1.out]), hid (by exact toD_dcl t yd), HI4, hid (by
            have h1 := htot.out
            have h2 := HTOT.out
            rw [← hy2.out, hy1.out] at h2; simp only [List.length_append, List.length_cons, List.length_nil] at h2 ⊢; omega)⟩, by
            have h1 := HDEC.out
            rw [hy1.out] at h1
            have h2 := stA_mu HI.out.pr.lt HI4.out.pr.lt h1
            have h3 := HI4.out.pr.lt
            rw [hm0, HI4.out.pr.ix]
            omega⟩)
      | false =>
      cases h2 : isM (stA ms j) wEnum with
      | true =>
          have HST : Hid (filSt (t, stA ms j) = (⟨t.imps, t.decls ++ [(enmM (stA ms j)).1]⟩, (enmM (stA ms j)).2)) := hid (by unfold filSt; rw [if_neg (by rw [h0]; decide), if_pos (.inr h2), dcl_enum h2])
          have HSI : Hid ((filL (⟨[], []⟩, stA ms i)) = filL (⟨t.imps, t.decls ++ [(enmM (stA ms j)).1]⟩, (enmM (stA ms j)).2)) := hid (by rw [hrl.out, HSG.out, HST.out])
          rw [HST.out] at HDEC HTOT
          rw [h0] at e0
          rw [h1] at e1
          rw [h2] at e2
          go_wp2_with fail
          refine (nextW w0 b off cap ms p _ j HI.out.pr).mono ?_
          rintro e x1 ⟨⟨sa, sc, rfl, hr⟩, hb1⟩
          have HI1 := hid (HI.out.kept hb1)
          clear hb1 hr
          go_wp2_with fail
          refine (nextW w0 b off cap ms p _ j HI1.out.pr).mono ?_
          rintro e x2 ⟨⟨sa2, sc2, rfl, hr⟩, hb2⟩
          have HI2 := hid (HI1.out.kept hb2)
          clear hb2 hr
          have xb2 := HI2.out.blk.cellF
          have yb2 := HI2.out.blk.frz
          have zb2 := HI2.out.blk.lt
          go_wp2_with fail
          go_region_law (first | (obtain ⟨la, lm, lc, x4, HRUN, HB4, HI4⟩ := HI2.out.more HTL.out.2 hK3.out HR3.out hrd.out; refine step_append_ran rfl _ _ 23 23 rfl rfl _ _ (.slice la lm lc) x4 rfl rfl HRUN.out ?_; have xb4 := HB4.out.cellF; have yb4 := HB4.out.frz; have zb4 := HB4.out.lt) | (go_simp; go_wp2_with (go_at_call 78; refine (enumW w0 b off cap ms p _ j HML.out (by have := HI2.out.pr; exact prBy)).mono ?_; rintro e x3 hc; obtain (⟨j3, yd, a1, n1, c1, a2, n2, c2, a3, n3, c3, a4, n4, c4, a5, n5, c5, rfl, hy1, hy2, hK3, HR3, hrd⟩ | ⟨⟨hcd, rfl⟩, hkf⟩) := HI2.out.call (m := 1) (by first | exact Keep.refl _ _ | exact kp_drew (Keep.refl _ _)) (by omega) hc; rotate_left; (have hk3 := hid (keep_then hkV.out hkf.out (by omega)); exact ⟨rfl, by have := hk3.out; exact kpBy, .inr (by rw [HSI.out, filL_bad hcd]; exact ⟨hcd, rfl⟩)⟩); clear hc; have xb3 := (HI2.out.reader hK3.out HR3.out).blk.cellF; have zb3 := (HI2.out.reader hK3.out HR3.out).blk.lt)))
          all_goals (go_wp2; exact ⟨⟨j3, ⟨_, xf, .slice oa (toD t).oneofs.length oc, .slice la lm lc, xr, xs⟩, ⟨t.imps, t.decls ++ [yd]⟩, hid (by rw [HSI.out]; rw [← hy2.out, hy1.out]), hid (by exact toD_dcl t yd), HI4, hid (by
            have h1 := htot.out
            have h2 := HTOT.out
            rw [← hy2.out, hy1.out] at h2; simp only [List.length_append, List.length_cons, List.length_nil] at h2 ⊢; omega)⟩, by
            have h1 := HDEC.out
            rw [hy1.out] at h1
            have h2 := stA_mu HI.out.pr.lt HI4.out.pr.lt h1
            have h3 := HI4.out.pr.lt
            rw [hm0, HI4.out.pr.ix]
            omega⟩)
      | false =>
          have HST : Hid (filSt (t, stA ms j) = (t, badM (stA ms j) 11)) := hid (by unfold filSt; rw [if_neg (by rw [h0]; decide), if_neg (by rw [h1, h2]; decide)])
          have HB : Hid ((badM (stA ms j) 11).cd ≠ 0) := hid (bad_cd (by decide))
          have HSI : Hid ((filL (⟨[], []⟩, stA ms i)) = (t, badM (stA ms j) 11)) := hid (by rw [hrl.out, HSG.out, HST.out, filL_bad HB.out])
          rw [h0] at e0
          rw [h1] at e1
          rw [h2] at e2
          go_wp2_with fail
          refine (nextW w0 b off cap ms p _ j HI.out.pr).mono ?_
          rintro e x1 ⟨⟨sa, sc, rfl, hr⟩, hb1⟩
          have HI1 := hid (HI.out.kept hb1)
          clear hb1 hr
          go_wp2_with fail
          refine (nextW w0 b off cap ms p _ j HI1.out.pr).mono ?_
          rintro e x2 ⟨⟨sa2, sc2, rfl, hr⟩, hb2⟩
          have HI2 := hid (HI1.out.kept hb2)
          clear hb2 hr
          have xb2 := HI2.out.blk.cellF
          have yb2 := HI2.out.blk.frz
          have zb2 := HI2.out.blk.lt
          go_wp2_with fail
          refine (giveUpW w0 b off cap ms p _ j 11 HI2.out.pr).mono ?_
          rintro e x3 ⟨rfl, hb3⟩
          have hk3 := hid (keep_then hkV.out (HI2.out.frame (Keep.ofBelow hb3)) (by omega))
          clear hb3
          go_wp2
          exact ⟨rfl, by have := hk3.out; exact kpBy, .inr (by rw [HSI.out]; exact ⟨HB.out, by unfold badM; rw [if_pos (show (stA ms j).cd = 0 from rfl)]⟩)⟩
end
/-- What the words of a text are read as. -/
def parseG (g : List Mw × Int × Int × Int) : MT × Int × Int × Int :=
  if g.2.1 = 0 then (if (wsM g.1).2.cd = 0 then ((wsM g.1).1, 0, 0, 0) else (⟨[], []⟩, (wsM g.1).2.cd, (wsM g.1).2.ln, (wsM g.1).2.cl)) else (⟨[], []⟩, g.2.1, g.2.2.1, g.2.2.2)
def parseE (xs : List Int) : MT × Int × Int × Int := parseG (outE xs)
def txA : List Int := [109, 101, 115, 115, 97, 103, 101, 32, 65, 32, 123, 32, 111, 112, 116, 105, 111, 110, 97, 108, 32, 105, 110, 116, 51, 50, 32, 120, 32, 61, 32, 49, 59, 32, 125]
def fA1 : MF := ⟨[120], [105, 110, 116, 51, 50], [], 1, 1, 0, 0, (1, 28), (1, 32), (1, 22), (1, 13)⟩
def dA1 : MD := ⟨false, [65], (1, 9), [fA1], [], [], [], []⟩
theorem evA : parseE txA = (⟨[], [dA1]⟩, 0, 0, 0) := by kernel_rfl
end Go.Proofs.YtidimdbnnnpplaaGreatDoor
