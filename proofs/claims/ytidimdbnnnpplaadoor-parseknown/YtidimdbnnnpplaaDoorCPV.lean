/-
  The reader of the program parse: a oneof.
  The reader's tree: a form that gave up is caught by recover.
  The reader's tree, over what file answers.
  The last struct of a row of declarations is stored anew.
  The reader of the program parse: which member it is.
  The reader of the program parse: a member, over what a message answers.
-/
import Derived.Test.YtidimdbnnnpplaaDoorCPNb
import Derived.Test.YtidimdbnnnpplaaDoorCPMb
import Derived.Test.YtidimdbnnnpplaaDoorCPO
import Derived.Deep.CutRange
import Derived.Test.YtidimdbnnnpplaaDoorCPKb
import Derived.Defers
import Derived.Recover
import Derived.Tactics
import Derived.Tactics2
import Derived.Laws.Pointers
import Derived.Laws.OwnMore
namespace Go.Proofs.YtidimdbnnnpplaaDoor
open Go.RowKit
set_option maxRecDepth 1000000
set_option linter.unusedVariables false
set_option linter.unusedSimpArgs false
set_option maxHeartbeats 8000000

theorem plain_oneof : plainW [111, 110, 101, 111, 102] := ⟨by decide, 111, [110, 101, 111, 102], rfl, by decide, by decide⟩
theorem oneL_go {i : Int} {l : List MF} {s : PS} (h0 : s.cd = 0) (h : isM s [125] = false) : oneL i (l, s) = oneL i (l ++ [(oneM i s).1], (oneM i s).2) := by
  unfold oneL
  exact whM_go (p := fun x : List MF × PS => x.2) (x := (l, s)) (one_dec i) (by unfold endC; simp [h0, h])
theorem oneL_stop {i : Int} {l : List MF} {s : PS} (h : isM s [125] = true) : oneL i (l, s) = (l, s) := by
  unfold oneL
  exact whM_stop (by unfold endC; simp [h])
theorem mu_one_lt {i : Int} {s : PS} (h : s.cd = 0) : muM (oneM i s).2 < muM s := mu_fld_lt h _ _
section
variable (w0 : World) (b off cap : Nat) (ms : List Mw) (p : Nat) (w : World) (i : Nat) (base pd n : Nat)
theorem oneofW (x : DV) (hml : ms.length ≤ 70000) (htot : tot x.d + 3 * muM (stA ms i) ≤ 300000) (h : DI w0 b off cap ms p w base pd n w i x) : Calls Tryd.prog 55 #[.pointer (some ⟨p, 0, none⟩), .pointer (some ⟨pd, 0, none⟩)] w fun e w' => (∃ j x', Hid ((oneofM x.d (stA ms i)).2 = stA ms j) ∧ Hid (x'.d = (oneofM x.d (stA ms i)).1) ∧ e = .returned (.tuple #[]) ∧ Hid (DI w0 b off cap ms p w base pd n w' j x')) ∨ (Fell (oneofM x.d (stA ms i)).2 e ∧ Keep (fun k => k ≠ p ∧ k < base) w w') := by
  have hpl : p < w.heap.size := h.pr.blk.lt
  have HI0 := hid h
  have HTT := hid htot
  have HML := hid hml
  clear h htot hml
  obtain ⟨xd, xf, xo, xdd, xr, xs⟩ := x
  dsimp only at *
  obtain ⟨oa, oc, rfl⟩ : ∃ oa oc, xo = .slice oa xd.oneofs.length oc := own_shape HI0.out.own.o
  obtain ⟨fa, fc, rfl⟩ : ∃ fa fc, xf = .slice fa xd.fields.length fc := own_shape HI0.out.own.f
  have HTO : Hid (xd.oneofs.length ≤ 300000) := hid (by have := HTT.out; unfold tot at this; omega)
  have HTF : Hid (xd.fields.length ≤ 300000) := hid (by have := HTT.out; unfold tot at this; omega)
  have hol : (xd.oneofs.length : Int) ≤ 9223372036854775807 := by have := HTO.out; omega
  have HX : Hid (oneofM xd (stA ms i) = ({ xd with oneofs := xd.oneofs ++ [⟨(onA (stA ms i)).1.s, atM (onA (stA ms i)).1⟩], fields := (onB (xd.oneofs.length : Int) xd.fields (stA ms i)).1 }, eatM (onB (xd.oneofs.length : Int) xd.fields (stA ms i)).2 [125])) := hid rfl
  have HXB : Hid (onB (xd.oneofs.length : Int) xd.fields (stA ms i) = oneL (xd.oneofs.length : Int) (oneSt (xd.oneofs.length : Int) (xd.fields, eatM (onA (stA ms i)).2 [123]))) := hid rfl
  have HXb : Hid (∀ S, (eatM (onA (stA ms i)).2 [123]) = S → S.cd ≠ 0 → (oneofM xd (stA ms i)).2 = S) := hid (fun S e h => by rw [HX.out]; simp only []; rw [HXB.out, e]; unfold oneSt; simp only [one_bad h]; rw [oneL_bad h]; simp only [eat_bad h])
  go_enter Tryd.func55, Tryd.ntmps55
  go_wp2_with fail
  refine (skipW w0 b off cap ms p _ i ⟨#[111, 110, 101, 111, 102]⟩ wOneof rfl plain_oneof HI0.out.pr).mono ?_
  rintro e w1 ⟨hK1, (⟨j1, ua, uc, he1, rfl, HR1⟩ | ⟨hcd, rfl⟩)⟩
  case inr =>
    have hk1 := hid (HI0.out.frame hK1)
    clear hK1
    go_wp2
    exact ⟨rfl, .inr ⟨by rw [HXb.out (eatM (stA ms i) wOneof) (by unfold onA; simp only [take_bad hcd, eat_bad hcd]) hcd]; exact ⟨hcd, rfl⟩, by have := hk1.out; (repeat (first | with_reducible assumption | with_reducible refine kpall15 ?_ (by first | (refine Or.inr ?_; first | (simp; done) | (simp; omega) | omega)) | with_reducible refine kpall9 ?_ (by first | (refine Or.inr ?_; first | (simp; done) | (simp; omega) | omega)) | with_reducible refine kpall6 ?_ (by first | (refine Or.inr ?_; first | (simp; done) | (simp; omega) | omega)) | with_reducible refine kp_set ?_ (by first | (refine Or.inl ?_; simp; done) | (refine Or.inr ?_; first | (simp; done) | (simp; omega) | omega)) _ | with_reducible refine kp_alloc ?_ _ | with_reducible refine kp_drew ?_ | with_reducible refine kp_drewN ?_ _ | with_reducible exact Keep.refl _ _))⟩⟩
  have HI1 := hid (HI0.out.reader hK1 HR1.out)
  clear hK1 HR1
  go_wp2_with fail
  refine (takeW w0 b off cap ms p _ j1 1 (by decide) HI1.out.pr).mono ?_
  rintro e w2 ⟨hK2, (⟨j2, m1, sa, sc, he2, hm1, rfl, hr1, ho1, HR2⟩ | ⟨hcd, rfl⟩)⟩
  case inr =>
    have hk2 := hid (HI1.out.frame hK2)
    clear hK2
    go_wp2
    exact ⟨rfl, .inr ⟨by rw [HXb.out (takeM (stA ms j1) 1).2 (by unfold onA; rw [he1.out]; simp only [eat_bad hcd]) hcd]; exact ⟨hcd, rfl⟩, by have := hk2.out; (repeat (first | with_reducible assumption | with_reducible refine kpall15 ?_ (by first | (refine Or.inr ?_; first | (simp; done) | (simp; omega) | omega)) | with_reducible refine kpall9 ?_ (by first | (refine Or.inr ?_; first | (simp; done) | (simp; omega) | omega)) | with_reducible refine kpall6 ?_ (by first | (refine Or.inr ?_; first | (simp; done) | (simp; omega) | omega)) | with_reducible refine kp_set ?_ (by first | (refine Or.inl ?_; simp; done) | (refine Or.inr ?_; first | (simp; done) | (simp; omega) | omega)) _ | with_reducible refine kp_alloc ?_ _ | with_reducible refine kp_drew ?_ | with_reducible refine kp_drewN ?_ _ | with_reducible exact Keep.refl _ _))⟩⟩
  have HI2 := hid (HI1.out.reader hK2 HR2.out)
  clear hK2 HR2
  have HOA : Hid (onA (stA ms i) = (m1, stA ms j2)) := hid (by unfold onA; rw [he1.out, hm1.out, ← he2.out])
  have xb2 := HI2.out.blk.cellF
  have yb2 := HI2.out.blk.frz
  have zb2 := HI2.out.blk.lt
  have hlo := HI0.out.lo
  have hup := HI0.out.up
  go_upto_region 3 with fail
  go_cut [] from 15 to 28 (fun wc => ∃ v, Hid (DI w0 b off cap ms p w base pd n wc j2 ⟨({ xd with oneofs := xd.oneofs ++ [(⟨m1.s, atM m1⟩ : MO)] } : MD), .slice fa xd.fields.length fc, v, xdd, xr, xs⟩))
  case first =>
    have Bm : Blk (w2.alloc (.cells #[.int .i64 m1.kind, .string (strOfNums m1.s), .int .u64 m1.n, .slice sa m1.b.length sc, .int .i64 m1.line, .int .i64 m1.col] 85)) w2.heap.size 85 #[.int .i64 m1.kind, .string (strOfNums m1.s), .int .u64 m1.n, .slice sa m1.b.length sc, .int .i64 m1.line, .int .i64 m1.col] := Blk.newAt rfl
    have HIm := hid (HI2.out.kept (below_alloc (.cells #[.int .i64 m1.kind, .string (strOfNums m1.s), .int .u64 m1.n, .slice sa m1.b.length sc, .int .i64 m1.line, .int .i64 m1.col] 85)))
    have zmm : w2.heap.size < (w2.alloc (.cells #[.int .i64 m1.kind, .string (strOfNums m1.s), .int .u64 m1.n, .slice sa m1.b.length sc, .int .i64 m1.line, .int .i64 m1.col] 85)).heap.size := by simp
    have zpm : pd < (w2.alloc (.cells #[.int .i64 m1.kind, .string (strOfNums m1.s), .int .u64 m1.n, .slice sa m1.b.length sc, .int .i64 m1.line, .int .i64 m1.col] 85)).heap.size := by simp; omega
    generalize w2.alloc (.cells #[.int .i64 m1.kind, .string (strOfNums m1.s), .int .u64 m1.n, .slice sa m1.b.length sc, .int .i64 m1.line, .int .i64 m1.col] 85) = wm at *
    have xm := Bm.cellF
    have xbm := HIm.out.blk.cellF
    have ybm := HIm.out.blk.frz
    go_region_law (first | (refine step_append_ran rfl _ _ 37 37 rfl rfl _ _ (.slice la (xd.oneofs.length + 1) lc) w4 rfl rfl HRUN.out ?_) | (go_simp; go_wp2_with (go_at_call 43; refine (placeOfW _ m1 sa sc).mono ?_; rintro e w3 ⟨rfl, hb3⟩; have Vm : Hid (Blk w3 w2.heap.size 85 #[.int .i64 m1.kind, .string (strOfNums m1.s), .int .u64 m1.n, .slice sa m1.b.length sc, .int .i64 m1.line, .int .i64 m1.col]) := hid (Blk.kept (Bm.kept (below_drew1 _)) hb3); have HI3 := hid ((HIm.out.kept (below_drew1 _)).kept hb3); have hs3 := hb3.size; (try simp at hs3); clear hb3; obtain ⟨la, lc, w4, hrun, hown, hgrow⟩ := appendO base (.slice oa xd.oneofs.length oc) xd.oneofs ⟨m1.s, atM m1⟩ w3 HI3.out.own.o HI3.out.base_le (by have := HTO.out; omega); have xm3 := Vm.out.cellF; have HRUN := hid hrun; have Gm := hid (grow_blk hgrow HI3.out.own.o Vm.out (by decide)); have HI4 := hid (HI3.out.addO hgrow hown); have xb3 := HI3.out.blk.cellF; have zb3 := HI3.out.blk.lt; have HB4 : Blk w4 pd 41 _ := (HI3.out.blk.keep (Keep.ofGrow (f := fun q => (Value.slice oa xd.oneofs.length oc).ownBlock ≠ some q) hgrow (fun _ hk => hk)) (fun hk => HI3.out.own.me pd (.inr (.inl hk)) rfl)); have xb4 := HB4.cellF; have yb4 := HB4.frz; clear hrun hown hgrow HB4)))
    all_goals (go_wp2_with fail; go_meet; exact ⟨_, HI4⟩)
  case rest =>
    obtain ⟨vo, HIc⟩ := hcut
    clear xb2 yb2 zb2 HI2 HI1 HI0
    go_wp2_with fail
    refine (skipW w0 b off cap ms p _ j2 ⟨#[123]⟩ [123] rfl plain_lc HIc.out.pr).mono ?_
    rintro e w3 ⟨hK3, (⟨j3, va, vc, he3, rfl, HR3⟩ | ⟨hcd, rfl⟩)⟩
    case inr =>
      have hk3 := hid (HIc.out.frame hK3)
      clear hK3
      go_wp2
      exact ⟨rfl, .inr ⟨by rw [HXb.out (eatM (stA ms j2) [123]) (by rw [HOA.out]) hcd]; exact ⟨hcd, rfl⟩, by have := hk3.out; (repeat (first | with_reducible assumption | with_reducible refine kpall15 ?_ (by first | (refine Or.inr ?_; first | (simp; done) | (simp; omega) | omega)) | with_reducible refine kpall9 ?_ (by first | (refine Or.inr ?_; first | (simp; done) | (simp; omega) | omega)) | with_reducible refine kpall6 ?_ (by first | (refine Or.inr ?_; first | (simp; done) | (simp; omega) | omega)) | with_reducible refine kp_set ?_ (by first | (refine Or.inl ?_; simp; done) | (refine Or.inr ?_; first | (simp; done) | (simp; omega) | omega)) _ | with_reducible refine kp_alloc ?_ _ | with_reducible refine kp_drew ?_ | with_reducible refine kp_drewN ?_ _ | with_reducible exact Keep.refl _ _))⟩⟩
    have HI3 := hid (HIc.out.reader hK3 HR3.out)
    clear hK3 HR3 HIc
    have HON : Hid (onB (xd.oneofs.length : Int) xd.fields (stA ms i) = oneL (xd.oneofs.length : Int) (xd.fields ++ [(oneM (xd.oneofs.length : Int) (stA ms j3)).1], (oneM (xd.oneofs.length : Int) (stA ms j3)).2)) := hid (by rw [HXB.out, HOA.out]; simp only []; rw [he3.out]; rfl)
    have xb3 := HI3.out.blk.cellF
    have yb3 := HI3.out.blk.frz
    have zb3 := HI3.out.blk.lt
    go_upto_region 5 with fail
    go_cut [] from 31 to 42 (fun wc => ∃ j4 g v, Hid ((oneM (xd.oneofs.length : Int) (stA ms j3)).2 = stA ms j4) ∧ Hid (g = (oneM (xd.oneofs.length : Int) (stA ms j3)).1) ∧ Hid (DI w0 b off cap ms p w base pd n wc j4 ⟨{ ({ xd with oneofs := xd.oneofs ++ [(⟨m1.s, atM m1⟩ : MO)] } : MD) with fields := xd.fields ++ [g] }, v, vo, xdd, xr, xs⟩))
    case first =>
      go_region_law (first | (refine step_append_ran rfl _ _ 36 36 rfl rfl _ _ (.slice law4 (xd.fields.length + 1) lcw4) w5 rfl rfl HRUNw4.out ?_) | (go_simp; go_wp2_with (go_at_call 69; refine (oneW w0 b off cap ms p _ j3 (xd.oneofs.length : Int) HML.out (by have := HI3.out.pr; (repeat (first | with_reducible assumption | with_reducible refine prall15 ?_ (by first | (simp; done) | (simp; omega) | omega) | with_reducible refine prall9 ?_ (by first | (simp; done) | (simp; omega) | omega) | with_reducible refine prall6 ?_ (by first | (simp; done) | (simp; omega) | omega) | with_reducible refine PR.set ?_ (by first | (simp; done) | (simp; omega) | omega) _ | with_reducible refine PR.alloc ?_ _ | with_reducible refine PR.drew ?_)))).mono ?_; rintro e w4 ⟨hKw4, (⟨jw4, yw4, hy1w4, hy2w4, rfl, HRw4⟩ | ⟨hcd, rfl⟩)⟩; rotate_left; (have hkw4 := hid (HI3.out.frame (show Keep (· ≠ p) _ w4 from ⟨hKw4.os, hKw4.tape, hKw4.output, hKw4.size, hKw4.block⟩)); exact ⟨rfl, .inr ⟨by rw [HX.out, HON.out, oneL_bad hcd]; simp only [eat_bad hcd]; exact ⟨hcd, rfl⟩, by have := hkw4.out; (repeat (first | with_reducible assumption | with_reducible refine kpall15 ?_ (by first | (refine Or.inr ?_; first | (simp; done) | (simp; omega) | omega)) | with_reducible refine kpall9 ?_ (by first | (refine Or.inr ?_; first | (simp; done) | (simp; omega) | omega)) | with_reducible refine kpall6 ?_ (by first | (refine Or.inr ?_; first | (simp; done) | (simp; omega) | omega)) | with_reducible refine kp_set ?_ (by first | (refine Or.inl ?_; simp; done) | (refine Or.inr ?_; first | (simp; done) | (simp; omega) | omega)) _ | with_reducible refine kp_alloc ?_ _ | with_reducible refine kp_drew ?_ | with_reducible refine kp_drewN ?_ _ | with_reducible exact Keep.refl _ _))⟩⟩); have HIw4 : Hid (DI w0 b off cap ms p w base pd n w4 jw4 ⟨({ xd with oneofs := xd.oneofs ++ [(⟨m1.s, atM m1⟩ : MO)] } : MD), .slice fa xd.fields.length fc, vo, xdd, xr, xs⟩) := hid ((HI3.out.kept (by first | exact Below.refl _ _ | exact below_drew1 _)).reader hKw4 HRw4.out); have hsw4 := hKw4.size; (try simp at hsw4); clear hKw4; obtain ⟨law4, lcw4, w5, hrunw4, hownw4, hgroww4⟩ := appendF base (.slice fa xd.fields.length fc) xd.fields yw4 w4 HIw4.out.own.f HIw4.out.base_le (by have := HTF.out; omega); have HRUNw4 := hid hrunw4; have HIw5 := hid (HIw4.out.addF hgroww4 hownw4); have xbw4 := HIw4.out.blk.cellF; have zbw4 := HIw4.out.blk.lt; have HBw5 : Blk w5 pd 41 _ := (HIw4.out.blk.keep (Keep.ofGrow (f := fun q => (Value.slice fa xd.fields.length fc).ownBlock ≠ some q) hgroww4 (fun _ hk => hk)) (fun hk => HIw4.out.own.me pd (.inl hk) rfl)); have xbw5 := HBw5.cellF; have ybw5 := HBw5.frz; clear hrunw4 hownw4 hgroww4 HBw5)))
      all_goals (go_wp2_with fail; go_meet; exact ⟨jw4, yw4, _, hy1w4, hy2w4, HIw5⟩)
    case rest =>
      obtain ⟨j4, g, vf, he4, hg, HIc⟩ := hcut
      clear xb3 yb3 zb3 HI3
      have HTB : Hid ((xd.fields ++ [g]).length + 3 * muM (stA ms j4) ≤ 300000) := hid (by
        have h1 := HTT.out
        have h2 : muM (stA ms j4) < muM (stA ms j3) := by rw [← he4.out]; exact mu_one_lt rfl
        have h3 : muM (stA ms j3) ≤ muM (stA ms j2) := by rw [← he3.out]; exact mu_eat _ _
        have h4 : muM (stA ms j2) ≤ muM (stA ms j1) := by rw [← he2.out]; exact mu_take _ (by decide)
        have h5 : muM (stA ms j1) ≤ muM (stA ms i) := by rw [← he1.out]; exact mu_eat _ _
        unfold tot at h1
        simp
        omega)
      go_wp2
      go_loopw [] (fun wr => ∃ j l v, Hid (oneL (xd.oneofs.length : Int) (xd.fields ++ [g], stA ms j4) = oneL (xd.oneofs.length : Int) (l, stA ms j)) ∧ Hid (DI w0 b off cap ms p w base pd n wr j ⟨{ ({ xd with oneofs := xd.oneofs ++ [(⟨m1.s, atM m1⟩ : MO)] } : MD) with fields := l }, v, vo, xdd, xr, xs⟩) ∧ Hid (l.length + 3 * muM (stA ms j) ≤ 300000)) (fun wr => ms.length - ixW wr p)
      case atStart => exact ⟨j4, xd.fields ++ [g], vf, hid rfl, HIc, HTB⟩
      case round =>
        clear HIc HTB
        obtain ⟨j, l, v, hrl, HI, htb⟩ := hrel
        have hm0 := HI.out.pr.ix
        have HTL : Hid (l.length ≤ 300000) := hid (by have := htb.out; omega)
        obtain ⟨ga, gc, rfl⟩ : ∃ ga gc, v = .slice ga l.length gc := own_shape HI.out.own.f
        cases hi : isM (stA ms j) [125] with
        | false =>
          have HSG := hid (oneL_go (i := (xd.oneofs.length : Int)) (l := l) (s := stA ms j) rfl hi)
          go_wp2_with fail
          refine (isNextW w0 b off cap ms p _ j ⟨#[125]⟩ [125] rfl plain_rc HI.out.pr).mono ?_
          rintro e x1 ⟨rfl, hb1⟩
          rw [hi]
          have HI1 := hid (HI.out.kept hb1)
          clear hb1
          have hs2 := HI1.out.blk.lt
          have xb2 := HI1.out.blk.cellF
          have yb2 := HI1.out.blk.frz
          go_wp2_with fail
          go_region_law (first | (refine step_append_ran rfl _ _ 36 36 rfl rfl _ _ (.slice lax3 (l.length + 1) lcx3) x4 rfl rfl HRUNx3.out ?_) | (go_simp; go_wp2_with (go_at_call 69; refine (oneW w0 b off cap ms p _ j (xd.oneofs.length : Int) HML.out (by have := HI1.out.pr; (repeat (first | with_reducible assumption | with_reducible refine prall15 ?_ (by first | (simp; done) | (simp; omega) | omega) | with_reducible refine prall9 ?_ (by first | (simp; done) | (simp; omega) | omega) | with_reducible refine prall6 ?_ (by first | (simp; done) | (simp; omega) | omega) | with_reducible refine PR.set ?_ (by first | (simp; done) | (simp; omega) | omega) _ | with_reducible refine PR.alloc ?_ _ | with_reducible refine PR.drew ?_)))).mono ?_; rintro e x3 ⟨hKx3, (⟨jx3, yx3, hy1x3, hy2x3, rfl, HRx3⟩ | ⟨hcd, rfl⟩)⟩; rotate_left; (have hkx3 := hid (HI1.out.frame (show Keep (· ≠ p) _ x3 from ⟨hKx3.os, hKx3.tape, hKx3.output, hKx3.size, hKx3.block⟩)); exact ⟨rfl, .inr ⟨by rw [HX.out, HON.out, ← hg.out, he4.out, hrl.out, HSG.out, oneL_bad hcd]; simp only [eat_bad hcd]; exact ⟨hcd, rfl⟩, by have := hkx3.out; (repeat (first | with_reducible assumption | with_reducible refine kpall15 ?_ (by first | (refine Or.inr ?_; first | (simp; done) | (simp; omega) | omega)) | with_reducible refine kpall9 ?_ (by first | (refine Or.inr ?_; first | (simp; done) | (simp; omega) | omega)) | with_reducible refine kpall6 ?_ (by first | (refine Or.inr ?_; first | (simp; done) | (simp; omega) | omega)) | with_reducible refine kp_set ?_ (by first | (refine Or.inl ?_; simp; done) | (refine Or.inr ?_; first | (simp; done) | (simp; omega) | omega)) _ | with_reducible refine kp_alloc ?_ _ | with_reducible refine kp_drew ?_ | with_reducible refine kp_drewN ?_ _ | with_reducible exact Keep.refl _ _))⟩⟩); have HIx3 : Hid (DI w0 b off cap ms p w base pd n x3 jx3 ⟨{ ({ xd with oneofs := xd.oneofs ++ [(⟨m1.s, atM m1⟩ : MO)] } : MD) with fields := l }, .slice ga l.length gc, vo, xdd, xr, xs⟩) := hid ((HI1.out.kept (by first | exact Below.refl _ _ | exact below_drew1 _)).reader hKx3 HRx3.out); have hsx3 := hKx3.size; (try simp at hsx3); clear hKx3; obtain ⟨lax3, lcx3, x4, hrunx3, hownx3, hgrowx3⟩ := appendF base (.slice ga l.length gc) l yx3 x3 HIx3.out.own.f HIx3.out.base_le (by have := HTL.out; omega); have HRUNx3 := hid hrunx3; have HIx4 := hid (HIx3.out.addF hgrowx3 hownx3); have xbx3 := HIx3.out.blk.cellF; have zbx3 := HIx3.out.blk.lt; have HBx4 : Blk x4 pd 41 _ := (HIx3.out.blk.keep (Keep.ofGrow (f := fun q => (Value.slice ga l.length gc).ownBlock ≠ some q) hgrowx3 (fun _ hk => hk)) (fun hk => HIx3.out.own.me pd (.inl hk) rfl)); have xbx4 := HBx4.cellF; have ybx4 := HBx4.frz; clear hrunx3 hownx3 hgrowx3 HBx4)))
          all_goals (go_wp2; exact ⟨⟨jx3, l ++ [yx3], _, hid (by rw [hrl.out, HSG.out, ← hy2x3.out, hy1x3.out]), HIx4, hid (by
            have h1 := htb.out
            have h2 : muM (stA ms jx3) < muM (stA ms j) := by rw [← hy1x3.out]; exact mu_one_lt rfl
            simp
            omega)⟩, by
            have h2 : muM (stA ms jx3) < muM (stA ms j) := by rw [← hy1x3.out]; exact mu_one_lt rfl
            have h4 := stA_mu HI.out.pr.lt HIx4.out.pr.lt h2
            have h5 := HIx4.out.pr.lt
            rw [hm0, HIx4.out.pr.ix]
            omega⟩)
        | true =>
          have HSG := hid (oneL_stop (i := (xd.oneofs.length : Int)) (l := l) hi)
          go_wp2_with fail
          refine (isNextW w0 b off cap ms p _ j ⟨#[125]⟩ [125] rfl plain_rc HI.out.pr).mono ?_
          rintro e x1 ⟨rfl, hb1⟩
          rw [hi]
          have HI1 := hid (HI.out.kept hb1)
          clear hb1
          go_wp2_with fail
          refine (skipW w0 b off cap ms p _ j ⟨#[125]⟩ [125] rfl plain_rc HI1.out.pr).mono ?_
          rintro e x2 ⟨hK2, (⟨k2, ta, tc, hf2, rfl, HR2⟩ | ⟨hcd, rfl⟩)⟩
          case inr =>
            have hk2 := hid (HI1.out.frame hK2)
            clear hK2
            go_wp2
            exact ⟨rfl, .inr ⟨by rw [HX.out, HON.out, ← hg.out, he4.out, hrl.out, HSG.out]; exact ⟨hcd, rfl⟩, by have := hk2.out; (repeat (first | with_reducible assumption | with_reducible refine kpall15 ?_ (by first | (refine Or.inr ?_; first | (simp; done) | (simp; omega) | omega)) | with_reducible refine kpall9 ?_ (by first | (refine Or.inr ?_; first | (simp; done) | (simp; omega) | omega)) | with_reducible refine kpall6 ?_ (by first | (refine Or.inr ?_; first | (simp; done) | (simp; omega) | omega)) | with_reducible refine kp_set ?_ (by first | (refine Or.inl ?_; simp; done) | (refine Or.inr ?_; first | (simp; done) | (simp; omega) | omega)) _ | with_reducible refine kp_alloc ?_ _ | with_reducible refine kp_drew ?_ | with_reducible refine kp_drewN ?_ _ | with_reducible exact Keep.refl _ _))⟩⟩
          have HI2 := hid (HI1.out.reader hK2 HR2.out)
          clear hK2
          go_wp2
          go_end0
          exact .inl ⟨k2, ⟨{ ({ xd with oneofs := xd.oneofs ++ [(⟨m1.s, atM m1⟩ : MO)] } : MD) with fields := l }, .slice ga l.length gc, vo, xdd, xr, xs⟩, hid (by rw [HX.out, HON.out, ← hg.out, he4.out, hrl.out, HSG.out]; exact hf2.out), hid (by rw [HX.out, HON.out, ← hg.out, he4.out, hrl.out, HSG.out, HOA.out]), rfl, HI2⟩
end
end Go.Proofs.YtidimdbnnnpplaaDoor
namespace Go.Proofs.YtidimdbnnnpplaaDoor
open Go.RowKit
set_option maxRecDepth 1000000
set_option linter.unusedVariables false
set_option linter.unusedSimpArgs false
set_option maxHeartbeats 4000000

theorem assertYes (t : TypeId) (v : Value) (W : World) : (Instr.typeAssert (.iface 28 v) t 28 true).run Tryd.prog W = .ok (.tuple #[v, .bool true]) W := by
  simp [Instr.typeAssert, run_underlying Tryd.underlying28]
theorem assertNo (t : TypeId) (W : World) : (Instr.typeAssert .nilIface t 28 true).run Tryd.prog W = .ok (.tuple #[.agg #[.int .i64 0, .int .i64 0, .int .i64 0, .int .i64 0], .bool false]) W := by
  simp [Instr.typeAssert, run_underlying Tryd.underlying28, Tryd.zeroValue28]
theorem catchP (q1 q2 : Nat) (cd ln cl : Int) (a0 a1 b0 b1 b2 b3 : Value) (older : List PanicEntry) (w : World) (h1 : Blk w q1 25 #[a0, a1]) (h2 : Blk w q2 28 #[b0, b1, b2, b3]) (hne : q1 ≠ q2) :
    CallsD Tryd.prog 11 #[.pointer (some ⟨q1, 0, none⟩), .pointer (some ⟨q2, 0, none⟩)] (.panicking ({ v := .iface 28 (.agg #[.int .i64 cd, .int .i64 0, .int .i64 ln, .int .i64 cl]), recovered := false } :: older)) w fun e u' w' =>
      e = .returned (.tuple #[]) ∧ u' = .panicking ({ v := .iface 28 (.agg #[.int .i64 cd, .int .i64 0, .int .i64 ln, .int .i64 cl]), recovered := true } :: older) ∧ Blk w' q1 25 #[.slice none 0 0, .slice none 0 0] ∧ Blk w' q2 28 #[.int .i64 cd, .int .i64 0, .int .i64 ln, .int .i64 cl] ∧ Keep (fun k => k ≠ q1 ∧ k ≠ q2) w w' := by
  have x1 := h1.cellF
  have y1 := h1.frz
  have x2 := h2.cellF
  have y2 := h2.frz
  have z1 := h1.lt
  have z2 := h2.lt
  refine callsD_of_wpS Tryd.func11 rfl fun c₀ cs hu => ?_
  apply wpS_seq
  apply wpS_region
  have hact : (#[Value.pointer (some ⟨q1, 0, none⟩), Value.pointer (some ⟨q2, 0, none⟩)] ++ Array.replicate (Tryd.f11.ntmps - (#[Value.pointer (some ⟨q1, 0, none⟩), Value.pointer (some ⟨q2, 0, none⟩)] : Array Value).size) undef : Array Value) = #[.pointer (some ⟨q1, 0, none⟩), .pointer (some ⟨q2, 0, none⟩), undef, undef, undef, undef, undef, undef, undef, undef, undef, undef] := by
    rw [Tryd.ntmps11]
    rfl
  rw [hact]
  clear hact
  rw [show List.range _ = [0, 1, 2, 3, 4, 5, 6, 7] from rfl]
  have hrec : recoverD (c₀ :: cs) = some (.iface 28 (.agg #[.int .i64 cd, .int .i64 0, .int .i64 ln, .int .i64 cl]), { c₀ with mode := .panicking ({ v := .iface 28 (.agg #[.int .i64 cd, .int .i64 0, .int .i64 ln, .int .i64 cl]), recovered := true } :: older) } :: cs) := by
    simp [recoverD, hu]
  unfold wpOpsS
  simp only [List.getElem?_toArray, List.getElem?_cons_zero, List.getElem?_cons_succ]
  rw [if_pos (by simp [Region.wanted]), show (execOp _ _).run Tryd.prog w = .ok .recover w by simp [execOp, resolve, invoke, builtin]]
  simp only []
  rw [hrec]
  simp only [Act.put, List.setIfInBounds_toArray, List.set_cons_zero, List.set_cons_succ]
  unfold wpOpsS
  simp only [List.getElem?_toArray, List.getElem?_cons_zero, List.getElem?_cons_succ]
  rw [if_pos (by simp [Region.wanted]), show (execOp _ _).run Tryd.prog (w) = .ok (.value (.tuple #[.agg #[.int .i64 cd, .int .i64 0, .int .i64 ln, .int .i64 cl], .bool true])) (w) by simp [execOp, Act.eval, assertYes]]
  simp only [Oper.upon]
  simp only [Act.put, List.setIfInBounds_toArray, List.set_cons_zero, List.set_cons_succ]
  unfold wpOpsS
  simp only [List.getElem?_toArray, List.getElem?_cons_zero, List.getElem?_cons_succ]
  rw [if_pos (by simp [Region.wanted]), show (execOp _ _).run Tryd.prog (w) = .ok (.value (.tuple #[.agg #[.int .i64 cd, .int .i64 0, .int .i64 ln, .int .i64 cl], .bool true])) (w) by simp [execOp, Act.eval]]
  simp only [Oper.upon]
  simp only [Act.put, List.setIfInBounds_toArray, List.set_cons_zero, List.set_cons_succ]
  unfold wpOpsS
  simp only [List.getElem?_toArray, List.getElem?_cons_zero, List.getElem?_cons_succ]
  rw [if_pos (by simp [Region.wanted]), show (execOp _ _).run Tryd.prog (w) = .ok (.value (.agg #[.int .i64 cd, .int .i64 0, .int .i64 ln, .int .i64 cl])) (w) by simp [execOp, Act.eval, go_sem]]
  simp only [Oper.upon]
  simp only [Act.put, List.setIfInBounds_toArray, List.set_cons_zero, List.set_cons_succ]
  unfold wpOpsS
  simp only [List.getElem?_toArray, List.getElem?_cons_zero, List.getElem?_cons_succ]
  rw [if_pos (by simp [Region.wanted]), show (execOp _ _).run Tryd.prog (w) = .ok (.value (.bool true)) (w) by simp [execOp, Act.eval, go_sem]]
  simp only [Oper.upon]
  simp only [Act.put, List.setIfInBounds_toArray, List.set_cons_zero, List.set_cons_succ]
  unfold wpOpsS
  simp only [List.getElem?_toArray, List.getElem?_cons_zero, List.getElem?_cons_succ]
  rw [if_pos (by simp [Region.wanted]), show (execOp _ _).run Tryd.prog (w) = .ok (.value (.pointer (some ⟨w.heap.size, 0, none⟩))) ((w.alloc (.cells #[.int .i64 0, .int .i64 0, .int .i64 0, .int .i64 0] 28))) by simp [execOp, Act.eval, go_sem]]
  simp only [Oper.upon]
  simp only [Act.put, List.setIfInBounds_toArray, List.set_cons_zero, List.set_cons_succ]
  unfold wpOpsS
  simp only [List.getElem?_toArray, List.getElem?_cons_zero, List.getElem?_cons_succ]
  rw [if_pos (by simp [Region.wanted]), show (execOp _ _).run Tryd.prog ((w.alloc (.cells #[.int .i64 0, .int .i64 0, .int .i64 0, .int .i64 0] 28))) = .ok .skip ((w.alloc (.cells #[.int .i64 cd, .int .i64 0, .int .i64 ln, .int .i64 cl] 28))) by simp [execOp, Act.eval, go_sem]]
  simp only [Oper.upon]
  simp only [Act.put, List.setIfInBounds_toArray, List.set_cons_zero, List.set_cons_succ]
  unfold wpOpsS
  simp only [List.getElem?_toArray, List.getElem?_cons_zero, List.getElem?_cons_succ]
  rw [if_pos (by simp [Region.wanted]), show (execOp _ _).run Tryd.prog ((w.alloc (.cells #[.int .i64 cd, .int .i64 0, .int .i64 ln, .int .i64 cl] 28))) = .ok (.value (.bool true)) ((w.alloc (.cells #[.int .i64 cd, .int .i64 0, .int .i64 ln, .int .i64 cl] 28))) by simp [execOp, Act.eval, go_sem]]
  simp only [Oper.upon]
  simp only [Act.put, List.setIfInBounds_toArray, List.set_cons_zero, List.set_cons_succ]
  unfold wpOpsS
  simp only [Exit.thenS]
  apply wpS_seq
  refine wpS_of_wp ?_
  go_wp2
  simp only [Exit.thenS]
  refine wpS_cond (t := true) (by simp [Act.eval]) ?_
  simp only [if_true]
  refine wpS_of_wp ?_
  go_region
  all_goals refine ⟨rfl, _, rfl, .tuple #[], by simp [results, Tryd.results11], rfl, rfl, ?_, ?_, ?_⟩
  · exact ((((((((h1.set 0 _).set 1 _).other hne _).other hne _).other hne _).other hne _).kept (below_alloc _)).kept (below_drew1 _)).is (by simp)
  · exact ((((((((h2.other (Ne.symm hne) _).other (Ne.symm hne) _).set 0 _).set 1 _).set 2 _).set 3 _).kept (below_alloc _)).kept (below_drew1 _)).is (by simp)
  · exact kp_drew (kp_alloc (kp_set (kp_set (kp_set (kp_set (kp_set (kp_set (Keep.refl _ _) (.inl (by simp)) _) (.inl (by simp)) _) (.inl (by simp)) _) (.inl (by simp)) _) (.inl (by simp)) _) (.inl (by simp)) _) _)
/-- Nothing was thrown. -/
theorem catchIdle (q1 q2 : Nat) (w : World) :
    CallsD Tryd.prog 11 #[.pointer (some ⟨q1, 0, none⟩), .pointer (some ⟨q2, 0, none⟩)] .returning w fun e u' w' => e = .returned (.tuple #[]) ∧ u' = .returning ∧ Below w.heap.size w w' := by
  refine callsD_of_wpS Tryd.func11 rfl fun c₀ cs hu => ?_
  apply wpS_seq
  apply wpS_region
  have hact : (#[Value.pointer (some ⟨q1, 0, none⟩), Value.pointer (some ⟨q2, 0, none⟩)] ++ Array.replicate (Tryd.f11.ntmps - (#[Value.pointer (some ⟨q1, 0, none⟩), Value.pointer (some ⟨q2, 0, none⟩)] : Array Value).size) undef : Array Value) = #[.pointer (some ⟨q1, 0, none⟩), .pointer (some ⟨q2, 0, none⟩), undef, undef, undef, undef, undef, undef, undef, undef, undef, undef] := by
    rw [Tryd.ntmps11]
    rfl
  rw [hact]
  clear hact
  rw [show List.range _ = [0, 1, 2, 3, 4, 5, 6, 7] from rfl]
  have hrec : recoverD (c₀ :: cs) = none := by
    simp [recoverD, hu]
  unfold wpOpsS
  simp only [List.getElem?_toArray, List.getElem?_cons_zero, List.getElem?_cons_succ]
  rw [if_pos (by simp [Region.wanted]), show (execOp _ _).run Tryd.prog w = .ok .recover w by simp [execOp, resolve, invoke, builtin]]
  simp only []
  rw [hrec]
  simp only [Act.put, List.setIfInBounds_toArray, List.set_cons_zero, List.set_cons_succ]
  unfold wpOpsS
  simp only [List.getElem?_toArray, List.getElem?_cons_zero, List.getElem?_cons_succ]
  rw [if_pos (by simp [Region.wanted]), show (execOp _ _).run Tryd.prog (w) = .ok (.value (.tuple #[.agg #[.int .i64 0, .int .i64 0, .int .i64 0, .int .i64 0], .bool false])) (w) by simp [execOp, Act.eval, assertNo]]
  simp only [Oper.upon]
  simp only [Act.put, List.setIfInBounds_toArray, List.set_cons_zero, List.set_cons_succ]
  unfold wpOpsS
  simp only [List.getElem?_toArray, List.getElem?_cons_zero, List.getElem?_cons_succ]
  rw [if_pos (by simp [Region.wanted]), show (execOp _ _).run Tryd.prog (w) = .ok (.value (.tuple #[.agg #[.int .i64 0, .int .i64 0, .int .i64 0, .int .i64 0], .bool false])) (w) by simp [execOp, Act.eval]]
  simp only [Oper.upon]
  simp only [Act.put, List.setIfInBounds_toArray, List.set_cons_zero, List.set_cons_succ]
  unfold wpOpsS
  simp only [List.getElem?_toArray, List.getElem?_cons_zero, List.getElem?_cons_succ]
  rw [if_pos (by simp [Region.wanted]), show (execOp _ _).run Tryd.prog (w) = .ok (.value (.agg #[.int .i64 0, .int .i64 0, .int .i64 0, .int .i64 0])) (w) by simp [execOp, Act.eval, go_sem]]
  simp only [Oper.upon]
  simp only [Act.put, List.setIfInBounds_toArray, List.set_cons_zero, List.set_cons_succ]
  unfold wpOpsS
  simp only [List.getElem?_toArray, List.getElem?_cons_zero, List.getElem?_cons_succ]
  rw [if_pos (by simp [Region.wanted]), show (execOp _ _).run Tryd.prog (w) = .ok (.value (.bool false)) (w) by simp [execOp, Act.eval, go_sem]]
  simp only [Oper.upon]
  simp only [Act.put, List.setIfInBounds_toArray, List.set_cons_zero, List.set_cons_succ]
  unfold wpOpsS
  simp only [List.getElem?_toArray, List.getElem?_cons_zero, List.getElem?_cons_succ]
  rw [if_pos (by simp [Region.wanted]), show (execOp _ _).run Tryd.prog (w) = .ok (.value (.pointer (some ⟨w.heap.size, 0, none⟩))) ((w.alloc (.cells #[.int .i64 0, .int .i64 0, .int .i64 0, .int .i64 0] 28))) by simp [execOp, Act.eval, go_sem]]
  simp only [Oper.upon]
  simp only [Act.put, List.setIfInBounds_toArray, List.set_cons_zero, List.set_cons_succ]
  unfold wpOpsS
  simp only [List.getElem?_toArray, List.getElem?_cons_zero, List.getElem?_cons_succ]
  rw [if_pos (by simp [Region.wanted]), show (execOp _ _).run Tryd.prog ((w.alloc (.cells #[.int .i64 0, .int .i64 0, .int .i64 0, .int .i64 0] 28))) = .ok .skip ((w.alloc (.cells #[.int .i64 0, .int .i64 0, .int .i64 0, .int .i64 0] 28))) by simp [execOp, Act.eval, go_sem]]
  simp only [Oper.upon]
  simp only [Act.put, List.setIfInBounds_toArray, List.set_cons_zero, List.set_cons_succ]
  unfold wpOpsS
  simp only [List.getElem?_toArray, List.getElem?_cons_zero, List.getElem?_cons_succ]
  rw [if_pos (by simp [Region.wanted]), show (execOp _ _).run Tryd.prog ((w.alloc (.cells #[.int .i64 0, .int .i64 0, .int .i64 0, .int .i64 0] 28))) = .ok (.value (.bool false)) ((w.alloc (.cells #[.int .i64 0, .int .i64 0, .int .i64 0, .int .i64 0] 28))) by simp [execOp, Act.eval, go_sem]]
  simp only [Oper.upon]
  simp only [Act.put, List.setIfInBounds_toArray, List.set_cons_zero, List.set_cons_succ]
  unfold wpOpsS
  simp only [Exit.thenS]
  apply wpS_seq
  refine wpS_of_wp ?_
  go_wp2
  simp only [Exit.thenS]
  refine wpS_cond (t := false) (by simp [Act.eval]) ?_
  simp only [Bool.false_eq_true, if_false]
  refine wpS_of_wp (wp_skip ?_)
  cases c₀
  exact ⟨rfl, .returning, by simp_all, .tuple #[], by simp [results, Tryd.results11], rfl, rfl, below_alloc _⟩
end Go.Proofs.YtidimdbnnnpplaaDoor
namespace Go.Proofs.YtidimdbnnnpplaaDoor
open Go.RowKit
set_option maxRecDepth 1000000
set_option linter.unusedVariables false
set_option linter.unusedSimpArgs false
set_option maxHeartbeats 4000000

theorem treeW (w0 : World) (b off cap : Nat) (ms : List Mw) (p : Nat) (w : World) (i : Nat) (S : PS) (F : World → Value → Value → Prop)
    (hst : ∀ W W' v1 v2, F W v1 v2 → Keep (fun k => k ≠ w.heap.size ∧ k ≠ w.heap.size + 1) W W' → F W' v1 v2)
    (HF : ∀ W, PR w0 b off cap ms p W i → w.heap.size + 1 < W.heap.size → Calls Tryd.prog 12 #[.pointer (some ⟨p, 0, none⟩)] W fun e w' => Keep (· ≠ p) W w' ∧ ((∃ a1 n1 c1 a2 n2 c2, e = .returned (.agg #[.slice a1 n1 c1, .slice a2 n2 c2]) ∧ S.cd = 0 ∧ Hid (F w' (.slice a1 n1 c1) (.slice a2 n2 c2))) ∨ Fell S e))
    (h : PR w0 b off cap ms p w i) :
    Calls Tryd.prog 8 #[.pointer (some ⟨p, 0, none⟩)] w fun e w' => Keep (· ≠ p) w w' ∧ ((∃ a1 n1 c1 a2 n2 c2, e = .returned (.tuple #[.agg #[.slice a1 n1 c1, .slice a2 n2 c2], .agg #[.int .i64 0, .int .i64 0, .int .i64 0, .int .i64 0]]) ∧ S.cd = 0 ∧ F w' (.slice a1 n1 c1) (.slice a2 n2 c2)) ∨
      (S.cd ≠ 0 ∧ e = .returned (.tuple #[.agg #[.slice none 0 0, .slice none 0 0], .agg #[.int .i64 S.cd, .int .i64 0, .int .i64 S.ln, .int .i64 S.cl]]))) := by
  have hmf : ∀ (fn : Fn) (first cap : Array Value) (w : World), (Instr.makeFunc fn first cap).run Tryd.prog w = .ok (.func fn first cap) w := fun _ _ _ _ => rfl
  have hpl : p < w.heap.size := h.blk.lt
  have HR := hid h
  replace HF := hid HF
  replace hst := hid hst
  clear h
  go_enter_defers Tryd.func8, Tryd.ntmps8
  go_wp2_with fail
  refine (HF.out _ (by have := HR.out; (repeat (first | with_reducible assumption | with_reducible refine prall15 ?_ (by first | (simp; done) | (simp; omega) | omega) | with_reducible refine prall9 ?_ (by first | (simp; done) | (simp; omega) | omega) | with_reducible refine prall6 ?_ (by first | (simp; done) | (simp; omega) | omega) | with_reducible refine PR.set ?_ (by first | (simp; done) | (simp; omega) | omega) _ | with_reducible refine PR.alloc ?_ _ | with_reducible refine PR.drew ?_))) (by simp)).mono ?_
  rintro e w1 ⟨hK1, (⟨a1, n1, c1, a2, n2, c2, rfl, hcd, hF⟩ | ⟨hcd, rfl⟩)⟩
  · have B1 : Blk w1 w.heap.size 25 #[.slice none 0 0, .slice none 0 0] := Blk.keep ((Blk.newAt rfl).kept (below_alloc _)) hK1 (show w.heap.size ≠ p by omega)
    have B2 : Blk w1 (w.heap.size + 1) 28 #[.int .i64 0, .int .i64 0, .int .i64 0, .int .i64 0] := Blk.keep (Blk.newAt (by simp)) hK1 (show w.heap.size + 1 ≠ p by omega)
    have x1 := B1.cellF
    have y1 := B1.frz
    have x2 := B2.cellF
    have y2 := B2.frz
    have hk1 := hid (Keep.trans (kp_alloc (kp_alloc (Keep.refl _ _) _) _ : Keep (· ≠ p) w _) hK1)
    clear hK1
    go_wp2
    refine leaves_cons (f := 11) (args := #[.pointer (some ⟨w.heap.size, 0, none⟩), .pointer (some ⟨w.heap.size + 1, 0, none⟩)]) (by simp) (by simp [go_sem]) ?_
    refine (catchIdle _ _ _).mono ?_
    rintro e u' w'' ⟨rfl, rfl, hb⟩
    have D1 : Blk w'' w.heap.size 25 #[.slice a1 n1 c1, .slice a2 n2 c2] := Blk.kept (((((((B1.set 0 _).set 1 _).other (show w.heap.size ≠ w.heap.size + 1 by omega) _).other (show w.heap.size ≠ w.heap.size + 1 by omega) _).other (show w.heap.size ≠ w.heap.size + 1 by omega) _).other (show w.heap.size ≠ w.heap.size + 1 by omega) _).is (by simp)) hb
    have D2 : Blk w'' (w.heap.size + 1) 28 #[.int .i64 0, .int .i64 0, .int .i64 0, .int .i64 0] := Blk.kept (((((((B2.other (show w.heap.size + 1 ≠ w.heap.size by omega) _).other (show w.heap.size + 1 ≠ w.heap.size by omega) _).set 0 _).set 1 _).set 2 _).set 3 _).is (by simp)) hb
    have d1 := D1.cellF
    have d2 := D2.cellF
    refine ⟨.tuple #[.agg #[.slice a1 n1 c1, .slice a2 n2 c2], .agg #[.int .i64 0, .int .i64 0, .int .i64 0, .int .i64 0]], by simp [results, Tryd.results8, go_sem, d1, d2], ?_, .inl ⟨a1, n1, c1, a2, n2, c2, rfl, hcd, ?_⟩⟩
    · refine Keep.trans ?_ (Keep.ofBelow hb)
      have := hk1.out
      (repeat (first | with_reducible assumption | with_reducible refine kpall15 ?_ (by first | (refine Or.inr ?_; first | (simp; done) | (simp; omega) | omega)) | with_reducible refine kpall9 ?_ (by first | (refine Or.inr ?_; first | (simp; done) | (simp; omega) | omega)) | with_reducible refine kpall6 ?_ (by first | (refine Or.inr ?_; first | (simp; done) | (simp; omega) | omega)) | with_reducible refine kp_set ?_ (by first | (refine Or.inl ?_; simp; done) | (refine Or.inr ?_; first | (simp; done) | (simp; omega) | omega)) _ | with_reducible refine kp_alloc ?_ _ | with_reducible refine kp_drew ?_ | with_reducible refine kp_drewN ?_ _ | with_reducible exact Keep.refl _ _))
    · refine hst.out _ _ _ _ (hst.out _ _ _ _ hF.out ?_) (Keep.ofBelow hb)
      exact kp_set (kp_set (kp_set (kp_set (kp_set (kp_set (Keep.refl _ _) (.inl (by simp)) _) (.inl (by simp)) _) (.inl (by simp)) _) (.inl (by simp)) _) (.inl (by simp)) _) (.inl (by simp)) _
  · have B1 : Blk w1 w.heap.size 25 #[.slice none 0 0, .slice none 0 0] := Blk.keep ((Blk.newAt rfl).kept (below_alloc _)) hK1 (show w.heap.size ≠ p by omega)
    have B2 : Blk w1 (w.heap.size + 1) 28 #[.int .i64 0, .int .i64 0, .int .i64 0, .int .i64 0] := Blk.keep (Blk.newAt (by simp)) hK1 (show w.heap.size + 1 ≠ p by omega)
    have hk1 := hid (Keep.trans (kp_alloc (kp_alloc (Keep.refl _ _) _) _ : Keep (· ≠ p) w _) hK1)
    clear hK1
    go_wp2
    refine leaves_cons (f := 11) (args := #[.pointer (some ⟨w.heap.size, 0, none⟩), .pointer (some ⟨w.heap.size + 1, 0, none⟩)]) (by simp) (by simp [go_sem]) ?_
    refine (catchP _ _ S.cd S.ln S.cl _ _ _ _ _ _ [] _ B1 B2 (by omega)).mono ?_
    rintro e u' w'' ⟨rfl, rfl, D1, D2, hK⟩
    have d1 := D1.cellF
    have d2 := D2.cellF
    refine ⟨.tuple #[.agg #[.slice none 0 0, .slice none 0 0], .agg #[.int .i64 S.cd, .int .i64 0, .int .i64 S.ln, .int .i64 S.cl]], by simp [results, Tryd.results8, go_sem, d1, d2], ?_, .inr ⟨hcd, rfl⟩⟩
    exact ⟨hK.os.trans hk1.out.os, hK.tape.trans hk1.out.tape, hK.output.trans hk1.out.output, Nat.le_trans hk1.out.size hK.size, fun q hq hf => by rw [hK.block q (Nat.lt_of_lt_of_le hq hk1.out.size) ⟨by omega, by omega⟩, hk1.out.block q hq hf]⟩
end Go.Proofs.YtidimdbnnnpplaaDoor
namespace Go.Proofs.YtidimdbnnnpplaaDoor
open Go.RowKit
set_option maxRecDepth 1000000
set_option linter.unusedVariables false
set_option maxHeartbeats 4000000

theorem set_last (fl : List Value) (zs : List Value) (n i : Nat) (y : Value) (hf : fl.length = n * 9) : (fl ++ zs).set (n * 9 + i) y = fl ++ zs.set i y := by
  rw [List.set_append_right _ _ (by omega)]
  congr 2
  omega
theorem own_last {w : World} {base g n cap : Nat} {e : TypeId} {fl : List Value} {z0 z1 z2 z3 z4 z5 z6 z7 z8 y0 y1 y2 y3 y4 y5 y6 y7 y8 : Value} (hf : fl.length = n * 9)
    (h : w.ownsRow base e 9 (.slice (some ⟨g, 0, none⟩) (n + 1) cap) (n + 1) (fl ++ [z0, z1, z2, z3, z4, z5, z6, z7, z8])) :
    (((((((((w.setCell ⟨g, n * 9 + 0, none⟩ y0).setCell ⟨g, n * 9 + 1, none⟩ y1).setCell ⟨g, n * 9 + 2, none⟩ y2).setCell ⟨g, n * 9 + 3, none⟩ y3).setCell ⟨g, n * 9 + 4, none⟩ y4).setCell ⟨g, n * 9 + 5, none⟩ y5).setCell ⟨g, n * 9 + 6, none⟩ y6).setCell ⟨g, n * 9 + 7, none⟩ y7).setCell ⟨g, n * 9 + 8, none⟩ y8).ownsRow base e 9 (.slice (some ⟨g, 0, none⟩) (n + 1) cap) (n + 1) (fl ++ [y0, y1, y2, y3, y4, y5, y6, y7, y8]) := by
  have h0 := (h.stored (n * 9 + 0) y0).1
  rw [set_last fl _ n 0 y0 hf] at h0
  have h1 := (h0.stored (n * 9 + 1) y1).1
  rw [set_last fl _ n 1 y1 hf] at h1
  have h2 := (h1.stored (n * 9 + 2) y2).1
  rw [set_last fl _ n 2 y2 hf] at h2
  have h3 := (h2.stored (n * 9 + 3) y3).1
  rw [set_last fl _ n 3 y3 hf] at h3
  have h4 := (h3.stored (n * 9 + 4) y4).1
  rw [set_last fl _ n 4 y4 hf] at h4
  have h5 := (h4.stored (n * 9 + 5) y5).1
  rw [set_last fl _ n 5 y5 hf] at h5
  have h6 := (h5.stored (n * 9 + 6) y6).1
  rw [set_last fl _ n 6 y6 hf] at h6
  have h7 := (h6.stored (n * 9 + 7) y7).1
  rw [set_last fl _ n 7 y7 hf] at h7
  have h8 := (h7.stored (n * 9 + 8) y8).1
  rw [set_last fl _ n 8 y8 hf] at h8
  exact h8
theorem own_cells9 {w : World} {base g n cap : Nat} {e : TypeId} {fl : List Value} {z0 z1 z2 z3 z4 z5 z6 z7 z8 : Value} (hf : fl.length = n * 9)
    (h : w.ownsRow base e 9 (.slice (some ⟨g, 0, none⟩) (n + 1) cap) (n + 1) (fl ++ [z0, z1, z2, z3, z4, z5, z6, z7, z8])) : (w.cell? ⟨g, n * 9, none⟩ = some z0 ∧ w.cell? ⟨g, n * 9 + 1, none⟩ = some z1 ∧ w.cell? ⟨g, n * 9 + 2, none⟩ = some z2 ∧ w.cell? ⟨g, n * 9 + 3, none⟩ = some z3 ∧ w.cell? ⟨g, n * 9 + 4, none⟩ = some z4 ∧ w.cell? ⟨g, n * 9 + 5, none⟩ = some z5 ∧ w.cell? ⟨g, n * 9 + 6, none⟩ = some z6 ∧ w.cell? ⟨g, n * 9 + 7, none⟩ = some z7 ∧ w.cell? ⟨g, n * 9 + 8, none⟩ = some z8) ∧ ∀ i, w.frozen? ⟨g, i, none⟩ = false := by
  have hc : ∀ k u, [z0, z1, z2, z3, z4, z5, z6, z7, z8][k]? = some u → w.cell? ⟨g, n * 9 + k, none⟩ = some u := fun k u hu => by
    have := h.cells (g := g) rfl (n * 9 + k) u (by rw [List.getElem?_append_right (by omega), hf, show n * 9 + k - n * 9 = k by omega]; exact hu)
    have hadd : (⟨g, 0, none⟩ : Addr).add (n * 9 + k) = ⟨g, n * 9 + k, none⟩ := by unfold Addr.add; split <;> simp_all
    rwa [hadd] at this
  refine ⟨⟨hc 0 _ rfl, hc 1 _ rfl, hc 2 _ rfl, hc 3 _ rfl, hc 4 _ rfl, hc 5 _ rfl, hc 6 _ rfl, hc 7 _ rfl, hc 8 _ rfl⟩, fun i => ?_⟩
  obtain ⟨_, _, cur, hk⟩ := own_type (k := g) h rfl
  exact Blk.frozen (w := w) (p := g) (t := e) (cs := cur) hk i
theorem grow_put {w w' : World} {v v' : Value} {g : Nat} (h : Grow w w' v v') (hg : v'.ownBlock = some g) (j : Nat) (u : Value) : Grow w (w'.setCell ⟨g, j, none⟩ u) v v' := by
  refine ⟨h.os, h.tape, h.output, by simp only [World.setCell, Array.size_modify]; exact h.size, fun k hk hv => ?_, h.own⟩
  rw [Below.heap_setCell _ _ _ _ (fun e => ?_)]
  · exact h.block k hk hv
  · simp only [] at e
    subst e
    rcases h.own with h1 | h1
    · exact hv (h1.symm.trans hg)
    · have := h1 k hg; omega
def zD9 : Value := .agg #[.bool false, .string ⟨#[]⟩, .int .i64 0, .int .i64 0, .slice none 0 0, .slice none 0 0, .slice none 0 0, .slice none 0 0, .slice none 0 0]
theorem Tryd.infoD : (Tryd.prog.info? 41).map (fun i => (i.zero, i.size, i.bytes)) = some (some zD9, 9, 160) := by kernel_rfl
/-- A zero declaration more. -/
theorem appendZ (base : Nat) (v : Value) (n : Nat) (fl : List Value) (w : World) (h : w.ownsRow base 41 9 v n fl) (hb : base ≤ w.heap.size) (hn : n ≤ 400000) :
    ∃ g c w', (Builtin.append_ #[23, 23] 23 #[v, .slice (some ⟨w.heap.size, 0, none⟩) 1 1]).run Tryd.prog (w.alloc (.cells #[.bool false, .string ⟨#[]⟩, .int .i64 0, .int .i64 0, .slice none 0 0, .slice none 0 0, .slice none 0 0, .slice none 0 0, .slice none 0 0] 41)) = .ok (.slice (some ⟨g, 0, none⟩) (n + 1) c) w' ∧
      w'.ownsRow base 41 9 (.slice (some ⟨g, 0, none⟩) (n + 1) c) (n + 1) (fl ++ [.bool false, .string ⟨#[]⟩, .int .i64 0, .int .i64 0, .slice none 0 0, .slice none 0 0, .slice none 0 0, .slice none 0 0, .slice none 0 0]) ∧ Grow w w' v (.slice (some ⟨g, 0, none⟩) (n + 1) c) := by
  obtain ⟨v', w', h1, h2, h3⟩ := append_st 41 23 9 160 zD9 Tryd.underlying23 Tryd.infoD rfl (by decide) (by decide) base v n fl w #[.bool false, .string ⟨#[]⟩, .int .i64 0, .int .i64 0, .slice none 0 0, .slice none 0 0, .slice none 0 0, .slice none 0 0, .slice none 0 0] rfl (fun u hu => by simp at hu; rcases hu with rfl | rfl | rfl | rfl <;> rfl) h hb hn
  rcases h2.2 with ⟨rfl, h0⟩ | ⟨g, cap, cur, rfl, _⟩
  · omega
  · exact ⟨g, cap, w', h1, h2, h3⟩
/-- A zero declaration more, where it lies already. -/
theorem appendZ2 (base : Nat) (v : Value) (n : Nat) (fl : List Value) (w : World) (q : Nat) (hq : Blk w q 41 #[.bool false, .string ⟨#[]⟩, .int .i64 0, .int .i64 0, .slice none 0 0, .slice none 0 0, .slice none 0 0, .slice none 0 0, .slice none 0 0]) (h : w.ownsRow base 41 9 v n fl) (hb : base ≤ w.heap.size) (hn : n ≤ 400000) :
    ∃ g c w', (Builtin.append_ #[23, 23] 23 #[v, .slice (some ⟨q, 0, none⟩) 1 1]).run Tryd.prog w = .ok (.slice (some ⟨g, 0, none⟩) (n + 1) c) w' ∧
      w'.ownsRow base 41 9 (.slice (some ⟨g, 0, none⟩) (n + 1) c) (n + 1) (fl ++ [.bool false, .string ⟨#[]⟩, .int .i64 0, .int .i64 0, .slice none 0 0, .slice none 0 0, .slice none 0 0, .slice none 0 0, .slice none 0 0]) ∧ Grow w w' v (.slice (some ⟨g, 0, none⟩) (n + 1) c) := by
  obtain ⟨i0, hi, hz0, hz1, hz2⟩ := info_parts Tryd.infoD
  have hcell : ∀ j u, ([.bool false, .string ⟨#[]⟩, .int .i64 0, .int .i64 0, .slice none 0 0, .slice none 0 0, .slice none 0 0, .slice none 0 0, .slice none 0 0] : List Value)[j]? = some u → w.cell? ((⟨q, 0, none⟩ : Addr).add j) = some u := by
    intro j u hu
    have hadd : (⟨q, 0, none⟩ : Addr).add j = ⟨q, j, none⟩ := by unfold Addr.add; split <;> simp_all
    rw [hadd, hq.cellF j]
    simpa using hu
  obtain ⟨v', w', h1, h2, h3⟩ := run_append_mine (P := Tryd.prog) w base 23 23 41 i0 zD9 9 160 Tryd.underlying23 hi hz0 hz1 hz2 rfl (by decide) v n fl h ⟨q, 0, none⟩ 1 1 [.bool false, .string ⟨#[]⟩, .int .i64 0, .int .i64 0, .slice none 0 0, .slice none 0 0, .slice none 0 0, .slice none 0 0, .slice none 0 0] rfl hcell (fun u hu => by simp at hu; rcases hu with rfl | rfl | rfl | rfl <;> rfl) (by unfold maxLen; omega) (by omega) hb
  rcases h2.2 with ⟨rfl, h0⟩ | ⟨g, cap, cur, rfl, _⟩
  · omega
  · exact ⟨g, cap, w', h1, h2, h3⟩
section
variable {w0 : World} {b off cap : Nat} {ms : List Mw} {p : Nat} {w : World} {base pd n : Nat} {wr w' : World} {j : Nat} {x : DV}
theorem DI.addD (h : DI w0 b off cap ms p w base pd n wr j x) {N : Nat} {y : DV} (hN : base ≤ N) (hm : ∀ k, x.mine k ∨ k = pd → k < N) (hy : RD n wr (fun k => N ≤ k ∧ k < wr.heap.size) y) {v' : Value}
    {Z : Nat → Prop} {dvs : List DV} (e : dvs.map DV.d = x.d.decls) (hd : wr.ownsRow base 41 9 x.dd dvs.length (dvs.flatMap cD)) (hz : ∀ k, Z k → base ≤ k ∧ k < wr.heap.size) (hmz : ∀ k, x.mine k ∨ k = pd → ¬ Z k) (hys : ∀ y ∈ dvs, RD n wr Z y)
    (g : Grow wr w' x.dd v') (ho : w'.ownsRow base 41 9 v' (dvs.length + 1) (dvs.flatMap cD ++ cD y)) :
    DI w0 b off cap ms p w base pd n (w'.setCell ⟨pd, 6, none⟩ v') j ⟨{ x.d with decls := x.d.decls ++ [y.d] }, x.f, x.o, v', x.r, x.s⟩ := by
  have hb : Blk w' pd 41 #[.bool x.d.enum, .string (strOfNums x.d.name), .int .i64 x.d.at1.1, .int .i64 x.d.at1.2, x.f, x.o, x.dd, x.r, x.s] := h.blk.keep (Keep.ofGrow (f := fun q => x.dd.ownBlock ≠ some q) g (fun _ hk => hk)) (fun hk => h.own.me pd (.inr (.inr (.inl hk))) rfl)
  have ho' := h.own.addD (by decide) (by decide) (by decide) (by decide) (Zy := fun k => N ≤ k ∧ k < wr.heap.size) (fun k hk => ⟨by omega, hk.2⟩) (fun k hk hk2 => by have := hm k hk; omega) hy Z e hd hz hmz hys g ho
  have hpr := grow_pr g hd h.lo h.pr
  refine ⟨hpr.set (by have := h.lo; have := h.up; show p < pd; omega) _, ?_, (hb.set 6 _).is (by simp), ho'.keep (f := (· ≠ pd)) (Keep.setCell _ _ _ (by simp)) (fun q _ hq => hq), h.lo, h.up⟩
  exact (h.fr.trans ((grow_keep g hd h.lo).weak (fun q hq => hq.2))).trans (Keep.setCell _ _ _ (fun hq => by have := hq.2; have := h.up; simp at *; omega))
end
end Go.Proofs.YtidimdbnnnpplaaDoor
namespace Go.Proofs.YtidimdbnnnpplaaDoor
open Go.RowKit
set_option maxRecDepth 1000000
set_option linter.unusedVariables false
set_option linter.unusedSimpArgs false
set_option maxHeartbeats 8000000

theorem plain_msg : plainW wMessage := ⟨by decide, 109, [101, 115, 115, 97, 103, 101], rfl, by decide, by decide⟩
theorem plain_opt : plainW wOptional := ⟨by decide, 111, [112, 116, 105, 111, 110, 97, 108], rfl, by decide, by decide⟩
theorem plain_rep : plainW wRepeated := ⟨by decide, 114, [101, 112, 101, 97, 116, 101, 100], rfl, by decide, by decide⟩
theorem wordB {m : Mw} (h : okW m) {x : List Int} (hx : plainW x) {X : List UInt8} (hX : (strOfNums x).toList = X) : ((strOfNums m.s).toList == X) = decide (m.s = x) := by
  rw [← hX]
  exact str_eq h.bd hx.1
/-- The seven words that a member is told by. -/
structure WB (m : Mw) : Prop where
  e0 : ((strOfNums m.s).toList == [109, 101, 115, 115, 97, 103, 101]) = decide (m.s = wMessage)
  e1 : ((strOfNums m.s).toList == [101, 110, 117, 109]) = decide (m.s = wEnum)
  e2 : ((strOfNums m.s).toList == [111, 110, 101, 111, 102]) = decide (m.s = wOneof)
  e3 : ((strOfNums m.s).toList == [114, 101, 115, 101, 114, 118, 101, 100]) = decide (m.s = wReserved)
  e4 : ((strOfNums m.s).toList == [111, 112, 116, 105, 111, 110, 97, 108]) = decide (m.s = wOptional)
  e5 : ((strOfNums m.s).toList == [114, 101, 112, 101, 97, 116, 101, 100]) = decide (m.s = wRepeated)
  e6 : ((strOfNums m.s).toList == [109, 97, 112]) = decide (m.s = wMap)
theorem WB.of {m : Mw} (h : okW m) : WB m :=
  ⟨wordB h plain_msg (by rw [str_list]; rfl), wordB h plain_enum (by rw [str_list]; rfl), wordB h plain_oneof (by rw [str_list]; rfl), wordB h plain_res (by rw [str_list]; rfl), wordB h plain_opt (by rw [str_list]; rfl), wordB h plain_rep (by rw [str_list]; rfl), wordB h plain_map (by rw [str_list]; rfl)⟩
end Go.Proofs.YtidimdbnnnpplaaDoor
namespace Go.Proofs.YtidimdbnnnpplaaDoor
open Go.RowKit
set_option maxRecDepth 1000000
set_option linter.unusedVariables false
set_option linter.unusedSimpArgs false
set_option maxHeartbeats 8000000

/-- What a call that reads a declaration answers. -/
def DeclP (w0 : World) (b off cap : Nat) (ms : List Mw) (p n : Nat) (M : MD × PS) (W : World) (e : Ending) (w' : World) : Prop :=
  Keep (· ≠ p) W w' ∧ ((∃ j y, Hid (M.2 = stA ms j) ∧ Hid (y.d = M.1) ∧ e = .returned (.agg #[.bool y.d.enum, .string (strOfNums y.d.name), .int .i64 y.d.at1.1, .int .i64 y.d.at1.2, y.f, y.o, y.dd, y.r, y.s]) ∧ Hid (RD n w' (fun k => W.heap.size ≤ k ∧ k < w'.heap.size) y) ∧ Hid (PR w0 b off cap ms p w' j)) ∨ Fell M.2 e)
/-- What message answers, where so many messages may still be around. -/
def MsgC (w0 : World) (b off cap : Nat) (ms : List Mw) (p L : Nat) : Prop := ∀ (ar : Int) (W : World) (i : Nat), ar + L = 8 → isM (stA ms i) wMessage = true → PR w0 b off cap ms p W i →
  Calls Tryd.prog 28 #[.pointer (some ⟨p, 0, none⟩), .int .i64 ar] W (DeclP w0 b off cap ms p (L + 1) (dclM L (stA ms i)) W)
theorem is_other {s : PS} {x y : List Int} (h : isM s x = true) (hne : x ≠ y) : isM s y = false := by
  obtain ⟨h0, hk, hs⟩ := is_parts h
  unfold isM
  simp [hs, hne]
theorem dcl_enum {s : PS} (h : isM s wEnum = true) (L : Nat) : dclM L s = enmM s := by
  cases L <;> (unfold dclM; rw [if_pos h])
theorem dcl_msg {s : PS} (h : isM s wMessage = true) (L : Nat) : dclM (L + 1) s = msgM (dclM L) s := by
  unfold dclM
  rw [if_neg (by rw [is_other h (by decide)]; decide)]
end Go.Proofs.YtidimdbnnnpplaaDoor
