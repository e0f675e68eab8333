/-
  The reader of the program parse: a file.
  What a text is read as; the known texts' trees.
  Parse: a text's tree, or the first fault.
  The law's own looks at places and fields.
-/
import Derived.Test.YtidimdbnnnpplaaDoorCP1
import Derived.Test.YtidimdbnnnpplaaDoorCPKb
import Derived.Test.YtidimdbnnnpplaaDoorCPA
import Derived.Test.YtidimdbnnnpplaaDoorCPV
import Derived.Test.YtidimdbnnnpplaaDoorCYL
namespace Go.Proofs.YtidimdbnnnpplaaDoor
open Go.RowKit
set_option maxRecDepth 1000000
set_option linter.unusedVariables false
set_option linter.unusedSimpArgs false
set_option maxHeartbeats 8000000

theorem appendY (base : Nat) (v : Value) (dvs : List DV) (yd : MD) (a1 : Option Addr) (n1 c1 : Nat) (a2 : Option Addr) (n2 c2 : Nat) (a3 : Option Addr) (n3 c3 : Nat) (a4 : Option Addr) (n4 c4 : Nat) (a5 : Option Addr) (n5 c5 : Nat) (w : World) (h : w.ownsRow base 41 9 v dvs.length (dvs.flatMap cD)) (hb : base ≤ w.heap.size) (hn : dvs.length ≤ 400000) :
    ∃ a c w', (Builtin.append_ #[23, 23] 23 #[v, .slice (some ⟨w.heap.size, 0, none⟩) 1 1]).run Tryd.prog (w.alloc (.cells #[.bool yd.enum, .string (strOfNums yd.name), .int .i64 yd.at1.1, .int .i64 yd.at1.2, .slice a1 n1 c1, .slice a2 n2 c2, .slice a3 n3 c3, .slice a4 n4 c4, .slice a5 n5 c5] 41)) = .ok (.slice a (dvs.length + 1) c) w' ∧
      w'.ownsRow base 41 9 (.slice a (dvs.length + 1) c) (dvs.length + 1) (dvs.flatMap cD ++ cD ⟨yd, .slice a1 n1 c1, .slice a2 n2 c2, .slice a3 n3 c3, .slice a4 n4 c4, .slice a5 n5 c5⟩) ∧ Grow w w' v (.slice a (dvs.length + 1) c) := by
  obtain ⟨v', w', h1, h2, h3⟩ := append_st 41 23 9 160 zD9 Tryd.underlying23 Tryd.infoD rfl (by decide) (by decide) base v dvs.length (dvs.flatMap cD) w #[.bool yd.enum, .string (strOfNums yd.name), .int .i64 yd.at1.1, .int .i64 yd.at1.2, .slice a1 n1 c1, .slice a2 n2 c2, .slice a3 n3 c3, .slice a4 n4 c4, .slice a5 n5 c5] rfl (fun u hu => by simp at hu; rcases hu with rfl | rfl | rfl | rfl | rfl | rfl | rfl | rfl | rfl <;> rfl) h hb hn
  obtain ⟨a, c, rfl⟩ := own_shape h2
  exact ⟨a, c, w', h1, h2, h3⟩
theorem filL_go {t : MT} {s : PS} (h0 : s.cd = 0) (h : (hdM s).kind ≠ 5) : filL (t, s) = filL (filSt (t, s)) := by
  unfold filL
  exact whM_go (p := fun x : MT × PS => x.2) (x := (t, s)) fil_dec (by unfold filC; simp [h0, h])
theorem filL_stop {t : MT} {s : PS} (h : (hdM s).kind = 5) : filL (t, s) = (t, s) := by
  unfold filL
  exact whM_stop (by unfold filC; simp [h])
theorem filL_bad {t : MT} {s : PS} (h : s.cd ≠ 0) : filL (t, s) = (t, s) := by
  unfold filL
  exact whM_stop (by unfold filC; simp [h])
theorem plain_imp : plainW wImport := ⟨by decide, 105, [109, 112, 111, 114, 116], rfl, by decide, by decide⟩
theorem toD_imp (t : MT) (y : MI) : ({ toD t with oneofs := (toD t).oneofs ++ [(⟨y.name, y.at1⟩ : MO)] } : MD) = toD ⟨t.imps ++ [y], t.decls⟩ := by simp [toD]
theorem toD_dcl (t : MT) (y : MD) : ({ toD t with decls := (toD t).decls ++ [y] } : MD) = toD ⟨t.imps, t.decls ++ [y]⟩ := by simp [toD]
section
variable {w0 : World} {b off cap : Nat} {ms : List Mw} {p : Nat} {w : World} {base pd n : Nat} {w1 w2 : World} {i j2 : Nat} {x : DV}
/-- A declaration more. -/
theorem FI.more (h : FI w0 b off cap ms p w base pd n w1 i x) (hl : x.d.decls.length ≤ 300000) (hK : Keep (· ≠ p) w1 w2) (R2 : PR w0 b off cap ms p w2 j2) {yd : MD} {a1 : Option Addr} {n1 c1 : Nat} {a2 : Option Addr} {n2 c2 : Nat} {a3 : Option Addr} {n3 c3 : Nat} {a4 : Option Addr} {n4 c4 : Nat} {a5 : Option Addr} {n5 c5 : Nat}
    (hy : RD n w2 (fun k => w1.heap.size ≤ k ∧ k < w2.heap.size) ⟨yd, .slice a1 n1 c1, .slice a2 n2 c2, .slice a3 n3 c3, .slice a4 n4 c4, .slice a5 n5 c5⟩) :
    ∃ a m c w3, Hid ((Builtin.append_ #[23, 23] 23 #[x.dd, .slice (some ⟨w2.heap.size, 0, none⟩) 1 1]).run Tryd.prog (w2.alloc (.cells #[.bool yd.enum, .string (strOfNums yd.name), .int .i64 yd.at1.1, .int .i64 yd.at1.2, .slice a1 n1 c1, .slice a2 n2 c2, .slice a3 n3 c3, .slice a4 n4 c4, .slice a5 n5 c5] 41)) = .ok (.slice a m c) w3) ∧ Hid (Blk w3 pd 25 #[x.o, x.dd]) ∧
      Hid (FI w0 b off cap ms p w base pd n (w3.setCell ⟨pd, 1, none⟩ (.slice a m c)) j2 ⟨{ x.d with decls := x.d.decls ++ [yd] }, x.f, x.o, .slice a m c, x.r, x.s⟩) := by
  obtain ⟨Z, dvs, ee, hd, hz, hm, hys⟩ := h.own.dd
  have hlo := h.lo
  have HI2 := h.reader hK R2
  have hd2 := own_keep (f := (· ≠ p)) hd (fun q hq (e : q = p) => by have := (own_type hd hq).1; omega) hK
  have hdl : dvs.length = x.d.decls.length := by rw [← ee]; simp
  obtain ⟨a, c, w3, h1, h2, h3⟩ := appendY base x.dd dvs yd a1 n1 c1 a2 n2 c2 a3 n3 c3 a4 n4 c4 a5 n5 c5 w2 hd2 HI2.base_le (by omega)
  refine ⟨a, dvs.length + 1, c, w3, hid h1, hid (HI2.blk.keep (Keep.ofGrow (f := fun q => x.dd.ownBlock ≠ some q) h3 (fun _ hk => hk)) (fun hk => HI2.own.me pd (.inr (.inr (.inl hk))) rfl)), hid ?_⟩
  exact HI2.addD (N := w1.heap.size) (Z := Z) (dvs := dvs) h.base_le (fun k hk => by
    rcases hk with hk | rfl
    · exact (h.own.lt hk).2
    · exact h.blk.lt) hy ee hd2 (fun k hk => ⟨(hz k hk).1, Nat.lt_of_lt_of_le (hz k hk).2 hK.size⟩) hm (fun y' h' => RD.keep (f := (· ≠ p)) hK (fun q hq (e : q = p) => by have := (hz q hq).1; omega) n y' (hys y' h')) h3 h2
theorem FI.shape (h : FI w0 b off cap ms p w base pd n w1 i x) : ∃ a1 c1 a2 c2, x.o = .slice a1 x.d.oneofs.length c1 ∧ x.dd = .slice a2 x.d.decls.length c2 := by
  obtain ⟨Z, dvs, ee, hd, _⟩ := h.own.dd
  obtain ⟨a1, c1, e1⟩ := own_shape h.own.o
  obtain ⟨a2, c2, e2⟩ := own_shape hd
  have hdl : dvs.length = x.d.decls.length := by rw [← ee]; simp
  exact ⟨a1, c1, a2, c2, e1, by rw [← hdl]; exact e2⟩
/-- What a call answers that reads one more. -/
theorem FI.call (h : FI w0 b off cap ms p w base pd n w1 i x) {W : World} {e : Ending} {M : MD × PS} {m : Nat} (hb : Keep (· ≠ p) w1 W) (hm : m ≤ n) (hc : DeclP w0 b off cap ms p m M W e w2) :
    (∃ j2 yd a1 n1 c1 a2 n2 c2 a3 n3 c3 a4 n4 c4 a5 n5 c5, e = .returned (.agg #[.bool yd.enum, .string (strOfNums yd.name), .int .i64 yd.at1.1, .int .i64 yd.at1.2, .slice a1 n1 c1, .slice a2 n2 c2, .slice a3 n3 c3, .slice a4 n4 c4, .slice a5 n5 c5]) ∧ Hid (M.2 = stA ms j2) ∧ Hid (yd = M.1) ∧ Hid (Keep (· ≠ p) w1 w2) ∧ Hid (PR w0 b off cap ms p w2 j2) ∧ Hid (RD n w2 (fun k => w1.heap.size ≤ k ∧ k < w2.heap.size) ⟨yd, .slice a1 n1 c1, .slice a2 n2 c2, .slice a3 n3 c3, .slice a4 n4 c4, .slice a5 n5 c5⟩)) ∨
    (Fell M.2 e ∧ Hid (Keep (fun k => k ≠ p ∧ k < base) w w2)) := by
  obtain ⟨hK, (⟨j2, y, h1, h2, rfl, hrd, hR⟩ | hF)⟩ := hc
  · have hrd2 := RD.upto hm y (RD.weak (fun k (hk : W.heap.size ≤ k ∧ k < w2.heap.size) => (⟨Nat.le_trans hb.size hk.1, hk.2⟩ : w1.heap.size ≤ k ∧ k < w2.heap.size)) m y hrd.out)
    obtain ⟨yd, yf, yo, ydd, yr, ys⟩ := y
    cases m with
    | zero => exact hrd.out.elim
    | succ m =>
      obtain ⟨⟨a1, c1, r1, _⟩, ⟨a2, c2, r2, _⟩, ⟨a4, c4, r4, _⟩, ⟨a5, c5, r5, _⟩, dvs', _, ⟨a3, c3, r3, _⟩, _⟩ := hrd.out
      dsimp only at r1 r2 r3 r4 r5 h2
      subst r1 r2 r3 r4 r5
      exact .inl ⟨j2, yd, a1, _, c1, a2, _, c2, a3, _, c3, a4, _, c4, a5, _, c5, rfl, h1, h2, hid (hb.trans hK), hR, hid hrd2⟩
  · exact .inr ⟨hF, hid (h.frame (hb.trans hK))⟩
end
section
variable (w0 : World) (b off cap : Nat) (ms : List Mw) (p : Nat) (w : World) (i : Nat)
theorem fileW (hml : ms.length ≤ 70000) (h : PR w0 b off cap ms p w i) : Calls Tryd.prog 12 #[.pointer (some ⟨p, 0, none⟩)] w fun e w' => Keep (· ≠ p) w w' ∧ ((∃ a1 n1 c1 a2 n2 c2, e = .returned (.agg #[.slice a1 n1 c1, .slice a2 n2 c2]) ∧ (filL (⟨[], []⟩, stA ms i)).2.cd = 0 ∧ Hid (∃ x : DV, x.d = toD (filL (⟨[], []⟩, stA ms i)).1 ∧ x.o = .slice a1 n1 c1 ∧ x.dd = .slice a2 n2 c2 ∧ RD 10 w' (fun k => w.heap.size ≤ k ∧ k < w'.heap.size) x)) ∨ Fell (filL (⟨[], []⟩, stA ms i)).2 e) := by
  have HML := hid hml
  have HMM := hid (messageW w0 b off cap ms p hml 8 (Nat.le_refl _))
  have hpl : p < w.heap.size := h.blk.lt
  have HR0 := hid h
  have hkV : Hid (Keep (· ≠ p) w ((w.alloc (.cells #[.slice none 0 0, .slice none 0 0] 25)).alloc (.cells #[.slice none 0 0, .slice none 0 0] 25))) := hid (kp_alloc (kp_alloc (Keep.refl _ _) _) _)
  have hf0 := wordF0
  have hf1 := wordF1
  clear h hml
  go_enter Tryd.func12, Tryd.ntmps12
  go_wp2
  go_loopw [] (fun wr => ∃ j x t, Hid ((filL (⟨[], []⟩, stA ms i)) = filL (t, stA ms j)) ∧ Hid (x.d = toD t) ∧ Hid (FI w0 b off cap ms p ((w.alloc (.cells #[.slice none 0 0, .slice none 0 0] 25)).alloc (.cells #[.slice none 0 0, .slice none 0 0] 25)) (w.heap.size + 1) (w.heap.size + 1) 9 wr j x) ∧ Hid (t.imps.length + t.decls.length + 3 * muM (stA ms j) ≤ 300000)) (fun wr => ms.length - ixW wr p)
  case atStart => exact ⟨i, ⟨toD ⟨[], []⟩, .slice none 0 0, .slice none 0 0, .slice none 0 0, .slice none 0 0, .slice none 0 0⟩, ⟨[], []⟩, hid rfl, hid rfl, hid ⟨(HR0.out.alloc _).alloc _, Keep.refl _ _, Blk.newAt (by simp), OwnD.nil _ _ _ _ _ _ _ _ _ (fun k hk => by subst hk; simp) _ _ _, by omega, by omega⟩, hid (by have := mu_st ms i HML.out; simp; omega)⟩
  case round =>
    obtain ⟨j, x, t, hrl, hxt, HI, htot⟩ := hrel
    have hm0 := HI.out.pr.ix
    obtain ⟨oa, oc, da, dc, eo, ed⟩ := HI.out.shape
    obtain ⟨xd, xf, xo, xdd, xr, xs⟩ := x
    dsimp only at eo ed hxt
    have hxt' := hxt.out
    subst hxt'
    subst eo ed
    clear hxt
    have HTL : Hid ((toD t).oneofs.length ≤ 300000 ∧ (toD t).decls.length ≤ 300000) := hid (by have := htot.out; unfold toD; simp; omega)
    by_cases hE : (hdM (stA ms j)).kind = 5
    · have HSG := hid (filL_stop (t := t) hE)
      have hEi : ((hdM (stA ms j)).kind == 5) = true := by rw [hE]; rfl
      go_wp2_with fail
      refine (nextW w0 b off cap ms p _ j HI.out.pr).mono ?_
      rintro e x1 ⟨⟨sa, sc, rfl, hr⟩, hb1⟩
      rw [hE]
      have HI1 := hid (HI.out.kept hb1)
      clear hb1 hr
      have hk1 := hid (keep_then hkV.out HI1.out.fr (by omega))
      have BR1 : Blk x1 w.heap.size 25 #[.slice none 0 0, .slice none 0 0] := Blk.keep ((Blk.newAt (w := w) rfl).kept (below_alloc _)) HI1.out.fr ⟨by omega, by omega⟩
      have xq := HI1.out.blk.cellF
      have yq := HI1.out.blk.frz
      have zq := HI1.out.blk.lt
      have xr1 := BR1.cellF
      have yr1 := BR1.frz
      have zr1 := BR1.lt
      go_wp2
      exact bodyPost_ret (v := .agg #[.slice oa (toD t).oneofs.length oc, .slice da (toD t).decls.length dc]) (by simp [results, Tryd.results12, go_sem, xr1, xq, zr1]) rfl ⟨by have := hk1.out; (repeat (first | with_reducible assumption | with_reducible refine kpall15 ?_ (by first | (refine Or.inr ?_; first | (simp; done) | (simp; omega) | omega)) | with_reducible refine kpall9 ?_ (by first | (refine Or.inr ?_; first | (simp; done) | (simp; omega) | omega)) | with_reducible refine kpall6 ?_ (by first | (refine Or.inr ?_; first | (simp; done) | (simp; omega) | omega)) | with_reducible refine kp_set ?_ (by first | (refine Or.inl ?_; simp; done) | (refine Or.inr ?_; first | (simp; done) | (simp; omega) | omega)) _ | with_reducible refine kp_alloc ?_ _ | with_reducible refine kp_drew ?_ | with_reducible refine kp_drewN ?_ _ | with_reducible exact Keep.refl _ _)), .inl ⟨oa, _, oc, da, _, dc, rfl, by rw [hrl.out, HSG.out]; rfl, hid ⟨⟨toD t, xf, .slice oa (toD t).oneofs.length oc, .slice da (toD t).decls.length dc, xr, xs⟩, by rw [hrl.out, HSG.out], rfl, rfl, RD.weak (fun k hk => ⟨by omega, by have := hk.2; simp; omega⟩) _ _ (RD.keep (f := (· ≠ w.heap.size)) (by (repeat (first | with_reducible assumption | with_reducible refine kpall15 ?_ (by first | (refine Or.inr ?_; first | (simp; done) | (simp; omega) | omega)) | with_reducible refine kpall9 ?_ (by first | (refine Or.inr ?_; first | (simp; done) | (simp; omega) | omega)) | with_reducible refine kpall6 ?_ (by first | (refine Or.inr ?_; first | (simp; done) | (simp; omega) | omega)) | with_reducible refine kp_set ?_ (by first | (refine Or.inl ?_; simp; done) | (refine Or.inr ?_; first | (simp; done) | (simp; omega) | omega)) _ | with_reducible refine kp_alloc ?_ _ | with_reducible refine kp_drew ?_ | with_reducible refine kp_drewN ?_ _ | with_reducible exact Keep.refl _ _))) (fun k hk (e : k = w.heap.size) => by omega) _ _ HI1.out.own.rd)⟩⟩⟩
    · have HE := hid hE
      have WBo := HI.out.pr.okW
      have HSG := hid (filL_go (t := t) (s := stA ms j) rfl hE)
      have HDEC : Hid (muM (filSt (t, stA ms j)).2 < muM (stA ms j)) := hid (fil_dec (t, stA ms j) (by unfold filC; simp [hE]; rfl))
      have HTOT : Hid ((filSt (t, stA ms j)).1.imps.length + (filSt (t, stA ms j)).1.decls.length + 3 * muM (filSt (t, stA ms j)).2 ≤ t.imps.length + t.decls.length + 3 * muM (stA ms j)) := hid (fil_tot (t, stA ms j) (by unfold filC; simp [hE]; rfl))
      have e0 := wordB WBo plain_imp (X := [105, 109, 112, 111, 114, 116]) (by rw [str_list]; rfl)
      have e1 := wordB WBo plain_msg (X := [109, 101, 115, 115, 97, 103, 101]) (by rw [str_list]; rfl)
      have e2 := wordB WBo (x := wEnum) plain_enum (X := [101, 110, 117, 109]) (by rw [str_list]; rfl)
      rw [← is_plain (s := stA ms j) rfl WBo plain_imp] at e0
      rw [← is_plain (s := stA ms j) rfl WBo plain_msg] at e1
      rw [← is_plain (s := stA ms j) (x := wEnum) rfl WBo plain_enum] at e2
      cases h0 : isM (stA ms j) wImport with
      | true =>
          have HST : Hid (filSt (t, stA ms j) = (⟨t.imps ++ [(impM (stA ms j)).1], t.decls⟩, (impM (stA ms j)).2)) := hid (by unfold filSt; rw [if_pos h0])
          have HSI : Hid ((filL (⟨[], []⟩, stA ms i)) = filL (⟨t.imps ++ [(impM (stA ms j)).1], t.decls⟩, (impM (stA ms j)).2)) := hid (by rw [hrl.out, HSG.out, HST.out])
          rw [HST.out] at HDEC HTOT
          rw [h0] at e0
          go_wp2_with fail
          refine (nextW w0 b off cap ms p _ j HI.out.pr).mono ?_
          rintro e x1 ⟨⟨sa, sc, rfl, hr⟩, hb1⟩
          have HI1 := hid (HI.out.kept hb1)
          clear hb1 hr
          go_wp2_with fail
          refine (nextW w0 b off cap ms p _ j HI1.out.pr).mono ?_
          rintro e x2 ⟨⟨sa2, sc2, rfl, hr⟩, hb2⟩
          have HI2 := hid (HI1.out.kept hb2)
          clear hb2 hr
          have xb2 := HI2.out.blk.cellF
          have yb2 := HI2.out.blk.frz
          have zb2 := HI2.out.blk.lt
          go_wp2_with fail
          go_region_law (first | (refine step_append_ran rfl _ _ 22 22 rfl rfl _ _ (.slice la ((toD t).oneofs.length + 1) lc) x4 rfl rfl HRUN.out ?_) | (go_simp; go_wp2_with (go_at_call 27; refine (importedW w0 b off cap ms p _ j (by have := HI2.out.pr; (repeat (first | with_reducible assumption | with_reducible refine prall15 ?_ (by first | (simp; done) | (simp; omega) | omega) | with_reducible refine prall9 ?_ (by first | (simp; done) | (simp; omega) | omega) | with_reducible refine prall6 ?_ (by first | (simp; done) | (simp; omega) | omega) | with_reducible refine PR.set ?_ (by first | (simp; done) | (simp; omega) | omega) _ | with_reducible refine PR.alloc ?_ _ | with_reducible refine PR.drew ?_)))).mono ?_; rintro e x3 ⟨hK3, (⟨j3, y, hy1, hy2, rfl, HR3⟩ | ⟨hcd, rfl⟩)⟩; rotate_left; (have hk3 := hid (keep_then hkV.out (HI2.out.frame (show Keep (· ≠ p) _ x3 from ⟨hK3.os, hK3.tape, hK3.output, hK3.size, hK3.block⟩)) (by omega)); exact ⟨rfl, by have := hk3.out; (repeat (first | with_reducible assumption | with_reducible refine kpall15 ?_ (by first | (refine Or.inr ?_; first | (simp; done) | (simp; omega) | omega)) | with_reducible refine kpall9 ?_ (by first | (refine Or.inr ?_; first | (simp; done) | (simp; omega) | omega)) | with_reducible refine kpall6 ?_ (by first | (refine Or.inr ?_; first | (simp; done) | (simp; omega) | omega)) | with_reducible refine kp_set ?_ (by first | (refine Or.inl ?_; simp; done) | (refine Or.inr ?_; first | (simp; done) | (simp; omega) | omega)) _ | with_reducible refine kp_alloc ?_ _ | with_reducible refine kp_drew ?_ | with_reducible refine kp_drewN ?_ _ | with_reducible exact Keep.refl _ _)), .inr (by rw [HSI.out, filL_bad hcd]; exact ⟨hcd, rfl⟩)⟩); have HI3 : Hid (FI w0 b off cap ms p ((w.alloc (.cells #[.slice none 0 0, .slice none 0 0] 25)).alloc (.cells #[.slice none 0 0, .slice none 0 0] 25)) (w.heap.size + 1) (w.heap.size + 1) 9 x3 j3 ⟨toD t, xf, .slice oa (toD t).oneofs.length oc, .slice da (toD t).decls.length dc, xr, xs⟩) := hid ((HI2.out.kept (by first | exact Below.refl _ _ | exact below_drew1 _)).reader hK3 HR3.out); have hs3 := hK3.size; (try simp at hs3); clear hK3; obtain ⟨la, lc, x4, hrun, hown, hgrow⟩ := appendI (w.heap.size + 1) (.slice oa (toD t).oneofs.length oc) (toD t).oneofs ⟨y.name, y.at1⟩ x3 HI3.out.own.o HI3.out.base_le (by have := HTL.out; omega); have HRUN := hid hrun; have HI4 := hid (HI3.out.addI hgrow hown); have xb3 := HI3.out.blk.cellF; have zb3 := HI3.out.blk.lt; have HB4 : Blk x4 (w.heap.size + 1) 25 _ := (HI3.out.blk.keep (Keep.ofGrow (f := fun q => (Value.slice oa (toD t).oneofs.length oc).ownBlock ≠ some q) hgrow (fun _ hk => hk)) (fun hk => HI3.out.own.me _ (.inr (.inl hk)) rfl)); have xb4 := HB4.cellF; have yb4 := HB4.frz; clear hrun hown hgrow HB4)))
          all_goals (go_wp2; exact ⟨⟨j3, ⟨_, xf, .slice la ((toD t).oneofs.length + 1) lc, .slice da (toD t).decls.length dc, xr, xs⟩, ⟨t.imps ++ [y], t.decls⟩, hid (by rw [HSI.out]; rw [← hy2.out, hy1.out]), hid (by exact toD_imp t y), HI4, hid (by
            have h1 := htot.out
            have h2 := HTOT.out
            rw [← hy2.out, hy1.out] at h2; simp only [List.length_append, List.length_cons, List.length_nil] at h2 ⊢; omega)⟩, by
            have h1 := HDEC.out
            rw [hy1.out] at h1
            have h2 := stA_mu HI.out.pr.lt HI4.out.pr.lt h1
            have h3 := HI4.out.pr.lt
            rw [hm0, HI4.out.pr.ix]
            omega⟩)
      | false =>
      cases h1 : isM (stA ms j) wMessage with
      | true =>
          have HST : Hid (filSt (t, stA ms j) = (⟨t.imps, t.decls ++ [(dclM 8 (stA ms j)).1]⟩, (dclM 8 (stA ms j)).2)) := hid (by unfold filSt; rw [if_neg (by rw [h0]; decide), if_pos (.inl h1)])
          have HSI : Hid ((filL (⟨[], []⟩, stA ms i)) = filL (⟨t.imps, t.decls ++ [(dclM 8 (stA ms j)).1]⟩, (dclM 8 (stA ms j)).2)) := hid (by rw [hrl.out, HSG.out, HST.out])
          have HH1 := hid h1
          rw [HST.out] at HDEC HTOT
          rw [h0] at e0
          rw [h1] at e1
          go_wp2_with fail
          refine (nextW w0 b off cap ms p _ j HI.out.pr).mono ?_
          rintro e x1 ⟨⟨sa, sc, rfl, hr⟩, hb1⟩
          have HI1 := hid (HI.out.kept hb1)
          clear hb1 hr
          go_wp2_with fail
          refine (nextW w0 b off cap ms p _ j HI1.out.pr).mono ?_
          rintro e x2 ⟨⟨sa2, sc2, rfl, hr⟩, hb2⟩
          have HI2 := hid (HI1.out.kept hb2)
          clear hb2 hr
          have xb2 := HI2.out.blk.cellF
          have yb2 := HI2.out.blk.frz
          have zb2 := HI2.out.blk.lt
          go_wp2_with fail
          go_region_law (first | (obtain ⟨la, lm, lc, x4, HRUN, HB4, HI4⟩ := HI2.out.more HTL.out.2 hK3.out HR3.out hrd.out; refine step_append_ran rfl _ _ 23 23 rfl rfl _ _ (.slice la lm lc) x4 rfl rfl HRUN.out ?_; have xb4 := HB4.out.cellF; have yb4 := HB4.out.frz; have zb4 := HB4.out.lt) | (go_simp; go_wp2_with (go_at_call 28; refine (HMM.out 0 _ j (by decide) HH1.out (by have := HI2.out.pr; (repeat (first | with_reducible assumption | with_reducible refine prall15 ?_ (by first | (simp; done) | (simp; omega) | omega) | with_reducible refine prall9 ?_ (by first | (simp; done) | (simp; omega) | omega) | with_reducible refine prall6 ?_ (by first | (simp; done) | (simp; omega) | omega) | with_reducible refine PR.set ?_ (by first | (simp; done) | (simp; omega) | omega) _ | with_reducible refine PR.alloc ?_ _ | with_reducible refine PR.drew ?_)))).mono ?_; rintro e x3 hc; obtain (⟨j3, yd, a1, n1, c1, a2, n2, c2, a3, n3, c3, a4, n4, c4, a5, n5, c5, rfl, hy1, hy2, hK3, HR3, hrd⟩ | ⟨⟨hcd, rfl⟩, hkf⟩) := HI2.out.call (m := 9) (by first | exact Keep.refl _ _ | exact kp_drew (Keep.refl _ _)) (by omega) hc; rotate_left; (have hk3 := hid (keep_then hkV.out hkf.out (by omega)); exact ⟨rfl, by have := hk3.out; (repeat (first | with_reducible assumption | with_reducible refine kpall15 ?_ (by first | (refine Or.inr ?_; first | (simp; done) | (simp; omega) | omega)) | with_reducible refine kpall9 ?_ (by first | (refine Or.inr ?_; first | (simp; done) | (simp; omega) | omega)) | with_reducible refine kpall6 ?_ (by first | (refine Or.inr ?_; first | (simp; done) | (simp; omega) | omega)) | with_reducible refine kp_set ?_ (by first | (refine Or.inl ?_; simp; done) | (refine Or.inr ?_; first | (simp; done) | (simp; omega) | omega)) _ | with_reducible refine kp_alloc ?_ _ | with_reducible refine kp_drew ?_ | with_reducible refine kp_drewN ?_ _ | with_reducible exact Keep.refl _ _)), .inr (by rw [HSI.out, filL_bad hcd]; exact ⟨hcd, rfl⟩)⟩); clear hc; have xb3 := (HI2.out.reader hK3.out HR3.out).blk.cellF; have zb3 := (HI2.out.reader hK3.out HR3.out).blk.lt)))
          all_goals (go_wp2; exact ⟨⟨j3, ⟨_, xf, .slice oa (toD t).oneofs.length oc, .slice la lm lc, xr, xs⟩, ⟨t.imps, t.decls ++ [yd]⟩, hid (by rw [HSI.out]; rw [← hy2.out, hy1.out]), hid (by exact toD_dcl t yd), HI4, hid (by
            have h1 := htot.out
            have h2 := HTOT.out
            rw [← hy2.out, hy1.out] at h2; simp only [List.length_append, List.length_cons, List.length_nil] at h2 ⊢; omega)⟩, by
            have h1 := HDEC.out
            rw [hy1.out] at h1
            have h2 := stA_mu HI.out.pr.lt HI4.out.pr.lt h1
            have h3 := HI4.out.pr.lt
            rw [hm0, HI4.out.pr.ix]
            omega⟩)
      | false =>
      cases h2 : isM (stA ms j) wEnum with
      | true =>
          have HST : Hid (filSt (t, stA ms j) = (⟨t.imps, t.decls ++ [(enmM (stA ms j)).1]⟩, (enmM (stA ms j)).2)) := hid (by unfold filSt; rw [if_neg (by rw [h0]; decide), if_pos (.inr h2), dcl_enum h2])
          have HSI : Hid ((filL (⟨[], []⟩, stA ms i)) = filL (⟨t.imps, t.decls ++ [(enmM (stA ms j)).1]⟩, (enmM (stA ms j)).2)) := hid (by rw [hrl.out, HSG.out, HST.out])
          rw [HST.out] at HDEC HTOT
          rw [h0] at e0
          rw [h1] at e1
          rw [h2] at e2
          go_wp2_with fail
          refine (nextW w0 b off cap ms p _ j HI.out.pr).mono ?_
          rintro e x1 ⟨⟨sa, sc, rfl, hr⟩, hb1⟩
          have HI1 := hid (HI.out.kept hb1)
          clear hb1 hr
          go_wp2_with fail
          refine (nextW w0 b off cap ms p _ j HI1.out.pr).mono ?_
          rintro e x2 ⟨⟨sa2, sc2, rfl, hr⟩, hb2⟩
          have HI2 := hid (HI1.out.kept hb2)
          clear hb2 hr
          have xb2 := HI2.out.blk.cellF
          have yb2 := HI2.out.blk.frz
          have zb2 := HI2.out.blk.lt
          go_wp2_with fail
          go_region_law (first | (obtain ⟨la, lm, lc, x4, HRUN, HB4, HI4⟩ := HI2.out.more HTL.out.2 hK3.out HR3.out hrd.out; refine step_append_ran rfl _ _ 23 23 rfl rfl _ _ (.slice la lm lc) x4 rfl rfl HRUN.out ?_; have xb4 := HB4.out.cellF; have yb4 := HB4.out.frz; have zb4 := HB4.out.lt) | (go_simp; go_wp2_with (go_at_call 29; refine (enumW w0 b off cap ms p _ j HML.out (by have := HI2.out.pr; (repeat (first | with_reducible assumption | with_reducible refine prall15 ?_ (by first | (simp; done) | (simp; omega) | omega) | with_reducible refine prall9 ?_ (by first | (simp; done) | (simp; omega) | omega) | with_reducible refine prall6 ?_ (by first | (simp; done) | (simp; omega) | omega) | with_reducible refine PR.set ?_ (by first | (simp; done) | (simp; omega) | omega) _ | with_reducible refine PR.alloc ?_ _ | with_reducible refine PR.drew ?_)))).mono ?_; rintro e x3 hc; obtain (⟨j3, yd, a1, n1, c1, a2, n2, c2, a3, n3, c3, a4, n4, c4, a5, n5, c5, rfl, hy1, hy2, hK3, HR3, hrd⟩ | ⟨⟨hcd, rfl⟩, hkf⟩) := HI2.out.call (m := 1) (by first | exact Keep.refl _ _ | exact kp_drew (Keep.refl _ _)) (by omega) hc; rotate_left; (have hk3 := hid (keep_then hkV.out hkf.out (by omega)); exact ⟨rfl, by have := hk3.out; (repeat (first | with_reducible assumption | with_reducible refine kpall15 ?_ (by first | (refine Or.inr ?_; first | (simp; done) | (simp; omega) | omega)) | with_reducible refine kpall9 ?_ (by first | (refine Or.inr ?_; first | (simp; done) | (simp; omega) | omega)) | with_reducible refine kpall6 ?_ (by first | (refine Or.inr ?_; first | (simp; done) | (simp; omega) | omega)) | with_reducible refine kp_set ?_ (by first | (refine Or.inl ?_; simp; done) | (refine Or.inr ?_; first | (simp; done) | (simp; omega) | omega)) _ | with_reducible refine kp_alloc ?_ _ | with_reducible refine kp_drew ?_ | with_reducible refine kp_drewN ?_ _ | with_reducible exact Keep.refl _ _)), .inr (by rw [HSI.out, filL_bad hcd]; exact ⟨hcd, rfl⟩)⟩); clear hc; have xb3 := (HI2.out.reader hK3.out HR3.out).blk.cellF; have zb3 := (HI2.out.reader hK3.out HR3.out).blk.lt)))
          all_goals (go_wp2; exact ⟨⟨j3, ⟨_, xf, .slice oa (toD t).oneofs.length oc, .slice la lm lc, xr, xs⟩, ⟨t.imps, t.decls ++ [yd]⟩, hid (by rw [HSI.out]; rw [← hy2.out, hy1.out]), hid (by exact toD_dcl t yd), HI4, hid (by
            have h1 := htot.out
            have h2 := HTOT.out
            rw [← hy2.out, hy1.out] at h2; simp only [List.length_append, List.length_cons, List.length_nil] at h2 ⊢; omega)⟩, by
            have h1 := HDEC.out
            rw [hy1.out] at h1
            have h2 := stA_mu HI.out.pr.lt HI4.out.pr.lt h1
            have h3 := HI4.out.pr.lt
            rw [hm0, HI4.out.pr.ix]
            omega⟩)
      | false =>
          have HST : Hid (filSt (t, stA ms j) = (t, badM (stA ms j) 11)) := hid (by unfold filSt; rw [if_neg (by rw [h0]; decide), if_neg (by rw [h1, h2]; decide)])
          have HB : Hid ((badM (stA ms j) 11).cd ≠ 0) := hid (bad_cd (by decide))
          have HSI : Hid ((filL (⟨[], []⟩, stA ms i)) = (t, badM (stA ms j) 11)) := hid (by rw [hrl.out, HSG.out, HST.out, filL_bad HB.out])
          rw [h0] at e0
          rw [h1] at e1
          rw [h2] at e2
          go_wp2_with fail
          refine (nextW w0 b off cap ms p _ j HI.out.pr).mono ?_
          rintro e x1 ⟨⟨sa, sc, rfl, hr⟩, hb1⟩
          have HI1 := hid (HI.out.kept hb1)
          clear hb1 hr
          go_wp2_with fail
          refine (nextW w0 b off cap ms p _ j HI1.out.pr).mono ?_
          rintro e x2 ⟨⟨sa2, sc2, rfl, hr⟩, hb2⟩
          have HI2 := hid (HI1.out.kept hb2)
          clear hb2 hr
          have xb2 := HI2.out.blk.cellF
          have yb2 := HI2.out.blk.frz
          have zb2 := HI2.out.blk.lt
          go_wp2_with fail
          refine (giveUpW w0 b off cap ms p _ j 11 HI2.out.pr).mono ?_
          rintro e x3 ⟨rfl, hb3⟩
          have hk3 := hid (keep_then hkV.out (HI2.out.frame (Keep.ofBelow hb3)) (by omega))
          clear hb3
          go_wp2
          exact ⟨rfl, by have := hk3.out; (repeat (first | with_reducible assumption | with_reducible refine kpall15 ?_ (by first | (refine Or.inr ?_; first | (simp; done) | (simp; omega) | omega)) | with_reducible refine kpall9 ?_ (by first | (refine Or.inr ?_; first | (simp; done) | (simp; omega) | omega)) | with_reducible refine kpall6 ?_ (by first | (refine Or.inr ?_; first | (simp; done) | (simp; omega) | omega)) | with_reducible refine kp_set ?_ (by first | (refine Or.inl ?_; simp; done) | (refine Or.inr ?_; first | (simp; done) | (simp; omega) | omega)) _ | with_reducible refine kp_alloc ?_ _ | with_reducible refine kp_drew ?_ | with_reducible refine kp_drewN ?_ _ | with_reducible exact Keep.refl _ _)), .inr (by rw [HSI.out]; exact ⟨HB.out, by unfold badM; rw [if_pos (show (stA ms j).cd = 0 from rfl)]⟩)⟩
end
end Go.Proofs.YtidimdbnnnpplaaDoor
namespace Go.Proofs.YtidimdbnnnpplaaDoor
open Go.RowKit
set_option maxRecDepth 1000000
set_option linter.unusedVariables false
set_option linter.unusedSimpArgs false
set_option maxHeartbeats 8000000

/-- What the words of a text are read as. -/
def parseG (g : List Mw × Int × Int × Int) : MT × Int × Int × Int :=
  if g.2.1 = 0 then (if (wsM g.1).2.cd = 0 then ((wsM g.1).1, 0, 0, 0) else (⟨[], []⟩, (wsM g.1).2.cd, (wsM g.1).2.ln, (wsM g.1).2.cl)) else (⟨[], []⟩, g.2.1, g.2.2.1, g.2.2.2)
def parseE (xs : List Int) : MT × Int × Int × Int := parseG (outE xs)
def txA : List Int := [109, 101, 115, 115, 97, 103, 101, 32, 65, 32, 123, 32, 111, 112, 116, 105, 111, 110, 97, 108, 32, 105, 110, 116, 51, 50, 32, 120, 32, 61, 32, 49, 59, 32, 125]
def txB : List Int := [105, 109, 112, 111, 114, 116, 32, 34, 97, 34, 59, 32, 109, 101, 115, 115, 97, 103, 101, 32, 77, 32, 123, 32, 111, 110, 101, 111, 102, 32, 111, 32, 123, 32, 65, 46, 66, 32, 120, 32, 61, 32, 49, 59, 32, 67, 32, 121, 32, 61, 32, 50, 59, 32, 125, 32, 109, 97, 112, 60, 115, 116, 114, 105, 110, 103, 44, 32, 77, 62, 32, 109, 32, 61, 32, 51, 59, 32, 125]
def txC : List Int := [109, 101, 115, 115, 97, 103, 101, 32, 65, 32, 123, 32, 114, 101, 115, 101, 114, 118, 101, 100, 32, 49, 32, 116, 111, 32, 50, 44, 32, 53, 59, 32, 125, 32, 101, 110, 117, 109, 32, 69, 32, 123, 32, 90, 32, 61, 32, 48, 59, 32, 125]
def txF : List Int := [109, 101, 115, 115, 97, 103, 101, 32, 65, 32, 123, 32, 105, 110, 116, 51, 50, 32, 120, 32, 61, 32, 49, 32, 125]
def txG : List Int := [109, 101, 115, 115, 97, 103, 101, 32, 65, 32, 123]
def txH : List Int := [102, 111, 111]
def txI : List Int := [109, 101, 115, 115, 97, 103, 101, 32, 65, 32, 123, 32, 111, 110, 101, 111, 102, 32, 111, 32, 123, 32, 125, 32, 125]
def fA1 : MF := ⟨[120], [105, 110, 116, 51, 50], [], 1, 1, 0, 0, (1, 28), (1, 32), (1, 22), (1, 13)⟩
def dA1 : MD := ⟨false, [65], (1, 9), [fA1], [], [], [], []⟩
def fB1 : MF := ⟨[120], [65, 46, 66], [], 1, 4, 0, 0, (1, 39), (1, 43), (1, 35), (0, 0)⟩
def fB2 : MF := ⟨[121], [67], [], 2, 4, 0, 0, (1, 48), (1, 52), (1, 46), (0, 0)⟩
def fB3 : MF := ⟨[109], [77], [115, 116, 114, 105, 110, 103], 3, 5, 0, 0, (1, 72), (1, 76), (1, 69), (1, 61)⟩
def dB1 : MD := ⟨false, [77], (1, 21), [fB1, fB2, fB3], [⟨[111], (1, 31)⟩], [], [], []⟩
def dC1 : MD := ⟨false, [65], (1, 9), [], [], [], [⟨1, 2, (1, 22)⟩, ⟨5, 5, (1, 30)⟩], []⟩
def dC2 : MD := ⟨true, [69], (1, 40), [], [], [], [], [⟨[90], 0, (1, 44), (1, 48)⟩]⟩
theorem evA : parseE txA = (⟨[], [dA1]⟩, 0, 0, 0) := by kernel_rfl
theorem evB : parseE txB = (⟨[⟨[97], (1, 8)⟩], [dB1]⟩, 0, 0, 0) := by kernel_rfl
theorem evC : parseE txC = (⟨[], [dC1, dC2]⟩, 0, 0, 0) := by kernel_rfl
theorem evF : parseE txF = (⟨[], []⟩, 11, 1, 25) := by kernel_rfl
theorem evG : parseE txG = (⟨[], []⟩, 11, 1, 12) := by kernel_rfl
theorem evH : parseE txH = (⟨[], []⟩, 11, 1, 1) := by kernel_rfl
theorem evI : parseE txI = (⟨[], []⟩, 11, 1, 23) := by kernel_rfl
end Go.Proofs.YtidimdbnnnpplaaDoor
namespace Go.Proofs.YtidimdbnnnpplaaDoor
open Go.RowKit
set_option maxRecDepth 1000000
set_option linter.unusedVariables false
set_option linter.unusedSimpArgs false
set_option maxHeartbeats 8000000

/-- A file's tree in memory. -/
def FileR (w w' : World) (t : MT) (v1 v2 : Value) : Prop := ∃ x : DV, x.d = toD t ∧ x.o = v1 ∧ x.dd = v2 ∧ RD 10 w' (fun k => w.heap.size ≤ k ∧ k < w'.heap.size) x
def ParseG (w : World) (g : MT × Int × Int × Int) (e : Ending) (w' : World) : Prop :=
  ∃ a1 n1 c1 a2 n2 c2, e = .returned (.tuple #[.agg #[.slice a1 n1 c1, .slice a2 n2 c2], .agg #[.int .i64 g.2.1, .int .i64 0, .int .i64 g.2.2.1, .int .i64 g.2.2.2]]) ∧ Below w.heap.size w w' ∧ Hid (FileR w w' g.1 (.slice a1 n1 c1) (.slice a2 n2 c2))
theorem fileR_nil (w w' : World) : FileR w w' ⟨[], []⟩ (.slice none 0 0) (.slice none 0 0) :=
  ⟨⟨toD ⟨[], []⟩, .slice none 0 0, .slice none 0 0, .slice none 0 0, .slice none 0 0, .slice none 0 0⟩, rfl, rfl, rfl, rowS_nil _ _ _, rowS_nil _ _ _, rowS_nil _ _ _, rowS_nil _ _ _, [], rfl, rowS_nil _ _ _, by simp⟩
theorem parseIn (xs : List Int) (w : World) (hb : ∀ x ∈ xs, 0 ≤ x ∧ x ≤ 255) (hm : xs.length ≤ 9223372036854775807) (hs : Sentinel w 2) : Calls Tryd.prog 4 #[.string (strOfNums xs)] w fun e w' => ParseG w (parseE xs) e w' := by
  have HSP := hid (splitW xs ((w.alloc (.cells #[.slice none 0 0, .slice none 0 0] 25)).alloc (.cells #[.int .i64 0, .int .i64 0, .int .i64 0, .int .i64 0] 28)) hb hm (hs.kept (below_twoo _ _)))
  have HW := hid (outE_ws hb)
  unfold parseE
  clear hb hm hs
  generalize outE xs = g at *
  obtain ⟨ms, cd, l, c⟩ := g
  have hcd0 : Hid (parseG (ms, cd, l, c) = parseG (ms, cd, l, c)) := hid rfl
  go_enter Tryd.func4, Tryd.ntmps4
  go_wp2_with fail
  refine HSP.out.mono ?_
  rintro e w1 ⟨a, k, rfl, hr, hb1⟩
  dsimp only at hr HW
  have B1 : Blk w1 w.heap.size 25 #[.slice none 0 0, .slice none 0 0] := Blk.kept ((Blk.newAt (w := w) rfl).kept (below_alloc _)) hb1
  have B2 : Blk w1 (w.heap.size + 1) 28 #[.int .i64 0, .int .i64 0, .int .i64 0, .int .i64 0] := Blk.kept (Blk.newAt (by simp)) hb1
  have hs1 := hb1.size
  try simp at hs1
  have HB1 := hid (below_trans (below_twoo _ _) hb1)
  have HRW := hid hr
  clear hb1 hr HSP
  by_cases hcd : cd = 0
  · subst hcd
    have HWs := HW.out rfl
    have HG : Hid (parseG (ms, 0, l, c) = if (wsM ms).2.cd = 0 then ((wsM ms).1, 0, 0, 0) else (⟨[], []⟩, (wsM ms).2.cd, (wsM ms).2.ln, (wsM ms).2.cl)) := hid rfl
    obtain ⟨m0, mr, hms⟩ := HWs.ne
    obtain ⟨bw, ow, rfl⟩ : ∃ bw ow, a = some ⟨bw, ow, none⟩ := by
      rcases HRW.out.cells with ⟨h0, _⟩ | ⟨bw, ow, e, _⟩
      · rw [hms] at h0; simp at h0
      · exact ⟨bw, ow, e⟩
    have HL : Hid (0 < ms.length ∧ ms.length ≤ 70000) := hid ⟨by rw [hms]; simp, HWs.len⟩
    have HWS := hid HWs
    clear hms HWs HW m0 mr
    have x1 := B1.cellF
    have y1 := B1.frz
    have z1 := B1.lt
    have x2 := B2.cellF
    have y2 := B2.frz
    have z2 := B2.lt
    go_wp2_with fail
    refine (treeW w1 bw ow k ms (w1.heap.size + 1) _ 0 (wsM ms).2 (fun W v1 v2 => ∃ x : DV, x.d = toD (wsM ms).1 ∧ x.o = v1 ∧ x.dd = v2 ∧ RD 10 W (fun q => w1.heap.size + 4 ≤ q ∧ q < W.heap.size) x) ?_ ?_ ?_).mono ?_
    · rintro W W' v1 v2 ⟨x, h1, h2, h3, h4⟩ hK
      refine ⟨x, h1, h2, h3, RD.weak (fun q hq => ⟨hq.1, Nat.lt_of_lt_of_le hq.2 hK.size⟩) _ _ (RD.keep hK (fun q hq => ?_) _ _ h4)⟩
      simp
      omega
    · intro W hW hsz
      refine (fileW w1 bw ow k ms (w1.heap.size + 1) W 0 HL.out.2 hW).mono ?_
      rintro e w' ⟨hK, (⟨a1, n1, c1, a2, n2, c2, rfl, h0, h1⟩ | hF)⟩
      · refine ⟨hK, .inl ⟨a1, n1, c1, a2, n2, c2, rfl, h0, hid ?_⟩⟩
        obtain ⟨x, h1, h2, h3, h4⟩ := h1.out
        refine ⟨x, h1, h2, h3, RD.weak (fun q hq => ⟨?_, hq.2⟩) _ _ h4⟩
        simp at hsz
        omega
      · exact ⟨hK, .inr hF⟩
    · refine ⟨?_, ?_, ?_, HRW.out, ?_, ?_⟩
      · exact Blk.newAt (by simp)
      · exact below_trans (below_alloc _) (below_alloc _)
      · omega
      · exact HWS.out
      · exact HL.out.1
    · rintro e w2 ⟨hK2, (⟨a1, n1, c1, a2, n2, c2, rfl, hS, x, g1, g2, g3, g4⟩ | ⟨hS, rfl⟩)⟩
      · have hB2 : Hid (Below w.heap.size w w2) := hid (HB1.out.trans (Keep.below (Keep.trans (kp_alloc (kp_alloc (Keep.refl _ _) _) _) hK2) (by omega) (fun k hk => by omega)))
        have D1 := Blk.keep ((B1.kept (below_alloc _)).kept (below_alloc _)) hK2 (show w.heap.size ≠ w1.heap.size + 1 by omega)
        have D2 := Blk.keep ((B2.kept (below_alloc _)).kept (below_alloc _)) hK2 (show w.heap.size + 1 ≠ w1.heap.size + 1 by omega)
        have hs2 := hK2.size
        try simp at hs2
        clear hK2 x1 y1 z1 x2 y2 z2 B1 B2
        have d1 := D1.cellF
        have e1 := D1.frz
        have f1 := D1.lt
        have d2 := D2.cellF
        have e2 := D2.frz
        have f2 := D2.lt
        go_wp2
        exact bodyPost_ret (v := .tuple #[.agg #[.slice a1 n1 c1, .slice a2 n2 c2], .agg #[.int .i64 0, .int .i64 0, .int .i64 0, .int .i64 0]]) (by simp [results, Tryd.results4, go_sem, d1, d2, f1, f2]) rfl ⟨a1, n1, c1, a2, n2, c2, by rw [HG.out, if_pos hS], by have := hB2.out; (repeat (first | with_reducible assumption | with_reducible refine bl_set ?_ (by first | (simp; done) | (simp; omega) | omega) _ | with_reducible refine bl_alloc ?_ _ | with_reducible refine bl_drew ?_ | with_reducible refine bl_drewN ?_ _ | with_reducible exact Below.refl _ _)), hid (by rw [HG.out, if_pos hS]; exact ⟨x, g1, g2, g3, RD.weak (fun q hq => ⟨by omega, by have := hq.2; simp; omega⟩) _ _ (RD.keep (f := fun q => w1.heap.size ≤ q) (kp_set (kp_set (kp_set (kp_set (kp_set (kp_set (Keep.refl _ _) (.inl (by simp; omega)) _) (.inl (by simp; omega)) _) (.inl (by simp; omega)) _) (.inl (by simp; omega)) _) (.inl (by simp; omega)) _) (.inl (by simp; omega)) _) (fun q hq => by omega) _ _ g4)⟩)⟩
      · have hB2 : Hid (Below w.heap.size w w2) := hid (HB1.out.trans (Keep.below (Keep.trans (kp_alloc (kp_alloc (Keep.refl _ _) _) _) hK2) (by omega) (fun k hk => by omega)))
        have D1 := Blk.keep ((B1.kept (below_alloc _)).kept (below_alloc _)) hK2 (show w.heap.size ≠ w1.heap.size + 1 by omega)
        have D2 := Blk.keep ((B2.kept (below_alloc _)).kept (below_alloc _)) hK2 (show w.heap.size + 1 ≠ w1.heap.size + 1 by omega)
        have hs2 := hK2.size
        try simp at hs2
        clear hK2 x1 y1 z1 x2 y2 z2 B1 B2
        have d1 := D1.cellF
        have e1 := D1.frz
        have f1 := D1.lt
        have d2 := D2.cellF
        have e2 := D2.frz
        have f2 := D2.lt
        go_wp2
        exact bodyPost_ret (v := .tuple #[.agg #[.slice none 0 0, .slice none 0 0], .agg #[.int .i64 (wsM ms).2.cd, .int .i64 0, .int .i64 (wsM ms).2.ln, .int .i64 (wsM ms).2.cl]]) (by simp [results, Tryd.results4, go_sem, d1, d2, f1, f2]) rfl ⟨none, 0, 0, none, 0, 0, by rw [HG.out, if_neg hS], by have := hB2.out; (repeat (first | with_reducible assumption | with_reducible refine bl_set ?_ (by first | (simp; done) | (simp; omega) | omega) _ | with_reducible refine bl_alloc ?_ _ | with_reducible refine bl_drew ?_ | with_reducible refine bl_drewN ?_ _ | with_reducible exact Below.refl _ _)), hid (by rw [HG.out, if_neg hS]; exact fileR_nil _ _)⟩
  · have HG : Hid (parseG (ms, cd, l, c) = (⟨[], []⟩, cd, l, c)) := hid (by unfold parseG; rw [if_neg hcd])
    have x1 := B1.cellF
    have y1 := B1.frz
    have z1 := B1.lt
    have x2 := B2.cellF
    have y2 := B2.frz
    have z2 := B2.lt
    go_wp2_with fail
    go_region
    all_goals (go_wp2; exact bodyPost_ret (v := .tuple #[.agg #[.slice none 0 0, .slice none 0 0], .agg #[.int .i64 cd, .int .i64 0, .int .i64 l, .int .i64 c]]) (by simp [results, Tryd.results4, go_sem, x1, x2, z1, z2]) rfl ⟨none, 0, 0, none, 0, 0, by rw [HG.out], by have := HB1.out; (repeat (first | with_reducible assumption | with_reducible refine bl_set ?_ (by first | (simp; done) | (simp; omega) | omega) _ | with_reducible refine bl_alloc ?_ _ | with_reducible refine bl_drew ?_ | with_reducible refine bl_drewN ?_ _ | with_reducible exact Below.refl _ _)), hid (by rw [HG.out]; exact fileR_nil _ _)⟩)
end Go.Proofs.YtidimdbnnnpplaaDoor
namespace Go.Proofs.YtidimdbnnnpplaaDoor
open Go.RowKit
set_option maxRecDepth 1000000
set_option linter.unusedVariables false
set_option linter.unusedSimpArgs false
set_option maxHeartbeats 8000000

theorem placeYes (l c : Int) (w : World) : Calls Tryd.prog 13 #[.agg #[.int .i64 l, .int .i64 c], .agg #[.int .i64 l, .int .i64 c]] w fun e w' => e = .returned (.bool true) ∧ Below w.heap.size w w' := by
  go_enter Tryd.func13, Tryd.ntmps13
  go_wp2
  go_ret
  exact ⟨rfl, by (repeat (first | with_reducible assumption | with_reducible refine bl_set ?_ (by first | (simp; done) | (simp; omega) | omega) _ | with_reducible refine bl_alloc ?_ _ | with_reducible refine bl_drew ?_ | with_reducible refine bl_drewN ?_ _ | with_reducible exact Below.refl _ _))⟩
theorem fieldYes (g : MF) (w : World) : Calls Tryd.prog 47 #[.agg #[.string (strOfNums g.name), .string (strOfNums g.ty), .string (strOfNums g.key), .int .u64 g.num, .int .i64 g.label, .int .i64 g.packed, .int .i64 g.oneof, .int .i64 g.at1.1, .int .i64 g.at1.2, .int .i64 g.nat1.1, .int .i64 g.nat1.2, .int .i64 g.tat.1, .int .i64 g.tat.2, .int .i64 g.mat.1, .int .i64 g.mat.2], .agg #[.string (strOfNums g.name), .string (strOfNums g.ty), .string (strOfNums g.key), .int .u64 g.num, .int .i64 g.label, .int .i64 g.packed, .int .i64 g.oneof, .int .i64 g.at1.1, .int .i64 g.at1.2, .int .i64 g.nat1.1, .int .i64 g.nat1.2, .int .i64 g.tat.1, .int .i64 g.tat.2, .int .i64 g.mat.1, .int .i64 g.mat.2]] w fun e w' => e = .returned (.bool true) ∧ Below w.heap.size w w' := by
  obtain ⟨nm, ty, key, num, label, packed, oneof, ⟨al, ac⟩, ⟨nl, nc⟩, ⟨tl, tc⟩, ⟨ml, mc⟩⟩ := g
  dsimp only
  have hb0 : Hid (Below w.heap.size w w) := hid (Below.refl _ _)
  go_enter Tryd.func47, Tryd.ntmps47
  go_wp2_with fail
  refine (placeYes al ac _).mono ?_
  rintro e w1 ⟨rfl, hb1⟩
  have Ca : Blk w1 (w.heap.size) 44 #[.string (strOfNums nm), .string (strOfNums ty), .string (strOfNums key), .int .u64 num, .int .i64 label, .int .i64 packed, .int .i64 oneof, .int .i64 al, .int .i64 ac, .int .i64 nl, .int .i64 nc, .int .i64 tl, .int .i64 tc, .int .i64 ml, .int .i64 mc] := Blk.kept (((Blk.newAt (by simp)).kept (below_alloc _)).is (by first | rfl | simp)) hb1
  have Cv : Blk w1 (w.heap.size + 1) 56 #[.string (strOfNums nm), .string (strOfNums ty), .string (strOfNums key), .int .u64 num, .int .i64 label, .int .i64 packed, .int .i64 oneof, .int .i64 al, .int .i64 ac, .int .i64 nl, .int .i64 nc, .int .i64 tl, .int .i64 tc, .int .i64 ml, .int .i64 mc] := Blk.kept ((Blk.newAt (by simp)).is (by first | rfl | simp)) hb1
  have hs1 := hb1.size
  try simp at hs1
  have Ba := Ca
  clear Ca
  have xa := Ba.cellF
  have ya := Ba.frz
  have za : w.heap.size < w1.heap.size := by omega
  have Bv := Cv
  clear Cv
  have xv := Bv.cellF
  have yv := Bv.frz
  have zv : w.heap.size + 1 < w1.heap.size := by omega
  replace hb1 : Hid (Below w.heap.size w w1) := hid (bl_then (by have := hb0.out; (repeat (first | with_reducible assumption | with_reducible refine bl_set ?_ (by first | (simp; done) | (simp; omega) | omega) _ | with_reducible refine bl_alloc ?_ _ | with_reducible refine bl_drew ?_ | with_reducible refine bl_drewN ?_ _ | with_reducible exact Below.refl _ _))) hb1)
  go_wp2_with fail
  refine (placeYes nl nc _).mono ?_
  rintro e w2 ⟨rfl, hb2⟩
  have Ca : Blk w2 (w.heap.size) 44 #[.string (strOfNums nm), .string (strOfNums ty), .string (strOfNums key), .int .u64 num, .int .i64 label, .int .i64 packed, .int .i64 oneof, .int .i64 al, .int .i64 ac, .int .i64 nl, .int .i64 nc, .int .i64 tl, .int .i64 tc, .int .i64 ml, .int .i64 mc] := Blk.kept (Ba.is (by first | rfl | simp)) hb2
  have Cv : Blk w2 (w.heap.size + 1) 56 #[.string (strOfNums nm), .string (strOfNums ty), .string (strOfNums key), .int .u64 num, .int .i64 label, .int .i64 packed, .int .i64 oneof, .int .i64 al, .int .i64 ac, .int .i64 nl, .int .i64 nc, .int .i64 tl, .int .i64 tc, .int .i64 ml, .int .i64 mc] := Blk.kept (Bv.is (by first | rfl | simp)) hb2
  clear Ba xa ya Bv xv yv
  have hs2 := hb2.size
  try simp at hs2
  have Ba := Ca
  clear Ca
  have xa := Ba.cellF
  have ya := Ba.frz
  replace za : w.heap.size < w2.heap.size := by omega
  have Bv := Cv
  clear Cv
  have xv := Bv.cellF
  have yv := Bv.frz
  replace zv : w.heap.size + 1 < w2.heap.size := by omega
  replace hb2 : Hid (Below w.heap.size w w2) := hid (bl_then (by have := hb1.out; (repeat (first | with_reducible assumption | with_reducible refine bl_set ?_ (by first | (simp; done) | (simp; omega) | omega) _ | with_reducible refine bl_alloc ?_ _ | with_reducible refine bl_drew ?_ | with_reducible refine bl_drewN ?_ _ | with_reducible exact Below.refl _ _))) hb2)
  go_wp2_with fail
  refine (placeYes tl tc _).mono ?_
  rintro e w3 ⟨rfl, hb3⟩
  have Ca : Blk w3 (w.heap.size) 44 #[.string (strOfNums nm), .string (strOfNums ty), .string (strOfNums key), .int .u64 num, .int .i64 label, .int .i64 packed, .int .i64 oneof, .int .i64 al, .int .i64 ac, .int .i64 nl, .int .i64 nc, .int .i64 tl, .int .i64 tc, .int .i64 ml, .int .i64 mc] := Blk.kept (Ba.is (by first | rfl | simp)) hb3
  have Cv : Blk w3 (w.heap.size + 1) 56 #[.string (strOfNums nm), .string (strOfNums ty), .string (strOfNums key), .int .u64 num, .int .i64 label, .int .i64 packed, .int .i64 oneof, .int .i64 al, .int .i64 ac, .int .i64 nl, .int .i64 nc, .int .i64 tl, .int .i64 tc, .int .i64 ml, .int .i64 mc] := Blk.kept (Bv.is (by first | rfl | simp)) hb3
  clear Ba xa ya Bv xv yv
  have hs3 := hb3.size
  try simp at hs3
  have Ba := Ca
  clear Ca
  have xa := Ba.cellF
  have ya := Ba.frz
  replace za : w.heap.size < w3.heap.size := by omega
  have Bv := Cv
  clear Cv
  have xv := Bv.cellF
  have yv := Bv.frz
  replace zv : w.heap.size + 1 < w3.heap.size := by omega
  replace hb3 : Hid (Below w.heap.size w w3) := hid (bl_then (by have := hb2.out; (repeat (first | with_reducible assumption | with_reducible refine bl_set ?_ (by first | (simp; done) | (simp; omega) | omega) _ | with_reducible refine bl_alloc ?_ _ | with_reducible refine bl_drew ?_ | with_reducible refine bl_drewN ?_ _ | with_reducible exact Below.refl _ _))) hb3)
  go_wp2_with fail
  refine (placeYes ml mc _).mono ?_
  rintro e w4 ⟨rfl, hb4⟩
  have Ca : Blk w4 (w.heap.size) 44 #[.string (strOfNums nm), .string (strOfNums ty), .string (strOfNums key), .int .u64 num, .int .i64 label, .int .i64 packed, .int .i64 oneof, .int .i64 al, .int .i64 ac, .int .i64 nl, .int .i64 nc, .int .i64 tl, .int .i64 tc, .int .i64 ml, .int .i64 mc] := Blk.kept (Ba.is (by first | rfl | simp)) hb4
  have Cv : Blk w4 (w.heap.size + 1) 56 #[.string (strOfNums nm), .string (strOfNums ty), .string (strOfNums key), .int .u64 num, .int .i64 label, .int .i64 packed, .int .i64 oneof, .int .i64 al, .int .i64 ac, .int .i64 nl, .int .i64 nc, .int .i64 tl, .int .i64 tc, .int .i64 ml, .int .i64 mc] := Blk.kept (Bv.is (by first | rfl | simp)) hb4
  clear Ba xa ya Bv xv yv
  have hs4 := hb4.size
  try simp at hs4
  have Ba := Ca
  clear Ca
  have xa := Ba.cellF
  have ya := Ba.frz
  replace za : w.heap.size < w4.heap.size := by omega
  have Bv := Cv
  clear Cv
  have xv := Bv.cellF
  have yv := Bv.frz
  replace zv : w.heap.size + 1 < w4.heap.size := by omega
  replace hb4 : Hid (Below w.heap.size w w4) := hid (bl_then (by have := hb3.out; (repeat (first | with_reducible assumption | with_reducible refine bl_set ?_ (by first | (simp; done) | (simp; omega) | omega) _ | with_reducible refine bl_alloc ?_ _ | with_reducible refine bl_drew ?_ | with_reducible refine bl_drewN ?_ _ | with_reducible exact Below.refl _ _))) hb4)
  go_wp2
  go_ret
  exact ⟨rfl, by have := hb4.out; (repeat (first | with_reducible assumption | with_reducible refine bl_set ?_ (by first | (simp; done) | (simp; omega) | omega) _ | with_reducible refine bl_alloc ?_ _ | with_reducible refine bl_drew ?_ | with_reducible refine bl_drewN ?_ _ | with_reducible exact Below.refl _ _))⟩
end Go.Proofs.YtidimdbnnnpplaaDoor
