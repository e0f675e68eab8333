/-
  opt: a block shortened.
  opt: what is reached: one place more.
  opt: what is reached.
  opt: reach.
-/
import Derived.Test.YtliohglpbmpbhaaCOPi
import Derived.Deep.LoopGhost
namespace Go.Proofs.Ytliohglpbmpbhaa
open Go.RowKit Go.Shelf
set_option maxRecDepth 1000000
set_option linter.unusedVariables false
set_option linter.unusedSimpArgs false
set_option maxHeartbeats 4000000
/-- What a shortening tells: fewer steps, and where each stands. -/
def ShP (w : World) (g N : Nat) (d : List IN × List (Int × Int)) (e : Ending) (w' : World) : Prop := ∃ va vc b n, e = .returned (.tuple #[.slice va d.1.length vc, .map (some b)]) ∧ w'.ownsRow w.heap.size 42 5 (.slice va d.1.length vc) d.1.length (d.1.flatMap cIN) ∧ MpI w' b n (psM d.2) ∧ w.heap.size ≤ b ∧ Keep (· ≠ g) w w' ∧ MD w' g N
def ShG (fn : FuncId) (sh : List IN → List LN → List IN × List (Int × Int)) : Prop := ∀ (w0 w : World), Below w0.heap.size w0 w → ∀ (l : List IN) (rows : List LN) (la ra : Option Addr) (lc rc g N : Nat), RowS w0 AnyZ 5 (.slice la l.length lc) l.length (l.flatMap cIN) → RowS w0 AnyZ 2 (.slice ra rows.length rc) rows.length (rows.flatMap cLN) → MC w g N → w0.heap.size ≤ g → l.length ≤ N → N ≤ 1048576 → Calls Try.prog fn #[.slice la l.length lc, .slice ra rows.length rc, .slice (some ⟨g, 0, none⟩) l.length N] w (ShP w g N (sh l rows))
theorem shFused : ShG 27 (fun l rows => fuA l (mkA (List.replicate l.length false) (nmV l rows))) := by
  intro w0 w h0 l rows la ra lc rc g N hl hr hm hg hn hN
  have hb : (List.replicate l.length false).length = l.length := by simp
  have hmo := hm.own hn hN hg
  have hc := fusedT w0 w h0 l rows la ra (some ⟨g, 0, none⟩) lc rc N hl hr (List.replicate l.length false) (by rw [hb]; exact hmo) hb (by omega)
  rw [hb] at hc
  refine hc.mono ?_
  rintro e w' ⟨va, vc, b, n, rfl, ho, hmp, hb2, hk, hfl⟩
  rw [mkA_len, hb] at hfl
  exact ⟨va, vc, b, n, rfl, ho, hmp, hb2, hk.weak (fun k hk e => hk (by simpa using e.symm)), md_own hfl⟩
def shB (sh : List IN → List LN → List IN × List (Int × Int)) (k : BK) : BK := ⟨(sh k.dec k.rows).1.map (rnI (psM (sh k.dec k.rows).2)), (sh k.enc []).1.map (rnI (psM (sh k.enc []).2)), k.rows.map (rnL (psM (sh k.dec k.rows).2))⟩
def fromRegionS (n : Nat) : Code → Option Code
  | .seq (.region i ops d) c => if i = n then some (.seq (.region i ops d) c) else fromRegionS n c
  | .seq _ c => fromRegionS n c
  | _ => none
noncomputable def shRest : Code := (Try.f22.body.bind (fromRegionS 2)).getD .skip
theorem shRestW (w0 W : World) (k : BK) (da ea ra : Option Addr) (dc ec rc fn p2 p4 g N base : Nat) (d1 d2 : List IN × List (Int × Int)) (hcf : ∀ (args : Array Value) (W : World), (callFunc fn args).run Try.prog W = .ok (.enter fn args) W)
    (h : BkR w0 k (.slice da k.dec.length dc) (.slice ea k.enc.length ec) (.slice ra k.rows.length rc)) (hB : Below w0.heap.size w0 W) (b2 : Blk w0 p2 25 #[.slice da k.dec.length dc, .slice ea k.enc.length ec, .slice ra k.rows.length rc]) (b4 : Blk w0 p4 25 #[.slice none 0 0, .slice none 0 0, .slice none 0 0]) (hMC : MC W g N) (hg : w0.heap.size ≤ g) (hp4 : base ≤ p4) (hb0 : base ≤ w0.heap.size) (hd : k.dec.length ≤ N) (he : k.enc.length ≤ N) (hN : N ≤ 1048576) (hrn : k.rows.length ≤ 1048576)
    (hC1 : ∀ W', Below w0.heap.size w0 W' → MC W' g N → Calls Try.prog fn #[.slice da k.dec.length dc, .slice ra k.rows.length rc, .slice (some ⟨g, 0, none⟩) k.dec.length N] W' (ShP W' g N d1))
    (hC2 : ∀ W', Below w0.heap.size w0 W' → MC W' g N → Calls Try.prog fn #[.slice ea k.enc.length ec, .slice none 0 0, .slice (some ⟨g, 0, none⟩) k.enc.length N] W' (ShP W' g N d2))
    (hA1 : AllI (d1.1.flatMap cIN)) (hA2 : AllI (d2.1.flatMap cIN)) (hAr : AllI (k.rows.flatMap cLN)) (hM1 : ∀ x v, psM d1.2 x = some v → oI64 v) (hM2 : ∀ x v, psM d2.2 x = some v → oI64 v) (R : Ending → World → Prop)
    (hR : ∀ da dc ea ec ra rc w2, BkO w2 w0.heap.size ⟨d1.1.map (rnI (psM d1.2)), d2.1.map (rnI (psM d2.2)), k.rows.map (rnL (psM d1.2))⟩ (.slice da d1.1.length dc) (.slice ea d2.1.length ec) (.slice ra k.rows.length rc) → Below base w0 w2 → R (.returned (.agg #[.slice da d1.1.length dc, .slice ea d2.1.length ec, .slice ra k.rows.length rc])) w2) (v11 v12 v13 v14 v15 v16 v17 v18 v19 v20 v21 v22 v23 v24 v25 v26 v27 v28 v29 v30 v31 v32 v33 v34 v35 v36 v37 v38 v39 v40 v41 v42 v43 v44 v45 v46 v47 v48 v49 v50 v51 v52 v53 v54 v55 v56 v57 v58 v59 v60 v61 v62 : Value) : Code.wp Try.prog shRest (bodyPost Try.prog Try.f22 R) ⟨(List.toArray [.agg #[.slice da k.dec.length dc, .slice ea k.enc.length ec, .slice ra k.rows.length rc], .func (.func fn) #[] #[], .pointer (some ⟨p2, 0, none⟩), undef, .pointer (some ⟨p4, 0, none⟩), .slice (some ⟨g, 0, none⟩) N N, undef, undef, undef, undef, undef, v11, v12, v13, v14, v15, v16, v17, v18, v19, v20, v21, v22, v23, v24, v25, v26, v27, v28, v29, v30, v31, v32, v33, v34, v35, v36, v37, v38, v39, v40, v41, v42, v43, v44, v45, v46, v47, v48, v49, v50, v51, v52, v53, v54, v55, v56, v57, v58, v59, v60, v61, v62]), []⟩ W := by
  have HH := hid h
  have HB := hid hB
  have HC1 := hid hC1
  have HC2 := hid hC2
  have HA1 := hid hA1
  have HA2 := hid hA2
  have HAR := hid hAr
  have HM1 := hid hM1
  have HM2 := hid hM2
  have HR := hid hR
  have B2 := hid b2
  have B4 := hid b4
  have HMC := hid hMC
  have h2g : p2 ≠ g := by have := b2.lt; omega
  have h4g : p4 ≠ g := by have := b4.lt; omega
  have h24 : p2 < w0.heap.size := b2.lt
  have h44 : p4 < w0.heap.size := b4.lt
  clear h hB hC1 hC2 hA1 hA2 hAr hM1 hM2 hR b2 b4 hMC
  have i0 : (0 : Int) ≤ (k.dec.length : Int) := by omega
  have i1 : (k.dec.length : Int) ≤ (N : Int) := by omega
  have i2 : (0 : Int) ≤ (k.enc.length : Int) := by omega
  have i3 : (k.enc.length : Int) ≤ (N : Int) := by omega
  conv => arg 2; whnf
  have HD1 := hid (HC1.out W.drew (below_trans HB.out (below_drew1 _)) (HMC.out.keep (Keep.ofBelow (f := fun _ => True) (below_drew1 _)) trivial))
  have B2W := hid (B2.out.kept HB.out)
  have HSF : Hid (∀ W', Keep (· ≠ g) W W' → W'.cell? ⟨p2, 0, none⟩ = some (.slice da k.dec.length dc) ∧ W'.cell? ⟨p2, 2, none⟩ = some (.slice ra k.rows.length rc)) := hid fun W' hW => ⟨(B2W.out.keep hW h2g).cell 0 _ rfl, (B2W.out.keep hW h2g).cell 2 _ rfl⟩
  have HW : Hid (Keep (· ≠ g) W W.drew) := hid (Keep.ofBelow (below_drew1 _))
  go_wp2_with fail
  go_region_held3 (fun W' => W'.cell? ⟨p2, 0, none⟩ = some (.slice da k.dec.length dc) ∧ W'.cell? ⟨p2, 2, none⟩ = some (.slice ra k.rows.length rc)) (exact HSF.out _ HW.out) ((refine HD1.out.mono ?_; rintro e u ⟨va1, vc1, m1, n1, rfl, ho1, hm1, hmb1, hk1, hmd1⟩; replace HW := hid (HW.out.trans hk1); have HO1 := hid (own_mono ho1 (show W.heap.size ≤ W.drew.heap.size from Nat.le_refl _)); have HM1P := hid hm1; have HMB1 : Hid (W.heap.size ≤ m1) := hid hmb1; have HMD := hid hmd1; clear ho1 hm1 hmb1 hk1 hmd1))
  have hgW : g < W.heap.size := by obtain ⟨cs, q, -⟩ := HMC.out; exact q.lt
  have HB1 := hid (below_kg HB.out HW.out hg)
  have HB2 := hid ((B2W.out.keep HW.out h2g))
  obtain ⟨u2, HCL, HMC2, HK2⟩ := md_clear HMD.out
  have HX1 : Hid (∀ j, (Value.slice va1 d1.1.length vc1).ownBlock = some j → j < u2.heap.size) := hid fun j hj => Nat.lt_of_lt_of_le (own_type HO1.out hj).2.1 HK2.out.size
  replace HO1 := hid (own_keep HO1.out (fun k hk => by have := (own_type HO1.out hk).1; show k ≠ g; omega) HK2.out)
  replace HM1P := hid (HM1P.out.keep HK2.out (show m1 ≠ g by have := HMB1.out; omega))
  replace HW := hid (HW.out.trans HK2.out)
  have hWu : W.heap.size ≤ u2.heap.size := HW.out.size
  replace HB2 := hid (HB2.out.keep HK2.out h2g)
  replace HB1 := hid (below_kg HB.out HW.out hg)
  clear HSF HD1 HMD HK2 HMC
  have hcl := HCL.out 0
  go_wp2_with fail
  clear hcl HCL
  have HD2 := hid (HC2.out u2.drew (below_trans HB1.out (below_drew1 _)) (HMC2.out.keep (Keep.ofBelow (f := fun _ => True) (below_drew1 _)) trivial))
  have HSF : Hid (∀ W', Keep (· ≠ g) u2 W' → W'.cell? ⟨p2, 1, none⟩ = some (.slice ea k.enc.length ec)) := hid fun W' hW => (HB2.out.keep hW h2g).cell 1 _ rfl
  have HV : Hid (Keep (· ≠ g) u2 u2.drew) := hid (Keep.ofBelow (below_drew1 _))
  go_region_held3 (fun W' => W'.cell? ⟨p2, 1, none⟩ = some (.slice ea k.enc.length ec)) (exact HSF.out _ HV.out) ((refine HD2.out.mono ?_; rintro e u3 ⟨va2, vc2, m2, n2, rfl, ho2, hm2, hmb2, hk2, hmd2⟩; replace HV := hid (HV.out.trans hk2); have HO2 := hid (own_mono ho2 (show u2.heap.size ≤ u2.drew.heap.size from Nat.le_refl _)); have HM2P := hid hm2; have HMB2 : Hid (u2.heap.size ≤ m2) := hid hmb2; clear ho2 hm2 hmb2 hk2 hmd2))
  have HX2 : Hid (∀ j, (Value.slice va2 d2.1.length vc2).ownBlock = some j → j < u3.heap.size) := hid fun j hj => (own_type HO2.out hj).2.1
  have h23 : u2.heap.size ≤ u3.heap.size := HV.out.size
  replace HO1 := hid (own_keep HO1.out (fun k hk => by have := (own_type HO1.out hk).1; show k ≠ g; omega) HV.out)
  replace HM1P := hid (HM1P.out.keep HV.out (show m1 ≠ g by have := HMB1.out; omega))
  replace HW := hid (HW.out.trans HV.out)
  replace HB2 := hid (HB2.out.keep HV.out h2g)
  replace HB1 := hid (below_kg HB.out HW.out hg)
  clear HSF HD2 HV HMC2
  have xb := HB2.out.cellF
  have HC3 := hid (cloneL u3 k.rows ra rc (HH.out.hr.kept HB1.out) hrn)
  go_wp2_with fail
  refine HC3.out.mono ?_
  rintro e u4 ⟨ra2, rc2, rfl, ho3, hb4⟩
  have HB4 : Hid (Below u3.heap.size u3 u4) := hid hb4
  have HO3 := hid ho3
  replace HO1 := hid (own_kept HO1.out hb4)
  replace HO2 := hid (own_kept HO2.out hb4)
  replace HM1P := hid (HM1P.out.kept hb4)
  replace HM2P := hid (HM2P.out.kept hb4)
  replace HB2 := hid (HB2.out.kept hb4)
  have h34 : u3.heap.size ≤ u4.heap.size := hb4.size
  clear ho3 hb4 xb HC3
  go_wp2_with fail
  have hbs : Below u4.heap.size u4 (u4.alloc (.cells #[.slice va1 d1.1.length vc1, .slice va2 d2.1.length vc2, .slice ra2 k.rows.length rc2] 25)) := below_alloc _
  have BO : Hid (Blk (u4.alloc (.cells #[.slice va1 d1.1.length vc1, .slice va2 d2.1.length vc2, .slice ra2 k.rows.length rc2] 25)) u4.heap.size 25 #[.slice va1 d1.1.length vc1, .slice va2 d2.1.length vc2, .slice ra2 k.rows.length rc2]) := hid (Blk.new _ _ _)
  have HQ1 : Hid (∀ j, (Value.slice va1 d1.1.length vc1).ownBlock = some j → j < u2.heap.size ∧ w0.heap.size ≤ j) := hid fun j hj => ⟨HX1.out j hj, by have := (own_type HO1.out hj).1; have := HB.out.size; omega⟩
  have HQ2 : Hid (∀ j, (Value.slice va2 d2.1.length vc2).ownBlock = some j → j < u3.heap.size ∧ u2.heap.size ≤ j) := hid fun j hj => ⟨HX2.out j hj, (own_type HO2.out hj).1⟩
  have HQ3 : Hid (∀ j, (Value.slice ra2 k.rows.length rc2).ownBlock = some j → j < u4.heap.size ∧ u3.heap.size ≤ j) := hid fun j hj => ⟨(own_type HO3.out hj).2.1, (own_type HO3.out hj).1⟩
  replace HO1 := hid (own_kept HO1.out hbs)
  replace HO2 := hid (own_kept HO2.out hbs)
  replace HO3 := hid (own_kept HO3.out hbs)
  replace HM1P := hid (HM1P.out.kept hbs)
  replace HM2P := hid (HM2P.out.kept hbs)
  have hw2 : w0.heap.size ≤ u2.heap.size := Nat.le_trans HB.out.size hWu
  have hw3 : u2.heap.size ≤ u3.heap.size := h23
  have hq5 : u4.heap.size < (u4.alloc (.cells #[.slice va1 d1.1.length vc1, .slice va2 d2.1.length vc2, .slice ra2 k.rows.length rc2] 25)).heap.size := by simp
  have HB5 : Hid (Below u3.heap.size u3 (u4.alloc (.cells #[.slice va1 d1.1.length vc1, .slice va2 d2.1.length vc2, .slice ra2 k.rows.length rc2] 25))) := hid (below_trans HB4.out hbs)
  clear hbs HX1 HX2 HB4 HB2
  generalize u4.alloc (.cells #[.slice va1 d1.1.length vc1, .slice va2 d2.1.length vc2, .slice ra2 k.rows.length rc2] 25) = u5 at *
  refine (renumberT u5 d1.1 k.rows va1 ra2 vc1 rc2 m1 n1 w0.heap.size (psM d1.2) (own_mono HO1.out HB.out.size) (own_mono HO3.out (by omega)) HA1.out HAR.out HM1P.out HM1.out).mono ?_
  rintro e u6 ⟨rfl, ho1, ho3, hk6⟩
  have HO1' := hid ho1
  have HO3' := hid ho3
  have HK6 : Hid (Keep (fun j => (Value.slice va1 d1.1.length vc1).ownBlock ≠ some j ∧ (Value.slice ra2 k.rows.length rc2).ownBlock ≠ some j) u5 u6) := hid (by rw [blk_map, blk_map]; exact hk6)
  replace BO := hid (BO.out.keep HK6.out ⟨fun e => by have := (HQ1.out _ e).1; omega, fun e => by have := (HQ3.out _ e).1; omega⟩)
  replace HM2P := hid (HM2P.out.keep HK6.out ⟨fun e => mp_ne HM2P.out HO1.out _ e rfl, fun e => mp_ne HM2P.out HO3.out _ e rfl⟩)
  replace HO2 := hid (own_keep HO2.out (fun j hj => ⟨fun e => by have := (HQ1.out _ e).1; have := (HQ2.out _ hj).2; omega, fun e => by have := (HQ3.out _ e).2; have := (HQ2.out _ hj).1; omega⟩) HK6.out)
  have h56 : u5.heap.size ≤ u6.heap.size := hk6.size
  clear ho1 ho3 hk6 HO1 HO3 HM1P
  have x6 := BO.out.cellF
  go_wp2_with fail
  refine (renumberT u6 d2.1 [] va2 none vc2 0 m2 n2 w0.heap.size (psM d2.2) (own_mono HO2.out (by omega)) (World.ownsRow_nil _ _ _ _) HA2.out (fun u hu => by simp at hu) HM2P.out HM2.out).mono ?_
  rintro e u7 ⟨rfl, ho2, -, hk7⟩
  have HO2' := hid ho2
  have HK7 : Hid (Keep (fun j => (Value.slice va2 d2.1.length vc2).ownBlock ≠ some j) u6 u7) := hid (by rw [blk_map]; exact hk7.weak (fun j hj => ⟨hj, by simp⟩))
  replace BO := hid (BO.out.keep HK7.out (fun e => by have := (HQ2.out _ e).1; omega))
  replace HO1' := hid (own_keep HO1'.out (fun j hj e => by have := (HQ1.out _ hj).1; have := (HQ2.out _ e).2; omega) HK7.out)
  replace HO3' := hid (own_keep HO3'.out (fun j hj e => by have := (HQ3.out _ hj).2; have := (HQ2.out _ e).1; omega) HK7.out)
  have h67 : u6.heap.size ≤ u7.heap.size := hk7.size
  have HKF : Hid (Below w0.heap.size w0 u7) := hid (by
    have e1 := below_trans HB1.out (HB5.out.mono (Nat.le_refl _))
    refine ⟨hk7.os.trans (HK6.out.os.trans e1.os), hk7.tape.trans (HK6.out.tape.trans e1.tape), hk7.output.trans (HK6.out.output.trans e1.output), by have := e1.size; omega, fun j hj => ?_⟩
    refine (HK7.out.block j (by omega) (fun e => by have := (HQ2.out _ e).2; omega)).trans ((HK6.out.block j (by omega) ⟨fun e => by have := (HQ1.out _ e).2; omega, fun e => by have := (HQ3.out _ e).2; omega⟩).trans (e1.block j hj)))
  have B47 := hid (B4.out.kept HKF.out)
  clear ho2 hk7 x6 HO2 HM2P HK6 HK7
  have x7 := BO.out.cellF
  have y7 := B47.out.cellF
  have z7 := B47.out.frz
  have hne : p4 ≠ u4.heap.size := by omega
  go_wp2
  have hfin : Below base w0 (((u7.setCell ⟨p4, 0, none⟩ (.slice va1 d1.1.length vc1)).setCell ⟨p4, 1, none⟩ (.slice va2 d2.1.length vc2)).setCell ⟨p4, 2, none⟩ (.slice ra2 k.rows.length rc2)) := by
    have q := keepO3 (f := fun j => j ≠ p4) (w := u7) (p := p4) (a := .slice va1 d1.1.length vc1) (b := .slice va2 d2.1.length vc2) (c := .slice ra2 k.rows.length rc2) (fun h => h rfl)
    have e1 := HKF.out
    exact ⟨q.os.trans e1.os, q.tape.trans e1.tape, q.output.trans e1.output, Nat.le_trans e1.size q.size, fun j hj => (q.block j (by have := e1.size; omega) (by show j ≠ p4; omega)).trans (e1.block j (by omega))⟩
  refine bodyPost_ret (v := .agg #[.slice va1 d1.1.length vc1, .slice va2 d2.1.length vc2, .slice ra2 k.rows.length rc2]) (by simp [results, Try.results22, go_sem, y7]) rfl (HR.out _ _ _ _ _ _ _ ⟨?_, ?_, ?_, ?_⟩ hfin)
  · have q := own_set3 (a := .slice va1 d1.1.length vc1) (b := .slice va2 d2.1.length vc2) (c := .slice ra2 k.rows.length rc2) HO1'.out h44
    simpa using q
  · have q := own_set3 (a := .slice va1 d1.1.length vc1) (b := .slice va2 d2.1.length vc2) (c := .slice ra2 k.rows.length rc2) HO2'.out h44
    simpa using q
  · have q := own_set3 (a := .slice va1 d1.1.length vc1) (b := .slice va2 d2.1.length vc2) (c := .slice ra2 k.rows.length rc2) HO3'.out h44
    simpa using q
  · exact fun j e1 e2 => by have := (HQ1.out _ e1).1; have := (HQ2.out _ e2).2; omega
theorem rows_nil (w : World) (K : Nat) : RowS w AnyZ K (.slice none 0 0) 0 [] := own_row (World.ownsRow_nil w 0 3 K) (fun _ _ => trivial)
theorem shortenedT (w : World) (k : BK) (da ea ra : Option Addr) (dc ec rc : Nat) (h : BkR w k (.slice da k.dec.length dc) (.slice ea k.enc.length ec) (.slice ra k.rows.length rc)) (hs : bkSm k) (fn : FuncId) (sh : List IN → List LN → List IN × List (Int × Int)) (hsh : ShG fn sh) (hcf : ∀ (args : Array Value) (W : World), (callFunc fn args).run Try.prog W = .ok (.enter fn args) W) (hA1 : AllI ((sh k.dec k.rows).1.flatMap cIN)) (hA2 : AllI ((sh k.enc []).1.flatMap cIN)) (hAr : AllI (k.rows.flatMap cLN)) (hM1 : ∀ x v, psM (sh k.dec k.rows).2 x = some v → oI64 v) (hM2 : ∀ x v, psM (sh k.enc []).2 x = some v → oI64 v) : Calls Try.prog 22 #[.agg #[.slice da k.dec.length dc, .slice ea k.enc.length ec, .slice ra k.rows.length rc], .func (.func fn) #[] #[]] w (BlkA w (shB sh k)) := by
  have HH := hid h
  have HSH := hid hsh
  have HA1 := hid hA1
  have HA2 := hid hA2
  have HAR := hid hAr
  have HM1 := hid hM1
  have HM2 := hid hM2
  obtain ⟨hs1, hs2, hs3⟩ := hs
  have HS3 := hid hs3
  obtain ⟨N, hN⟩ : ∃ N, N = max k.dec.length k.enc.length := ⟨_, rfl⟩
  have HN1 : k.dec.length ≤ N := by rw [hN]; exact Nat.le_max_left _ _
  have HN2 : k.enc.length ≤ N := by rw [hN]; exact Nat.le_max_right _ _
  have HN3 : N = k.dec.length ∨ N = k.enc.length := by rw [hN]; rcases Nat.le_total k.dec.length k.enc.length with h | h <;> simp [Nat.max_def] <;> omega
  have HN := hid (And.intro HN1 (And.intro HN2 HN3))
  clear HN1 HN2 HN3
  have hmk1 := fun W => mk_marks W k.dec.length (by omega)
  have hmk2 := fun W => mk_marks W k.enc.length (by omega)
  clear h hsh hA1 hA2 hAr hM1 hM2 hN
  go_enter Try.func22, Try.ntmps22
  go_upto_region 1 with fail
  have C2 : Hid (Blk ((w.alloc (.cells #[.slice da k.dec.length dc, .slice ea k.enc.length ec, .slice ra k.rows.length rc] 25)).alloc (.cells #[.slice none 0 0, .slice none 0 0, .slice none 0 0] 25)) w.heap.size 25 #[.slice da k.dec.length dc, .slice ea k.enc.length ec, .slice ra k.rows.length rc]) := hid ((Blk.new _ _ _).kept (below_alloc _))
  have C4 : Hid (Blk ((w.alloc (.cells #[.slice da k.dec.length dc, .slice ea k.enc.length ec, .slice ra k.rows.length rc] 25)).alloc (.cells #[.slice none 0 0, .slice none 0 0, .slice none 0 0] 25)) (w.heap.size + 1) 25 #[.slice none 0 0, .slice none 0 0, .slice none 0 0]) := hid (Blk.newAt (by simp))
  have HB : Hid (Below w.heap.size w ((w.alloc (.cells #[.slice da k.dec.length dc, .slice ea k.enc.length ec, .slice ra k.rows.length rc] 25)).alloc (.cells #[.slice none 0 0, .slice none 0 0, .slice none 0 0] 25))) := hid (by exact blBy)
  have hsz : w.heap.size + 2 = ((w.alloc (.cells #[.slice da k.dec.length dc, .slice ea k.enc.length ec, .slice ra k.rows.length rc] 25)).alloc (.cells #[.slice none 0 0, .slice none 0 0, .slice none 0 0] 25)).heap.size := by simp
  generalize (w.alloc (.cells #[.slice da k.dec.length dc, .slice ea k.enc.length ec, .slice ra k.rows.length rc] 25)).alloc (.cells #[.slice none 0 0, .slice none 0 0, .slice none 0 0] 25) = w0 at *
  have HSZ := hid hsz
  clear hsz
  go_cut [5] from 11 (fun s5 wc => ∃ g : Nat, s5 = .slice (some ⟨g, 0, none⟩) N N ∧ Hid (MC wc g N) ∧ Hid (w0.heap.size ≤ g) ∧ Hid (Below w0.heap.size w0 wc))
  case first =>
    have x2 := C2.out.cellF
    go_wp2
    all_goals go_meet
    all_goals (first
      | (have e : k.dec.length = N := by have := HN.out; omega
         rw [e]
         exact ⟨w0.heap.size, rfl, hid (MC.new _ _), hid (Nat.le_refl _), hid (below_alloc _)⟩)
      | (have e : k.enc.length = N := by have := HN.out; omega
         rw [e]
         exact ⟨w0.heap.size, rfl, hid (MC.new _ _), hid (Nat.le_refl _), hid (below_alloc _)⟩))
  case rest =>
    obtain ⟨g, rfl, HMC, HG, HBC⟩ := hcut
    rename_i aX
    refine aX _ _ (shRestW w0 wc k da ea ra dc ec rc fn w.heap.size (w.heap.size + 1) g N w.heap.size _ _ hcf (HH.out.kept HB.out) HBC.out C2.out C4.out HMC.out HG.out (by omega) (by have := HSZ.out; omega) (by have := HN.out; omega) (by have := HN.out; omega) (by have := HN.out; omega) HS3.out (fun W' hW hm => HSH.out w0 W' hW k.dec k.rows da ra dc rc g N (HH.out.kept HB.out).hd (HH.out.kept HB.out).hr hm HG.out (by have := HN.out; omega) (by have := HN.out; omega)) (fun W' hW hm => HSH.out w0 W' hW k.enc [] ea none ec 0 g N (HH.out.kept HB.out).he (rows_nil _ _) hm HG.out (by have := HN.out; omega) (by have := HN.out; omega)) HA1.out HA2.out HAR.out HM1.out HM2.out _ ?_ _ _ _ _ _ _ _ _ _ _ _ _ _ _ _ _ _ _ _ _ _ _ _ _ _ _ _ _ _ _ _ _ _ _ _ _ _ _ _ _ _ _ _ _ _ _ _ _ _ _ _ _)
    intro da' dc' ea' ec' ra' rc' w2 hbk hbw
    have e1 : (shB sh k).dec.length = (sh k.dec k.rows).1.length := by simp [shB]
    have e2 : (shB sh k).enc.length = (sh k.enc []).1.length := by simp [shB]
    have e3 : (shB sh k).rows.length = k.rows.length := by simp [shB]
    refine ⟨da', dc', ea', ec', ra', rc', by rw [e1, e2, e3], ?_, ?_⟩
    · rw [e1, e2, e3]
      exact hbk.mono HB.out.size
    · exact HB.out.trans hbw
set_option maxHeartbeats 2000000
/-- A place is opened, if it is one and not marked. -/
def toS (s : List Bool × List Int) (t : Int) : List Bool × List Int := if 0 ≤ t ∧ t < (s.1.length : Int) ∧ s.1[t.toNat]? = some false then (s.1.set t.toNat true, s.2 ++ [t]) else s
theorem toS_len (s : List Bool × List Int) (t : Int) : (toS s t).1.length = s.1.length := by unfold toS; split <;> simp
theorem count_set : ∀ (l : List Bool) (k : Nat), l[k]? = some false → (l.set k true).count false + 1 = l.count false
  | [], k, h => by simp at h
  | b :: l, 0, h => by
    simp at h
    subst h
    simp
  | b :: l, k + 1, h => by
    have := count_set l k (by simpa using h)
    rw [List.set_cons_succ, List.count_cons, List.count_cons]
    omega
theorem toS_cnt (s : List Bool × List Int) (t : Int) : (toS s t).2.length + (toS s t).1.count false = s.2.length + s.1.count false := by
  unfold toS
  split
  · rename_i h
    have := count_set s.1 t.toNat h.2.2
    simp
    omega
  · rfl
structure ReS (W0 w : World) (g N p3 : Nat) (s : List Bool × List Int) : Prop where
  kp : Keep (fun k => k < W0.heap.size ∧ k ≠ g ∧ k ≠ p3) W0 w
  ms : w.ownsRow 0 4 1 (.slice (some ⟨g, 0, none⟩) s.1.length N) s.1.length (s.1.flatMap cB)
  op : ∃ oa oc, Blk w p3 88 #[.slice oa s.2.length oc] ∧ w.ownsRow W0.heap.size 3 1 (.slice oa s.2.length oc) s.2.length (s.2.flatMap cI64)
theorem opApp (s : Nat) (base : Nat) (U : World) (oa : Option Addr) (oc : Nat) (out : List Int) (y : Int) (h : U.ownsRow base 3 1 (.slice oa out.length oc) out.length (out.flatMap cI64)) (hb : base ≤ U.heap.size) (hn : out.length ≤ 4000000) (hs : U.heap.size = s) : ∃ a c w', Hid ((Builtin.append_ #[88, 88] 88 #[.slice oa out.length oc, .slice (some ⟨s, 0, none⟩) 1 1]).run Try.prog (U.alloc (.cells #[.int .i64 y] 3)) = .ok (.slice a (out.length + 1) c) w') ∧ Hid (w'.ownsRow base 3 1 (.slice a (out ++ [y]).length c) (out ++ [y]).length ((out ++ [y]).flatMap cI64)) ∧ Hid (Grow U w' (.slice oa out.length oc) (.slice a (out.length + 1) c)) := by
  subst hs
  obtain ⟨v', w', h1, h2, h3⟩ := append_st 3 88 1 8 (.int .i64 0) Try.underlying88 Try.infoIn rfl (by decide) (by decide) base _ out.length (out.flatMap cI64) U #[.int .i64 y] rfl (fun u hu => by simp at hu; subst hu; rfl) h hb hn
  obtain ⟨a, c, rfl⟩ := own_shape h2
  exact ⟨a, c, w', hid h1, hid (by have q := h2; rw [List.flatMap_append, List.length_append]; exact q), hid h3⟩
theorem toT (W0 w : World) (p1 p2 p3 g N lc n : Nat) (la : Option Addr) (b1 : Blk W0 p1 22 #[.slice la n lc]) (b2 : Blk W0 p2 68 #[.slice (some ⟨g, 0, none⟩) n N]) (h13 : p1 ≠ g ∧ p1 ≠ p3) (h23 : p2 ≠ g ∧ p2 ≠ p3) (h3 : p3 ≠ g ∧ p3 < W0.heap.size ∧ g < W0.heap.size) (s : List Bool × List Int) (hs : ReS W0 w g N p3 s) (hl : s.1.length = n) (hn : n ≤ 1048576) (ho : s.2.length + s.1.count false ≤ n) (t : Int) : Calls Try.prog 57 #[.int .i64 t, .pointer (some ⟨p1, 0, none⟩), .pointer (some ⟨p2, 0, none⟩), .pointer (some ⟨p3, 0, none⟩)] w fun e w' => e = .returned (.tuple #[]) ∧ ReS W0 w' g N p3 (toS s t) ∧ (∀ k cs, Blk w k 42 cs → Blk w' k 42 cs) := by
  have B1 := b1.keep hs.kp ⟨b1.lt, h13.1, h13.2⟩
  have B2 := b2.keep hs.kp ⟨b2.lt, h23.1, h23.2⟩
  obtain ⟨bs, op⟩ := s
  dsimp only at hl ho
  obtain ⟨oa, oc, B3, o3⟩ := hs.op
  dsimp only at B3 o3
  have x1 := B1.cellF
  have x2 := B2.cellF
  have x3 := B3.cellF
  have y3 := B3.frz
  have z1 := B1.lt
  have z2 := B2.lt
  have z3 := B3.lt
  have HS := hid hs
  have H13 := hid h13
  have H23 := hid h23
  have H3 := hid h3
  have HO := hid ho
  by_cases c0 : 0 ≤ t
  · by_cases c1 : t < (n : Int)
    · obtain ⟨k, rfl⟩ : ∃ k : Nat, t = k := ⟨t.toNat, by omega⟩
      have hk : k < bs.length := by omega
      obtain ⟨m1, m2⟩ := own_cell0 hs.ms (cB_at bs k hk)
      have k0 : (0 ≤ (k : Int)) = True := eq_true c0
      have k1 : ((k : Int) < (n : Int)) = True := eq_true c1
      cases q : bs[k] with
      | true =>
        have HE : Hid (toS (bs, op) (k : Int) = (bs, op)) := hid (by unfold toS; rw [if_neg]; rintro ⟨-, -, e⟩; rw [Int.toNat_natCast, List.getElem?_eq_getElem hk, q] at e; cases e)
        rw [q] at m1
        clear q hs h13 h23 h3 b1 b2 B1 B2 B3 o3 ho
        go_enter Try.func57, Try.ntmps57
        go_wp2
        refine bodyPost_end (v := .tuple #[]) (by simp [results, Try.results57, go_sem]) rfl ?_
        exact ⟨rfl, by rw [HE.out]; exact HS.out, fun _ _ h => h⟩
      | false =>
        have HE : Hid (toS (bs, op) (k : Int) = (bs.set k true, op ++ [(k : Int)])) := hid (by unfold toS; rw [if_pos ⟨c0, by show (k : Int) < (bs.length : Int); omega, by rw [Int.toNat_natCast, List.getElem?_eq_getElem hk, q]⟩, Int.toNat_natCast])
        rw [q] at m1
        have hkg : Keep (fun j => j ≠ g) w (w.setCell ⟨g, k, none⟩ (.bool true)) := Keep.setCell _ _ _ (fun h => h rfl)
        have hog : ∀ j, (Value.slice oa op.length oc).ownBlock = some j → W0.heap.size ≤ j := fun j hj => (own_type o3 hj).1
        obtain ⟨a2, c2, W5, R5, O5, G5⟩ := opApp w.heap.size W0.heap.size (w.setCell ⟨g, k, none⟩ (.bool true)) oa oc op (k : Int) (own_keep o3 (fun j hj => by have := hog j hj; show j ≠ g; omega) hkg) (by have := hs.kp.size; simp; omega) (by omega) (by simp)
        have B35 : Hid (Blk W5 p3 88 #[.slice oa op.length oc]) := hid ((G5.out.block p3 (by simp; omega) (fun e => by have := hog _ e; omega)).trans (B3.keep hkg h3.1))
        have x5 := B35.out.cellF
        have y5 := B35.out.frz
        have HKP : Hid (Keep (fun j => j < W0.heap.size ∧ j ≠ g ∧ j ≠ p3) w W5) := hid ((Keep.weak hkg (fun j hj => hj.2.1)).trans ⟨G5.out.os, G5.out.tape, G5.out.output, G5.out.size, fun j hj hf => G5.out.block j hj (fun e => by have := hog _ e; omega)⟩)
        have HMK : Hid (W5.ownsRow 0 4 1 (.slice (some ⟨g, 0, none⟩) bs.length N) bs.length ((bs.set k true).flatMap cB)) := hid (by
          rw [cB_set]
          have q2 := own_put0 hs.ms k (by show k < bs.length * 1; omega) (.bool true)
          refine own_keep (f := fun j => j < W0.heap.size) q2 (fun j hj => by cases hj; exact h3.2.2) ⟨G5.out.os, G5.out.tape, G5.out.output, G5.out.size, fun j hj hf => G5.out.block j hj (fun e => by have := hog _ e; omega)⟩)
        have HPI : Hid (∀ j cs, Blk w j 42 cs → Blk (W5.setCell ⟨p3, 0, none⟩ (.slice a2 (op.length + 1) c2)) j 42 cs) := hid fun j cs hj => by
          have e1 : j ≠ g := fun e => by
            obtain ⟨_, _, cur, e2⟩ := own_type (k := g) hs.ms rfl
            subst e
            rw [show w.heap[j]? = some (.cells cs 42) from hj] at e2
            cases e2
          have e2 : j ≠ p3 := fun e => by
            subst e
            have := hj.symm.trans B3
            cases this
          have e3 : (Value.slice oa op.length oc).ownBlock ≠ some j := fun e => by
            obtain ⟨_, _, cur, e2⟩ := own_type o3 e
            rw [show w.heap[j]? = some (.cells cs 42) from hj] at e2
            cases e2
          have q1 : Blk W5 j 42 cs := (G5.out.block j (by have := hj.lt; simp; omega) e3).trans (hj.keep hkg e1)
          exact q1.keep (f := fun i => i ≠ p3) (Keep.setCell _ _ _ (fun h => h rfl)) e2
        clear q hs h13 h23 h3 b1 b2 B1 B2 B3 o3 ho hkg hog G5
        have hgp : p3 ≠ g := H3.out.1
        have hgp1 : p1 ≠ g := H13.out.1
        have hgp2 : p2 ≠ g := H23.out.1
        go_enter Try.func57, Try.ntmps57
        go_wp2_with (first | (at_builtin; refine wpList_append_ran rfl _ _ 88 88 rfl rfl _ _ (.slice a2 (op.length + 1) c2) W5 rfl rfl R5.out ?_))
        refine bodyPost_end (v := .tuple #[]) (by simp [results, Try.results57, go_sem]) rfl ?_
        refine ⟨rfl, ?_, fun j cs hj => HPI.out j cs hj⟩
        rw [HE.out]
        have hkp3 : Keep (fun j => j ≠ p3) W5 (W5.setCell ⟨p3, 0, none⟩ (.slice a2 (op.length + 1) c2)) := Keep.setCell _ _ _ (fun h => h rfl)
        refine ⟨HS.out.kp.trans (HKP.out.trans (hkp3.weak (fun j hj => hj.2.2))), ?_, a2, c2, ?_, ?_⟩
        · have q3 := own_keep HMK.out (fun j hj => by cases hj; show g ≠ p3; omega) hkp3
          simpa using q3
        · have q4 := B35.out.set 0 (.slice a2 (op.length + 1) c2)
          rw [List.length_append]
          exact q4
        · exact own_keep O5.out (fun j hj => by have := (own_type O5.out hj).1; have := H3.out.2.1; show j ≠ p3; omega) hkp3
    · have HE : Hid (toS (bs, op) t = (bs, op)) := hid (by unfold toS; rw [if_neg]; rintro ⟨-, e, -⟩; dsimp only at e; omega)
      have k0 : (0 ≤ t) = True := eq_true c0
      have k1 : (t < (n : Int)) = False := eq_false c1
      clear hs h13 h23 h3 b1 b2 B1 B2 B3 o3 ho
      go_enter Try.func57, Try.ntmps57
      go_wp2
      refine bodyPost_end (v := .tuple #[]) (by simp [results, Try.results57, go_sem]) rfl ?_
      exact ⟨rfl, by rw [HE.out]; exact HS.out, fun _ _ h => h⟩
  · have HE : Hid (toS (bs, op) t = (bs, op)) := hid (by unfold toS; rw [if_neg]; rintro ⟨e, -⟩; omega)
    have k0 : (0 ≤ t) = False := eq_false c0
    clear hs h13 h23 h3 b1 b2 B1 B2 B3 o3 ho
    go_enter Try.func57, Try.ntmps57
    go_wp2
    refine bodyPost_end (v := .tuple #[]) (by simp [results, Try.results57, go_sem]) rfl ?_
    exact ⟨rfl, by rw [HE.out]; exact HS.out, fun _ _ h => h⟩
set_option maxHeartbeats 3000000
def tsI (rows : List LN) (t : Int) (x : IN) : List Int := if x.op = 4 then [x.a] else if x.op = 3 then x.a :: rows.map (fun r => r.pl) else if x.op = 2 ∨ x.op = 16 then [t + 1, x.b] else if x.op = 24 then [] else [t + 1]
def rwI (rows : List LN) (x : IN) : List LN := if x.op = 3 then [] else rows
/-- What is reached: marks and what is open, so many places yet. -/
def reN (l : List IN) : Nat → List LN → List Bool × List Int → List Bool
  | 0, _, s => s.1
  | n + 1, rows, s => match s.2.getLast? with
    | none => s.1
    | some t => match l[t.toNat]? with
      | none => s.1
      | some x => reN l n (rwI rows x) ((tsI rows t x).foldl toS (s.1, s.2.dropLast))
def reA (l : List IN) (rows : List LN) : List Bool := reN l (l.length + 1) rows (toS (List.replicate l.length false, []) 0)
theorem reN_end (l : List IN) (n : Nat) (rows : List LN) (bs : List Bool) : reN l n rows (bs, []) = bs := by cases n <;> rfl
theorem reN_step (l : List IN) (n : Nat) (rows : List LN) (bs : List Bool) (op : List Int) (k : Nat) (hk : k < l.length) : reN l (n + 1) rows (bs, op ++ [(k : Int)]) = reN l n (rwI rows l[k]) ((tsI rows (k : Int) l[k]).foldl toS (bs, op)) := by
  conv => lhs; unfold reN
  simp [List.getElem?_eq_getElem hk]
theorem fold_len (ts : List Int) : ∀ s : List Bool × List Int, (ts.foldl toS s).1.length = s.1.length := by
  induction ts with
  | nil => intro s; rfl
  | cons t ts ih => intro s; exact (ih _).trans (toS_len s t)
theorem fold_cnt (ts : List Int) : ∀ s : List Bool × List Int, (ts.foldl toS s).2.length + (ts.foldl toS s).1.count false = s.2.length + s.1.count false := by
  induction ts with
  | nil => intro s; rfl
  | cons t ts ih => intro s; exact (ih _).trans (toS_cnt s t)
def InO (n : Nat) (s : List Bool × List Int) : Prop := ∀ t ∈ s.2, 0 ≤ t ∧ t < (n : Int)
theorem InO.to {n : Nat} {s : List Bool × List Int} (h : InO n s) (hl : s.1.length = n) (t : Int) : InO n (toS s t) := by
  unfold toS
  split
  · rename_i hc
    intro u hu
    rcases List.mem_append.1 hu with h1 | h1
    · exact h u h1
    · simp at h1; subst h1; rw [← hl]; exact ⟨hc.1, hc.2.1⟩
  · exact h
theorem InO.fold {n : Nat} (ts : List Int) : ∀ {s : List Bool × List Int}, InO n s → s.1.length = n → InO n (ts.foldl toS s) := by
  induction ts with
  | nil => intro s h _; exact h
  | cons t ts ih => intro s h hl; exact ih (h.to hl t) (by rw [toS_len]; exact hl)
theorem ReS.kept {W0 w w' : World} {g N p3 : Nat} {s : List Bool × List Int} (h : ReS W0 w g N p3 s) (hb : Below w.heap.size w w') : ReS W0 w' g N p3 s := ⟨h.kp.trans (Keep.ofBelow hb), own_kept h.ms hb, by obtain ⟨oa, oc, b, o⟩ := h.op; exact ⟨oa, oc, b.kept hb, own_kept o hb⟩⟩
theorem ReS.pop {W0 w : World} {g N p3 : Nat} {bs : List Bool} {op : List Int} {t : Int} (h : ReS W0 w g N p3 (bs, op ++ [t])) (h3 : p3 ≠ g ∧ p3 < W0.heap.size ∧ g < W0.heap.size) : ∃ q oc, Blk w p3 88 #[.slice (some ⟨q, 0, none⟩) (op.length + 1) oc] ∧ w.cell? ⟨q, op.length, none⟩ = some (.int .i64 t) ∧ op.length + 1 ≤ oc ∧ oc ≤ 9223372036854775807 ∧ ReS W0 (w.setCell ⟨p3, 0, none⟩ (.slice (some ⟨q, 0, none⟩) op.length oc)) g N p3 (bs, op) := by
  obtain ⟨oa, oc, b, o⟩ := h.op
  dsimp only at b o
  obtain ⟨q, rfl⟩ := (own_at0 o).1 (by simp)
  obtain ⟨c1, -⟩ := own_cell0 (k := op.length) (u := .int .i64 t) o (by
    rw [List.flatMap_append, List.getElem?_append_right (by rw [flatN (g := cI64) (K := 1) (fun _ => rfl)]; omega), flatN (g := cI64) (K := 1) (fun _ => rfl)]
    simp [cI64])
  have hq : W0.heap.size ≤ q := (own_type (k := q) o rfl).1
  have hk : Keep (fun j => j ≠ p3) w (w.setCell ⟨p3, 0, none⟩ (.slice (some ⟨q, 0, none⟩) op.length oc)) := Keep.setCell _ _ _ (fun h => h rfl)
  rw [List.length_append] at b o
  rcases o.2 with ⟨e, _⟩ | ⟨g', cap', cur, e, hbg, hgg, hnc, hcm, hcs, htk⟩
  · cases e
  cases e
  refine ⟨q, oc, b, c1, hnc, by unfold maxLen at hcm; omega, h.kp.trans (hk.weak (fun j hj => hj.2.2)), own_keep h.ms (fun j hj => by cases hj; show g ≠ p3; exact fun e => h3.1 e.symm) hk, some ⟨q, 0, none⟩, oc, b.set 0 _, ?_⟩
  refine own_keep (f := fun j => j ≠ p3) ?_ (fun j hj => by cases hj; show q ≠ p3; omega) hk
  refine ⟨by rw [flatN (g := cI64) (K := 1) (fun _ => rfl)], .inr ⟨q, oc, cur, rfl, hbg, hgg, by simp at hnc; show op.length ≤ oc; omega, hcm, hcs, ?_⟩⟩
  have e2 := congrArg (List.take op.length) htk
  rw [List.take_take, List.flatMap_append] at e2
  show List.take (op.length * 1) cur.toList = _
  rw [Nat.mul_one]
  rw [show min op.length ((op.length + [t].length) * 1) = op.length by simp] at e2
  rw [e2]
  exact List.take_left' (by rw [flatN (g := cI64) (K := 1) (fun _ => rfl)]; simp)
theorem reachT (w0 w : World) (h0 : Below w0.heap.size w0 w) (l : List IN) (rows : List LN) (la ra : Option Addr) (lc rc g N : Nat) (hl : RowS w0 AnyZ 5 (.slice la l.length lc) l.length (l.flatMap cIN)) (hr : RowS w0 AnyZ 2 (.slice ra rows.length rc) rows.length (rows.flatMap cLN)) (hm : MC w g N) (hg : w0.heap.size ≤ g) (hn : l.length ≤ N) (hN : N ≤ 1048576) : Calls Try.prog 40 #[.slice la l.length lc, .slice ra rows.length rc, .slice (some ⟨g, 0, none⟩) l.length N] w fun e w' => e = .returned (.tuple #[]) ∧ Keep (· ≠ g) w w' ∧ w'.ownsRow 0 4 1 (.slice (some ⟨g, 0, none⟩) l.length N) l.length ((reA l rows).flatMap cB) := by
  have HL := hid hl
  have HR := hid hr
  have hgw : g < w.heap.size := by obtain ⟨cs, q, -⟩ := hm; exact q.lt
  have HMO := hid (hm.own (base := 0) hn hN (Nat.zero_le _))
  have H0 := hid h0
  have HG := hid hg
  have HNN := hid (And.intro hn hN)
  clear hl hr hm h0 hg hn hN
  go_enter Try.func40, Try.ntmps40
  go_wp2_with fail
  have C1 : Hid (Blk (((w.alloc (.cells #[.slice la l.length lc] 22)).alloc (.cells #[.slice (some ⟨g, 0, none⟩) l.length N] 68)).alloc (.cells #[.slice none 0 0] 88)) w.heap.size 22 #[.slice la l.length lc]) := hid (((Blk.new _ _ _).kept (below_alloc _)).kept (below_alloc _))
  have C2 : Hid (Blk (((w.alloc (.cells #[.slice la l.length lc] 22)).alloc (.cells #[.slice (some ⟨g, 0, none⟩) l.length N] 68)).alloc (.cells #[.slice none 0 0] 88)) (w.heap.size + 1) 68 #[.slice (some ⟨g, 0, none⟩) l.length N]) := hid ((Blk.newAt (by simp)).kept (below_alloc _))
  have C3 : Hid (Blk (((w.alloc (.cells #[.slice la l.length lc] 22)).alloc (.cells #[.slice (some ⟨g, 0, none⟩) l.length N] 68)).alloc (.cells #[.slice none 0 0] 88)) (w.heap.size + 1 + 1) 88 #[.slice none 0 0]) := hid (Blk.newAt (by simp))
  have HB : Hid (Below w.heap.size w (((w.alloc (.cells #[.slice la l.length lc] 22)).alloc (.cells #[.slice (some ⟨g, 0, none⟩) l.length N] 68)).alloc (.cells #[.slice none 0 0] 88))) := hid (by exact blBy)
  have HSZ : (((w.alloc (.cells #[.slice la l.length lc] 22)).alloc (.cells #[.slice (some ⟨g, 0, none⟩) l.length N] 68)).alloc (.cells #[.slice none 0 0] 88)).heap.size = w.heap.size + 3 := by simp
  replace HMO := hid (own_kept HMO.out HB.out)
  generalize (((w.alloc (.cells #[.slice la l.length lc] 22)).alloc (.cells #[.slice (some ⟨g, 0, none⟩) l.length N] 68)).alloc (.cells #[.slice none 0 0] 88)) = W0 at *
  have hgp3 : w.heap.size + 1 + 1 ≠ g := by omega
  have HT : Hid (∀ (W : World) (s : List Bool × List Int) (t : Int), ReS W0 W g N (w.heap.size + 1 + 1) s → s.1.length = l.length → s.2.length + s.1.count false ≤ l.length → Calls Try.prog 57 #[.int .i64 t, .pointer (some ⟨w.heap.size, 0, none⟩), .pointer (some ⟨w.heap.size + 1, 0, none⟩), .pointer (some ⟨w.heap.size + 1 + 1, 0, none⟩)] W fun e w' => e = .returned (.tuple #[]) ∧ ReS W0 w' g N (w.heap.size + 1 + 1) (toS s t) ∧ (∀ k cs, Blk W k 42 cs → Blk w' k 42 cs)) := hid fun W s t hs h1 h2 => toT W0 W w.heap.size (w.heap.size + 1) (w.heap.size + 1 + 1) g N lc l.length la C1.out C2.out ⟨by omega, by omega⟩ ⟨by omega, by omega⟩ ⟨by omega, by omega, by omega⟩ s hs h1 (by have := HNN.out; omega) h2 t
  have HS0 : Hid (ReS W0 W0 g N (w.heap.size + 1 + 1) (List.replicate l.length false, [])) := hid ⟨Keep.refl _ _, by have q := HMO.out; simpa using q, none, 0, C3.out, World.ownsRow_nil _ _ _ _⟩
  refine (HT.out W0 (List.replicate l.length false, []) 0 HS0.out (by simp) (by simp)).mono ?_
  rintro e u ⟨rfl, hs1, -⟩
  have HS1 := hid hs1
  have HB0 : Hid (∀ W s, ReS W0 W g N (w.heap.size + 1 + 1) s → Below w0.heap.size w0 W) := hid fun W s h => by
    have e1 := H0.out.trans (HB.out.mono H0.out.size)
    have := H0.out.size
    have := HG.out
    exact ⟨h.kp.os.trans e1.os, h.kp.tape.trans e1.tape, h.kp.output.trans e1.output, Nat.le_trans e1.size h.kp.size, fun j hj => (h.kp.block j (by omega) ⟨by omega, by omega, by omega⟩).trans (e1.block j hj)⟩
  clear HS0 hs1 HMO
  go_wp2_with fail
  go_loopg [1] (l.length + 1) (fun gk s1 wr => ∃ (rs : List LN) (a : Option Addr) (c : Nat) (s : List Bool × List Int), s1 = .slice a rs.length c ∧ Hid (RowS w0 AnyZ 2 (.slice a rs.length c) rs.length (rs.flatMap cLN)) ∧ Hid (ReS W0 wr g N (w.heap.size + 1 + 1) s) ∧ Hid (s.1.length = l.length) ∧ Hid (s.2.length + s.1.count false ≤ l.length ∧ s.2.length + s.1.count false ≤ gk) ∧ Hid (InO l.length s) ∧ Hid (reN l gk rs s = reA l rows))
  case atStart =>
    have hc := toS_cnt (List.replicate l.length false, []) 0
    have hl1 := toS_len (List.replicate l.length false, []) 0
    simp at hc hl1
    exact ⟨rows, ra, rc, _, rfl, HR, HS1, hid hl1, hid ⟨by omega, by omega⟩, hid (InO.to (fun t ht => by simp at ht) (by simp) 0), hid rfl⟩
  case round =>
    obtain ⟨rs, a, c, ⟨bs, ops⟩, rfl, HRS, HS, HSL, HSC, HIO, HE⟩ := hrel
    dsimp only at HSL HSC
    rcases List.eq_nil_or_concat ops with rfl | ⟨op, t, rfl⟩
    · obtain ⟨oa, oc, b3, -⟩ := HS.out.op
      have x3 := b3.cellF
      have z3 := b3.lt
      dsimp only [List.length_nil] at x3
      go_wp2
      refine bodyPost_end (v := .tuple #[]) (by simp [results, Try.results40, go_sem]) rfl ?_
      refine ⟨rfl, ?_, ?_⟩
      · have e1 := HB.out
        have e2 := HS.out.kp
        exact ⟨e2.os.trans e1.os, e2.tape.trans e1.tape, e2.output.trans e1.output, Nat.le_trans e1.size e2.size, fun j hj hjg => (e2.block j (by omega) ⟨by omega, hjg, by omega⟩).trans (e1.block j hj)⟩
      · have q := HS.out.ms
        have e := HE.out
        rw [reN_end] at e
        have hl2 := HSL.out
        dsimp only at q
        rw [e] at q hl2
        rw [hl2] at q
        exact q
    · rw [List.concat_eq_append] at HS HSC HIO HE
      obtain ⟨k, rfl⟩ : ∃ k : Nat, t = k := ⟨t.toNat, by have := (HIO.out t (by simp)).1; omega⟩
      have hk : k < l.length := by have := (HIO.out k (by simp)).2; omega
      obtain ⟨m, rfl⟩ : ∃ m, gk = m + 1 := ⟨gk - 1, by have := HSC.out.2; simp at this; omega⟩
      obtain ⟨q, oc, b3, cq, hoc, hoc2, hpop⟩ := HS.out.pop ⟨hgp3, by omega, by omega⟩
      have HE2 : Hid (reN l m (rwI rs l[k]) ((tsI rs (k : Int) l[k]).foldl toS (bs, op)) = reA l rows) := hid (by rw [← reN_step l m rs bs op k hk]; exact HE.out)
      have HC2 : Hid (op.length + bs.count false ≤ l.length ∧ op.length + bs.count false ≤ m) := hid (by have := HSC.out; simp at this; omega)
      have HIO2 : Hid (InO l.length (bs, op)) := hid (fun t ht => HIO.out t (by show t ∈ op ++ [(k : Int)]; exact List.mem_append_left _ ht))
      have hop : op.length ≤ l.length := by have := HC2.out.1; omega
      have hln : l.length ≤ 1048576 := by have := HNN.out; omega
      have x3 := b3.cellF
      have y3 := b3.frz
      have z3 := b3.lt
      have zq := World.block_lt_of_cell? _ _ cq
      have i0 : (0 : Int) ≤ (op.length : Int) := by omega
      have i1 : (op.length : Int) ≤ (oc : Int) := by omega
      have i2 : (op.length : Int) < (op.length : Int) + 1 := by omega
      have hw1 : IntKind.i64.wrap ((op.length : Int) + 1 - 1) = (op.length : Int) := by rw [IntKind.wrap_i64]; omega
      have HPOP := hid hpop
      clear hpop HE HSC HIO HS b3
      go_upto_region 7 with fail
      generalize wr.setCell ⟨w.heap.size + 1 + 1, 0, none⟩ (.slice (some ⟨q, 0, none⟩) op.length oc) = W1 at *
      clear x3 y3 z3 cq zq i0 i1 i2 hw1 hoc hoc2
      have D1 := C1.out.keep HPOP.out.kp ⟨by omega, by omega, by omega⟩
      have x1 := D1.cellF
      have z1 := D1.lt
      obtain ⟨lb, lo, rfl, hcc⟩ := row_of (HL.out.kept (HB0.out W1 _ HPOP.out)) (by omega) (by omega)
      have c0 := hcc (k * 5 + 0) _ (flat_at (g := cIN) (K := 5) (fun _ => rfl) hk (u := .int .i64 l[k].op) rfl)
      have c1 := hcc (k * 5 + 1) _ (flat_at (g := cIN) (K := 5) (fun _ => rfl) hk (u := .int .i64 l[k].a) rfl)
      have c2 := hcc (k * 5 + 2) _ (flat_at (g := cIN) (K := 5) (fun _ => rfl) hk (u := .int .i64 l[k].b) rfl)
      have c3 := hcc (k * 5 + 3) _ (flat_at (g := cIN) (K := 5) (fun _ => rfl) hk (u := .int .i64 l[k].c) rfl)
      have c4 := hcc (k * 5 + 4) _ (flat_at (g := cIN) (K := 5) (fun _ => rfl) hk (u := .int .i64 l[k].d) rfl)
      simp only [Nat.add_zero, ← Nat.add_assoc] at c0 c1 c2 c3 c4
      have zb := World.block_lt_of_cell? _ _ c0
      have j0 : (0 : Int) ≤ (k : Int) := by omega
      have j1 : (k : Int) < (l.length : Int) := by omega
      have hw2 : IntKind.i64.wrap ((k : Int) + 1) = (k : Int) + 1 := by rw [IntKind.wrap_i64]; omega
      clear hcc D1
      generalize l[k] = x at *
      obtain ⟨xo, xa, xb, xc, xd⟩ := x
      dsimp only at c0 c1 c2 c3 c4
      have HS2 : Hid (ReS W0 (W1.alloc (.cells #[.int .i64 xo, .int .i64 xa, .int .i64 xb, .int .i64 xc, .int .i64 xd] 42)) g N (w.heap.size + 1 + 1) (bs, op)) := hid (HPOP.out.kept (below_alloc _))
      have HP9 : Hid (Blk (W1.alloc (.cells #[.int .i64 xo, .int .i64 xa, .int .i64 xb, .int .i64 xc, .int .i64 xd] 42)) W1.heap.size 42 #[.int .i64 xo, .int .i64 xa, .int .i64 xb, .int .i64 xc, .int .i64 xd]) := hid (Blk.new _ _ _)
      have HFIN : Hid (∀ ts, tsI rs (k : Int) ⟨xo, xa, xb, xc, xd⟩ = ts → (ts.foldl toS (bs, op)).1.length = l.length ∧ ((ts.foldl toS (bs, op)).2.length + (ts.foldl toS (bs, op)).1.count false ≤ l.length ∧ (ts.foldl toS (bs, op)).2.length + (ts.foldl toS (bs, op)).1.count false ≤ m) ∧ InO l.length (ts.foldl toS (bs, op)) ∧ reN l m (rwI rs ⟨xo, xa, xb, xc, xd⟩) (ts.foldl toS (bs, op)) = reA l rows) := hid fun ts hts => by
        have e1 := fold_len ts (bs, op)
        have e2 := fold_cnt ts (bs, op)
        have e3 := HC2.out
        dsimp only at e1 e2
        rw [e2]
        refine ⟨e1.trans HSL.out, e3, HIO2.out.fold ts HSL.out, ?_⟩
        rw [← hts]
        exact HE2.out
      have HQ : Hid (∀ ts : List Int, (ts.foldl toS (bs, op)).1.length = l.length ∧ (ts.foldl toS (bs, op)).2.length + (ts.foldl toS (bs, op)).1.count false ≤ l.length) := hid fun ts => ⟨(fold_len ts (bs, op)).trans HSL.out, by rw [fold_cnt]; exact HC2.out.1⟩
      have HT2 : Hid (∀ (W : World) (ts : List Int) (t : Int), ReS W0 W g N (w.heap.size + 1 + 1) (ts.foldl toS (bs, op)) → Calls Try.prog 57 #[.int .i64 t, .pointer (some ⟨w.heap.size, 0, none⟩), .pointer (some ⟨w.heap.size + 1, 0, none⟩), .pointer (some ⟨w.heap.size + 1 + 1, 0, none⟩)] W fun e w' => e = .returned (.tuple #[]) ∧ ReS W0 w' g N (w.heap.size + 1 + 1) ((ts ++ [t]).foldl toS (bs, op)) ∧ (∀ k cs, Blk W k 42 cs → Blk w' k 42 cs)) := hid fun W ts t hs => by
        rw [List.foldl_append]
        exact HT.out W _ t hs (HQ.out ts).1 (HQ.out ts).2
      clear HPOP HE2 HC2 HIO2 HT HSL HQ hop hln hgp3
      by_cases h4 : xo = 4
      · subst h4
        have HF := hid (HFIN.out [xa] (by unfold tsI; rw [if_pos rfl]))
        clear HFIN
        go_wp2_with fail
        refine (HT2.out _ [] xa HS2.out).mono ?_
        rintro e u1 ⟨rfl, hs1, -⟩
        have HS3 := hid hs1
        clear hs1 HS2 HP9
        go_wp2
        go_roundg m
        case measure => omega
        case rel => exact ⟨rs, a, c, _, rfl, HRS, HS3, hid HF.out.1, hid HF.out.2.1, hid HF.out.2.2.1, hid HF.out.2.2.2⟩
      · have k4 : (xo == 4) = false := by simpa using h4
        by_cases h3 : xo = 3
        · subst h3
          have HF := hid (HFIN.out (xa :: rs.map (fun r => r.pl)) (by unfold tsI; rw [if_neg h4, if_pos rfl]))
          clear HFIN h4
          obtain ⟨_, _, e, hrl⟩ := rowS_sl HRS.out
          clear e
          have hrl2 : (rs.length : Int) ≤ 9223372036854775807 := by omega
          go_wp2_with fail
          refine (HT2.out _ [] xa HS2.out).mono ?_
          rintro e u1 ⟨rfl, hs1, -⟩
          have HS3 := hid hs1
          clear hs1 HS2 HP9
          go_wp2_with fail
          generalize wr = W9 at *
          go_loopw [53] (fun r wr => ∃ j : Nat, r = .int .i64 j ∧ j ≤ rs.length ∧ Hid (ReS W0 wr g N (w.heap.size + 1 + 1) ((xa :: (rs.take j).map (fun r => r.pl)).foldl toS (bs, op)))) (fun r _ => rs.length - (intOf r).toNat)
          case atStart => exact ⟨0, rfl, by omega, by simpa using HS3⟩
          case round =>
            obtain ⟨j, rfl, hj, HSJ⟩ := hrel
            by_cases hlt : j < rs.length
            · have g1 : (j : Int) < (rs.length : Int) := by omega
              obtain ⟨rb, ro, rfl, hrc⟩ := row_of (HRS.out.kept (HB0.out wr _ HSJ.out)) (by omega) (by omega)
              have d0 := hrc (j * 2 + 0) _ (flat_at (g := cLN) (K := 2) (fun _ => rfl) hlt (u := .int .i64 rs[j].tag) rfl)
              have d1 := hrc (j * 2 + 1) _ (flat_at (g := cLN) (K := 2) (fun _ => rfl) hlt (u := .int .i64 rs[j].pl) rfl)
              simp only [Nat.add_zero, ← Nat.add_assoc] at d0 d1
              have zr := World.block_lt_of_cell? _ _ d0
              have HNX : Hid ((xa :: (rs.take j).map (fun r => r.pl)) ++ [rs[j].pl] = xa :: (rs.take (j + 1)).map (fun r => r.pl)) := hid (by rw [List.take_succ_eq_append_getElem hlt, List.map_append]; rfl)
              have HSJ2 : Hid (ReS W0 (wr.alloc (.cells #[.int .i64 rs[j].tag, .int .i64 rs[j].pl] 28)) g N (w.heap.size + 1 + 1) ((xa :: (rs.take j).map (fun r => r.pl)).foldl toS (bs, op))) := hid (HSJ.out.kept (below_alloc _))
              clear hrc HSJ
              generalize rs[j] = y at *
              obtain ⟨yt, yp⟩ := y
              dsimp only at d0 d1
              go_wp2_with fail
              refine (HT2.out _ (xa :: (rs.take j).map (fun r => r.pl)) yp HSJ2.out).mono ?_
              rintro e u2 ⟨rfl, hs2, -⟩
              rw [HNX.out] at hs2
              have HS4 := hid hs2
              clear hs2 HSJ2 HNX
              go_wp2
              exact ⟨⟨j + 1, by simp, by omega, HS4⟩, by simp [intOf]; omega⟩
            · have g1 : ¬ (j : Int) < (rs.length : Int) := by omega
              obtain rfl : j = rs.length := by omega
              have HS5 : Hid (ReS W0 wr g N (w.heap.size + 1 + 1) ((xa :: rs.map (fun r => r.pl)).foldl toS (bs, op))) := hid (by have q := HSJ.out; rw [List.take_length] at q; exact q)
              clear HSJ
              go_wp2
              go_roundg m
              case measure => omega
              case rel => exact ⟨[], none, 0, _, rfl, hid (rows_nil _ _), HS5, hid HF.out.1, hid HF.out.2.1, hid HF.out.2.2.1, hid HF.out.2.2.2⟩
        · have k3 : (xo == 3) = false := by simpa using h3
          have hrw : rwI rs ⟨xo, xa, xb, xc, xd⟩ = rs := by unfold rwI; rw [if_neg h3]
          rw [hrw] at HFIN
          by_cases h2 : xo = 2 ∨ xo = 16
          · have HF := hid (HFIN.out [(k : Int) + 1, xb] (by unfold tsI; rw [if_neg h4, if_neg h3, if_pos h2]))
            have H34 := hid (And.intro h3 h4)
            clear HFIN hrw h3 h4
            rcases h2 with rfl | rfl
            · clear k3 k4
              go_wp2_with fail
              refine (HT2.out _ [] ((k : Int) + 1) HS2.out).mono ?_
              rintro e u1 ⟨rfl, hs1, hp1⟩
              have HS3 := hid hs1
              have P9 := hp1 _ _ HP9.out
              have x9 := P9.cellF
              have z9 := P9.lt
              clear hs1 HS2 HP9 hp1 P9
              go_wp2_with fail
              refine (HT2.out _ [(k : Int) + 1] xb HS3.out).mono ?_
              rintro e u2 ⟨rfl, hs2, -⟩
              have HS4 := hid hs2
              clear hs2 HS3 x9 z9
              go_wp2
              go_roundg m
              case measure => omega
              case rel => exact ⟨rs, a, c, _, rfl, HRS, HS4, hid HF.out.1, hid HF.out.2.1, hid HF.out.2.2.1, hid HF.out.2.2.2⟩
            · clear k3 k4
              go_wp2_with fail
              refine (HT2.out _ [] ((k : Int) + 1) HS2.out).mono ?_
              rintro e u1 ⟨rfl, hs1, hp1⟩
              have HS3 := hid hs1
              have P9 := hp1 _ _ HP9.out
              have x9 := P9.cellF
              have z9 := P9.lt
              clear hs1 HS2 HP9 hp1 P9
              go_wp2_with fail
              refine (HT2.out _ [(k : Int) + 1] xb HS3.out).mono ?_
              rintro e u2 ⟨rfl, hs2, -⟩
              have HS4 := hid hs2
              clear hs2 HS3 x9 z9
              go_wp2
              go_roundg m
              case measure => omega
              case rel => exact ⟨rs, a, c, _, rfl, HRS, HS4, hid HF.out.1, hid HF.out.2.1, hid HF.out.2.2.1, hid HF.out.2.2.2⟩
          · have k2 : (xo == 2) = false := by simp; intro e; exact h2 (.inl e)
            have k16 : (xo == 16) = false := by simp; intro e; exact h2 (.inr e)
            by_cases h24 : xo = 24
            · have HF := hid (HFIN.out [] (by unfold tsI; rw [if_neg h4, if_neg h3, if_neg h2, if_pos h24]))
              subst h24
              clear HFIN hrw h3 h4 h2 k2 k16 k3 k4
              go_wp2
              go_roundg m
              case measure => omega
              case rel => exact ⟨rs, a, c, _, rfl, HRS, HS2, hid HF.out.1, hid HF.out.2.1, hid HF.out.2.2.1, hid HF.out.2.2.2⟩
            · have k24 : (xo == 24) = false := by simpa using h24
              have HF := hid (HFIN.out [(k : Int) + 1] (by unfold tsI; rw [if_neg h4, if_neg h3, if_neg h2, if_neg h24]))
              clear HFIN hrw h3 h4 h2 h24
              go_wp2_with fail
              refine (HT2.out _ [] ((k : Int) + 1) HS2.out).mono ?_
              rintro e u1 ⟨rfl, hs1, -⟩
              have HS3 := hid hs1
              clear hs1 HS2 HP9
              go_wp2
              go_roundg m
              case measure => omega
              case rel => exact ⟨rs, a, c, _, rfl, HRS, HS3, hid HF.out.1, hid HF.out.2.1, hid HF.out.2.2.1, hid HF.out.2.2.2⟩
end Go.Proofs.Ytliohglpbmpbhaa
