/-
  opt: Tables.
  opt: a map of ways.
  opt: a list from right to left.
  opt: ways.
  opt: places threaded, as lists of cells (the kin of OPf, OPg, OPh: what a place becomes hangs on its operation too).
  opt: places threaded, step by step.
-/
import Derived.Test.YtliohglpbmpbhaaCOPo
namespace Go.Proofs.Ytliohglpbmpbhaa
open Go.RowKit Go.Shelf
set_option maxRecDepth 1000000
set_option linter.unusedVariables false
set_option linter.unusedSimpArgs false
set_option maxHeartbeats 3000000
def tbC (k : BK) : Prop := k.rows.length = 0 ∧ 1 < k.dec.length ∧ ∃ x, k.dec[1]? = some x ∧ x.op = 2
instance (k : BK) : Decidable (tbC k) := by
  unfold tbC
  cases h : k.dec[1]? with
  | none => exact isFalse (by rintro ⟨-, -, x, e, -⟩; cases e)
  | some y =>
    by_cases h1 : k.rows.length = 0 ∧ 1 < k.dec.length ∧ y.op = 2
    · exact isTrue ⟨h1.1, h1.2.1, y, rfl, h1.2.2⟩
    · exact isFalse (by rintro ⟨a, b, x, e, c⟩; cases e; exact h1 ⟨a, b, c⟩)
def tbB (k : BK) : BK := if tbC k then ⟨k.dec.set 1 ⟨3, ((chA k.dec).2 : Int), 0, 0, 0⟩, k.enc, (chA k.dec).1⟩ else k
theorem own_one5 {w : World} {base g c n : Nat} {l : List IN} {y : IN} (h : w.ownsRow base 42 5 (.slice (some ⟨g, 0, none⟩) n c) n (l.flatMap cIN)) (hn : n = l.length) (h1 : 1 < l.length) : (((((w.setCell ⟨g, 5, none⟩ (.int .i64 y.op)).setCell ⟨g, 6, none⟩ (.int .i64 y.a)).setCell ⟨g, 7, none⟩ (.int .i64 y.b)).setCell ⟨g, 8, none⟩ (.int .i64 y.c)).setCell ⟨g, 9, none⟩ (.int .i64 y.d)).ownsRow base 42 5 (.slice (some ⟨g, 0, none⟩) n c) n ((l.set 1 y).flatMap cIN) := by
  obtain ⟨x0, x1, r, rfl⟩ : ∃ x0 x1 r, l = x0 :: x1 :: r := by
    rcases l with _ | ⟨x0, _ | ⟨x1, r⟩⟩
    · simp at h1
    · simp at h1
    · exact ⟨_, _, _, rfl⟩
  have hn2 : 9 < n * 5 := by rw [hn]; simp; omega
  have q := own_put0 (own_put0 (own_put0 (own_put0 (own_put0 h 5 (by omega) (.int .i64 y.op)) 6 (by omega) (.int .i64 y.a)) 7 (by omega) (.int .i64 y.b)) 8 (by omega) (.int .i64 y.c)) 9 (by omega) (.int .i64 y.d)
  exact q
theorem tablesT (w : World) (k : BK) (da ea ra : Option Addr) (dc ec rc : Nat) (h : BkR w k (.slice da k.dec.length dc) (.slice ea k.enc.length ec) (.slice ra k.rows.length rc)) (hs : bkSm k) (hok : tbC k → RiseT (chA k.dec).1 ∧ (chA k.dec).1.length < 20) : Calls Try.prog 13 #[.agg #[.slice da k.dec.length dc, .slice ea k.enc.length ec, .slice ra k.rows.length rc]] w (BlkA w (tbB k)) := by
  have HD := hid fun W (hW : Below w.heap.size w W) => copiedT W k da ea ra dc ec rc (h.kept hW) hs
  have HH := hid h
  have HS := hid hs
  have HOK := hid hok
  clear h hs hok
  obtain ⟨T, hT⟩ : ∃ T, T = tbB k := ⟨_, rfl⟩
  rw [← hT]
  have HT := hid hT
  clear hT
  go_enter Try.func13, Try.ntmps13
  go_wp2_with fail
  have HBB : Hid (Below w.heap.size w ((w.alloc (.cells #[.slice da k.dec.length dc, .slice ea k.enc.length ec, .slice ra k.rows.length rc] 25)).alloc (.cells #[.slice none 0 0, .slice none 0 0, .slice none 0 0] 25))) := hid (by exact blBy)
  have hsz : ((w.alloc (.cells #[.slice da k.dec.length dc, .slice ea k.enc.length ec, .slice ra k.rows.length rc] 25)).alloc (.cells #[.slice none 0 0, .slice none 0 0, .slice none 0 0] 25)).heap.size = w.heap.size + 2 := by simp
  have BB : Hid (Blk ((w.alloc (.cells #[.slice da k.dec.length dc, .slice ea k.enc.length ec, .slice ra k.rows.length rc] 25)).alloc (.cells #[.slice none 0 0, .slice none 0 0, .slice none 0 0] 25)) (w.heap.size + 1) 25 #[.slice none 0 0, .slice none 0 0, .slice none 0 0]) := hid (Blk.newAt (by simp))
  have BA : Hid (Blk ((w.alloc (.cells #[.slice da k.dec.length dc, .slice ea k.enc.length ec, .slice ra k.rows.length rc] 25)).alloc (.cells #[.slice none 0 0, .slice none 0 0, .slice none 0 0] 25)) w.heap.size 25 #[.slice da k.dec.length dc, .slice ea k.enc.length ec, .slice ra k.rows.length rc]) := hid ((Blk.new _ _ _).kept (below_alloc _))
  generalize ((w.alloc (.cells #[.slice da k.dec.length dc, .slice ea k.enc.length ec, .slice ra k.rows.length rc] 25)).alloc (.cells #[.slice none 0 0, .slice none 0 0, .slice none 0 0] 25)) = w0 at *
  refine (HD.out _ HBB.out).mono ?_
  rintro e u ⟨da', dc', ea', ec', ra', rc', rfl, hbk, hb1⟩
  have HXD : Hid (∀ j, (Value.slice da' k.dec.length dc').ownBlock = some j → j < u.heap.size ∧ w0.heap.size ≤ j) := hid fun j hj => ⟨(own_type hbk.hd hj).2.1, (own_type hbk.hd hj).1⟩
  have HXE : Hid (∀ j, (Value.slice ea' k.enc.length ec').ownBlock = some j → j < u.heap.size ∧ w0.heap.size ≤ j) := hid fun j hj => ⟨(own_type hbk.he hj).2.1, (own_type hbk.he hj).1⟩
  have HK := hid (hbk.kept (below_alloc (.cells #[.slice da' k.dec.length dc', .slice ea' k.enc.length ec', .slice ra' k.rows.length rc'] 25)))
  have BO : Hid (Blk (u.alloc (.cells #[.slice da' k.dec.length dc', .slice ea' k.enc.length ec', .slice ra' k.rows.length rc'] 25)) u.heap.size 25 #[.slice da' k.dec.length dc', .slice ea' k.enc.length ec', .slice ra' k.rows.length rc']) := hid (Blk.new _ _ _)
  have HBU : Hid (Below w.heap.size w (u.alloc (.cells #[.slice da' k.dec.length dc', .slice ea' k.enc.length ec', .slice ra' k.rows.length rc'] 25))) := hid (below_trans (below_trans HBB.out hb1) (below_alloc _))
  replace BB : Hid (Blk (u.alloc (.cells #[.slice da' k.dec.length dc', .slice ea' k.enc.length ec', .slice ra' k.rows.length rc'] 25)) (w.heap.size + 1) 25 #[.slice none 0 0, .slice none 0 0, .slice none 0 0]) := hid ((BB.out.kept hb1).kept (below_alloc _))
  replace BA : Hid (Blk (u.alloc (.cells #[.slice da' k.dec.length dc', .slice ea' k.enc.length ec', .slice ra' k.rows.length rc'] 25)) w.heap.size 25 #[.slice da k.dec.length dc, .slice ea k.enc.length ec, .slice ra k.rows.length rc]) := hid ((BA.out.kept hb1).kept (below_alloc _))
  have hs1 := hb1.size
  have hsO : (u.alloc (.cells #[.slice da' k.dec.length dc', .slice ea' k.enc.length ec', .slice ra' k.rows.length rc'] 25)).heap.size = u.heap.size + 1 := by simp
  clear hbk hb1 HD
  go_upto_region 2 with fail
  generalize (u.alloc (.cells #[.slice da' k.dec.length dc', .slice ea' k.enc.length ec', .slice ra' k.rows.length rc'] 25)) = u1 at *
  have x1 := BA.out.cellF
  have z1 := BA.out.lt
  have HFIN := hid fun (W : World) (hW : Below u1.heap.size u1 W) => (⟨HK.out.kept hW, BO.out.kept hW, BB.out.kept hW, below_trans HBU.out hW⟩ : BkO W w0.heap.size k (.slice da' k.dec.length dc') (.slice ea' k.enc.length ec') (.slice ra' k.rows.length rc') ∧ Blk W u.heap.size 25 #[.slice da' k.dec.length dc', .slice ea' k.enc.length ec', .slice ra' k.rows.length rc'] ∧ Blk W (w.heap.size + 1) 25 #[.slice none 0 0, .slice none 0 0, .slice none 0 0] ∧ Below w.heap.size w W)
  have hne : w.heap.size + 1 ≠ u.heap.size := by omega
  by_cases hr : k.rows.length = 0
  · have r1 : ((k.rows.length : Int) == 0) = true := by rw [hr]; rfl
    have HRR := hid hr
    clear hr
    by_cases hd : 1 < k.dec.length
    · have d1 : ((1 : Int) < (k.dec.length : Int)) = True := eq_true (by omega)
      have d2 : (1 < k.dec.length) = True := eq_true hd
      have i1 : (1 : Int) < (k.dec.length : Int) := by omega
      obtain ⟨lb, lo, rfl, hcc⟩ := row_of ((HH.out.kept HBU.out).hd) (by omega) (by omega)
      have c0 := hcc (1 * 5 + 0) _ (flat_at (g := cIN) (K := 5) (fun _ => rfl) hd (u := .int .i64 k.dec[1].op) rfl)
      simp only [Nat.add_zero, Nat.one_mul] at c0
      have zb := World.block_lt_of_cell? _ _ c0
      have hx : k.dec[1]? = some k.dec[1] := List.getElem?_eq_getElem hd
      have HCX : Hid (tbC k ↔ k.dec[1].op = 2) := hid ⟨fun ⟨_, _, x, e, h⟩ => by rw [hx] at e; cases e; exact h, fun h => ⟨HRR.out, hd, _, hx, h⟩⟩
      clear hcc hx
      generalize k.dec[1].op = xo at *
      by_cases h2 : xo = 2
      · subst h2
        have HCT := HCX.out.2 rfl
        have HE2 : Hid (T = ⟨k.dec.set 1 ⟨3, ((chA k.dec).2 : Int), 0, 0, 0⟩, k.enc, (chA k.dec).1⟩) := hid (by rw [HT.out]; unfold tbB; rw [if_pos HCT])
        have hok := HOK.out HCT
        have HC := hid (chainT u1 k.dec (some ⟨lb, lo, none⟩) dc ((HH.out.kept HBU.out).hd) HS.out.1 hok.1 hok.2)
        clear HT HCX HCT hok HOK
        go_wp2_with fail
        refine HC.out.mono ?_
        rintro e u2 ⟨ca, cc, rfl, hco, hcb⟩
        obtain ⟨hk2, hb2, hbb2, hbw2⟩ := HFIN.out u2 hcb
        have hs2 := hcb.size
        obtain ⟨dg, rfl⟩ := (own_at0 hk2.hd).1 (by omega)
        have HCO := hid hco
        have HK2 := hid hk2
        have HBW2 := hid hbw2
        have hdx := HXD.out dg rfl
        have hdl := HXE.out
        have HXDD := HXD
        have BO2 := hid hb2
        have x3 := hb2.cellF
        have y3 := hb2.frz
        have z3 := hb2.lt
        have BB2 := hid hbb2
        have x2 := hbb2.cellF
        have y2 := hbb2.frz
        have z2 := hbb2.lt
        have hzd : dg < u2.heap.size := by omega
        have q5 : ∀ j, j < 10 → (∃ v, u2.cell? ⟨dg, j, none⟩ = some v) ∧ u2.frozen? ⟨dg, j, none⟩ = false := fun j hj => by
          have hlen : j < (k.dec.flatMap cIN).length := by rw [flatN (g := cIN) (K := 5) (fun _ => rfl)]; omega
          obtain ⟨e1, e2⟩ := own_cell0 hk2.hd (List.getElem?_eq_getElem hlen)
          exact ⟨⟨_, e1⟩, e2⟩
        obtain ⟨⟨v5, e5⟩, f5⟩ := q5 5 (by omega)
        obtain ⟨⟨v6, e6⟩, f6⟩ := q5 6 (by omega)
        obtain ⟨⟨v7, e7⟩, f7⟩ := q5 7 (by omega)
        obtain ⟨⟨v8, e8⟩, f8⟩ := q5 8 (by omega)
        obtain ⟨⟨v9, e9⟩, f9⟩ := q5 9 (by omega)
        have hne2 : dg ≠ u.heap.size := by omega
        have hne3 : dg ≠ w.heap.size + 1 := by omega
        clear hco hk2 hb2 hbb2 hbw2 q5 HFIN hcb
        go_wp2
        have hkp : Keep (fun j => j ≠ u.heap.size) u2 (u2.setCell ⟨u.heap.size, 2, none⟩ (.slice ca (chA k.dec).1.length cc)) := Keep.setCell _ _ _ (fun h => h rfl)
        have hD := own_one5 (y := ⟨3, ((chA k.dec).2 : Int), 0, 0, 0⟩) (own_keep HK2.out.hd (fun j hj => by have := (HXDD.out j hj).1; show j ≠ u.heap.size; omega) hkp) rfl (by omega)
        have hE := own_keep (f := fun j => j ≠ u.heap.size ∧ j ≠ dg) HK2.out.he (fun j hj => ⟨by have := (hdl j hj).1; omega, fun e => HK2.out.ap dg rfl (by rw [hj, e])⟩) ((hkp.weak (fun j hj => hj.1)).trans ((((((Keep.setCell _ ⟨dg, 5, none⟩ (.int .i64 3) (fun h => h.2 rfl)).trans (Keep.setCell _ ⟨dg, 6, none⟩ (.int .i64 ((chA k.dec).2 : Int)) (fun h => h.2 rfl))).trans (Keep.setCell _ ⟨dg, 7, none⟩ (.int .i64 0) (fun h => h.2 rfl))).trans (Keep.setCell _ ⟨dg, 8, none⟩ (.int .i64 0) (fun h => h.2 rfl))).trans (Keep.setCell _ ⟨dg, 9, none⟩ (.int .i64 0) (fun h => h.2 rfl)))))
        have hR := own_keep (f := fun j => j ≠ u.heap.size ∧ j ≠ dg) HCO.out (fun j hj => by have := (own_type HCO.out hj).1; exact ⟨by omega, by omega⟩) ((hkp.weak (fun j hj => hj.1)).trans ((((((Keep.setCell _ ⟨dg, 5, none⟩ (.int .i64 3) (fun h => h.2 rfl)).trans (Keep.setCell _ ⟨dg, 6, none⟩ (.int .i64 ((chA k.dec).2 : Int)) (fun h => h.2 rfl))).trans (Keep.setCell _ ⟨dg, 7, none⟩ (.int .i64 0) (fun h => h.2 rfl))).trans (Keep.setCell _ ⟨dg, 8, none⟩ (.int .i64 0) (fun h => h.2 rfl))).trans (Keep.setCell _ ⟨dg, 9, none⟩ (.int .i64 0) (fun h => h.2 rfl)))))
        have hbw : Below w.heap.size w ((((((u2.setCell ⟨u.heap.size, 2, none⟩ (.slice ca (chA k.dec).1.length cc)).setCell ⟨dg, 5, none⟩ (.int .i64 3)).setCell ⟨dg, 6, none⟩ (.int .i64 ((chA k.dec).2 : Int))).setCell ⟨dg, 7, none⟩ (.int .i64 0)).setCell ⟨dg, 8, none⟩ (.int .i64 0)).setCell ⟨dg, 9, none⟩ (.int .i64 0)) := by
          have h := HBW2.out
          have q := (hkp.weak (g := fun j => j ≠ u.heap.size ∧ j ≠ dg) (fun j hj => hj.1)).trans ((((((Keep.setCell _ ⟨dg, 5, none⟩ (.int .i64 3) (fun h => h.2 rfl)).trans (Keep.setCell _ ⟨dg, 6, none⟩ (.int .i64 ((chA k.dec).2 : Int)) (fun h => h.2 rfl))).trans (Keep.setCell _ ⟨dg, 7, none⟩ (.int .i64 0) (fun h => h.2 rfl))).trans (Keep.setCell _ ⟨dg, 8, none⟩ (.int .i64 0) (fun h => h.2 rfl))).trans (Keep.setCell _ ⟨dg, 9, none⟩ (.int .i64 0) (fun h => h.2 rfl))))
          exact ⟨q.os.trans h.os, q.tape.trans h.tape, q.output.trans h.output, Nat.le_trans h.size q.size, fun j hj => (q.block j (by have := h.size; omega) ⟨by omega, by omega⟩).trans (h.block j hj)⟩
        have hKF : BkO _ w0.heap.size ⟨k.dec.set 1 ⟨3, ((chA k.dec).2 : Int), 0, 0, 0⟩, k.enc, (chA k.dec).1⟩ (.slice (some ⟨dg, 0, none⟩) k.dec.length dc') (.slice ea' k.enc.length ec') (.slice ca (chA k.dec).1.length cc) := ⟨by simpa using hD, hE, own_mono hR (by omega), HK2.out.ap⟩
        refine bodyPost_ret (v := .agg #[.slice (some ⟨dg, 0, none⟩) k.dec.length dc', .slice ea' k.enc.length ec', .slice ca (chA k.dec).1.length cc]) (by simp [results, Try.results13, go_sem, x2]) rfl ?_
        rw [HE2.out]
        exact ⟨some ⟨dg, 0, none⟩, dc', ea', ec', ca, cc, by simp, by have q := hKF.set3 (p := w.heap.size + 1) (base' := w.heap.size) (a := .slice (some ⟨dg, 0, none⟩) k.dec.length dc') (b := .slice ea' k.enc.length ec') (c := .slice ca (chA k.dec).1.length cc) (by omega) (by omega); simpa using q, below_set3 hbw (by omega)⟩
      · have k2 : (xo == 2) = false := by simpa using h2
        have HE2 : Hid (T = k) := hid (by rw [HT.out]; unfold tbB; rw [if_neg (fun h => h2 (HCX.out.1 h))])
        obtain ⟨hk2, hb2, hbb2, hbw2⟩ := HFIN.out u1 (Below.refl _ _)
        have HK2 := hid hk2
        have HBW2 := hid hbw2
        have x3 := hb2.cellF
        have z3 := hb2.lt
        have x2 := hbb2.cellF
        have y2 := hbb2.frz
        have z2 := hbb2.lt
        clear hk2 hb2 hbb2 hbw2 HFIN HT
        go_wp2
        exact bodyPost_ret (v := .agg #[.slice da' k.dec.length dc', .slice ea' k.enc.length ec', .slice ra' k.rows.length rc']) (by simp [results, Try.results13, go_sem, x2]) rfl (by rw [HE2.out]; exact ⟨da', dc', ea', ec', ra', rc', rfl, HK2.out.set3 (by omega) (by omega), below_set3 HBW2.out (by omega)⟩)
    · have d1 : ((1 : Int) < (k.dec.length : Int)) = False := eq_false (by omega)
      have d2 : (1 < k.dec.length) = False := eq_false hd
      have HE2 : Hid (T = k) := hid (by rw [HT.out]; unfold tbB; rw [if_neg (fun h => hd h.2.1)])
      obtain ⟨hk2, hb2, hbb2, hbw2⟩ := HFIN.out u1 (Below.refl _ _)
      have HK2 := hid hk2
      have HBW2 := hid hbw2
      have x3 := hb2.cellF
      have z3 := hb2.lt
      have x2 := hbb2.cellF
      have y2 := hbb2.frz
      have z2 := hbb2.lt
      clear hk2 hb2 hbb2 hbw2 HFIN HT
      go_wp2
      exact bodyPost_ret (v := .agg #[.slice da' k.dec.length dc', .slice ea' k.enc.length ec', .slice ra' k.rows.length rc']) (by simp [results, Try.results13, go_sem, x2]) rfl (by rw [HE2.out]; exact ⟨da', dc', ea', ec', ra', rc', rfl, HK2.out.set3 (by omega) (by omega), below_set3 HBW2.out (by omega)⟩)
  · have r1 : ((k.rows.length : Int) == 0) = false := by rw [beq_eq_false_iff_ne]; omega
    have HE2 : Hid (T = k) := hid (by rw [HT.out]; unfold tbB; rw [if_neg (fun h => hr h.1)])
    clear hr
    obtain ⟨hk2, hb2, hbb2, hbw2⟩ := HFIN.out u1 (Below.refl _ _)
    have HK2 := hid hk2
    have HBW2 := hid hbw2
    have x3 := hb2.cellF
    have z3 := hb2.lt
    have x2 := hbb2.cellF
    have y2 := hbb2.frz
    have z2 := hbb2.lt
    clear hk2 hb2 hbb2 hbw2 HFIN HT
    go_wp2
    exact bodyPost_ret (v := .agg #[.slice da' k.dec.length dc', .slice ea' k.enc.length ec', .slice ra' k.rows.length rc']) (by simp [results, Try.results13, go_sem, x2]) rfl (by rw [HE2.out]; exact ⟨da', dc', ea', ec', ra', rc', rfl, HK2.out.set3 (by omega) (by omega), below_set3 HBW2.out (by omega)⟩)
end Go.Proofs.Ytliohglpbmpbhaa
namespace Go.Proofs.Ytliohglpbmpbhaa
open Go.RowKit
set_option maxRecDepth 1000000
set_option linter.unusedVariables false
set_option linter.unusedSimpArgs false
set_option maxHeartbeats 1000000
def wyR : Value → Option (DataW Value × List MemPlace) := fun v => some (.held v, [])
def vWy (p : Int × Int) : Value := .agg #[.int .i64 p.1, .int .i64 p.2]
/-- Block b is a map of numbers to ways: M says which. -/
def MpW (w : World) (b n : Nat) (M : Int → Option (Int × Int)) : Prop := ∃ D : DataW Value, w.ownsMap Try.prog 3 wyR b n D ∧ Go.Maps.IsMap D ∧ ∀ x, oI64 x → Go.Maps.has D (olI x) = (M x).isSome ∧ D.atKey (olI x) (.held (vWy (0, 0))) = .held (vWy ((M x).getD (0, 0)))
theorem MpW.lt {w : World} {b n : Nat} {M : Int → Option (Int × Int)} (h : MpW w b n M) : b < w.heap.size := by
  obtain ⟨D, h1, _⟩ := h
  exact h1.lt
theorem MpW.same {w w' : World} {b n : Nat} {M : Int → Option (Int × Int)} (h : MpW w b n M) (hb : w'.heap[b]? = w.heap[b]?) : MpW w' b n M := by
  obtain ⟨D, ⟨es, ck, h1, h1'⟩, h2, h3⟩ := h
  exact ⟨D, ⟨es, ck, hb.trans h1, h1'⟩, h2, h3⟩
theorem MpW.kept {w w' : World} {b n : Nat} {M : Int → Option (Int × Int)} (h : MpW w b n M) (hb : Below w.heap.size w w') : MpW w' b n M := h.same (hb.block b h.lt)
theorem MpW.keep {f : Nat → Prop} {w w' : World} {b n : Nat} {M : Int → Option (Int × Int)} (h : MpW w b n M) (hb : Keep f w w') (hf : f b) : MpW w' b n M := h.same (hb.block b h.lt hf)
theorem MpW.new (w : World) : MpW (w.alloc (.map #[] 0)) w.heap.size 0 (fun _ => none) :=
  ⟨_, World.ownsMap_made _ _ _ _, ⟨[], rfl⟩, fun x hx => ⟨rfl, rfl⟩⟩
theorem MpW.zero (w : World) : (zeroValue 55).run Try.prog w = .ok (vWy (0, 0)) w := by rfl
theorem MpW.look2 {w : World} {b n : Nat} {M : Int → Option (Int × Int)} (h : MpW w b n M) {x : Int} (hx : oI64 x) : ∀ W : World, W.heap[b]? = w.heap[b]? → (Instr.lookup 48 (.map (some b)) (.int .i64 x) true).run Try.prog W = .ok (.tuple #[vWy ((M x).getD (0, 0)), .bool (M x).isSome]) W := by
  intro W hW
  obtain ⟨D, h1, h2, h3⟩ := h
  have hkey : keyOf Try.prog 3 (.int .i64 x) = some (olI x) := Go.Maps.keyOf_int_mk Try.underlying3 (owfI hx)
  obtain ⟨g1, g2⟩ := h3 x hx
  have k1 : W.ownsMap Try.prog 3 wyR b n D := by
    obtain ⟨es, ck, q1, q2⟩ := h1
    exact ⟨es, ck, hW.trans q1, q2⟩
  obtain ⟨v2, ps2, hrun2, hv2⟩ := k1.look_ok (Go.Maps.int_keyed Try.underlying3) Try.underlying48 (MpW.zero W) (zd := .held (vWy (0, 0))) (zp := []) rfl hkey
  rw [g1] at hrun2
  have e : v2 = vWy ((M x).getD (0, 0)) := by
    have q := congrArg Prod.fst (Option.some.inj hv2)
    rw [g2] at q
    injection q
  rw [e] at hrun2
  exact hrun2
def putW (M : Int → Option (Int × Int)) (k : Int) (v : Int × Int) : Int → Option (Int × Int) := fun x => if x = k then some v else M x
theorem MpW.put {w : World} {b n : Nat} {M : Int → Option (Int × Int)} (h : MpW w b n M) (hn : n < 4000000) {k : Int} (hk : oI64 k) (v : Int × Int) : ∃ w', (Instr.mapUpdate 48 (.map (some b)) (.int .i64 k) (vWy v)).run Try.prog w = .ok () w' ∧ MpW w' b (n + 1) (putW M k v) ∧ w.grownBy w' (some b) := by
  obtain ⟨D, h1, h2, h3⟩ := h
  have hkey : keyOf Try.prog 3 (.int .i64 k) = some (olI k) := Go.Maps.keyOf_int_mk Try.underlying3 (owfI hk)
  obtain ⟨w', hrun, ho, hg⟩ := h1.update (val := vWy v) (d := .held (vWy v)) (ps := []) (Go.Maps.int_keyed Try.underlying3) Try.underlying48 (by unfold maxLen; omega) hkey rfl
  refine ⟨w', hrun, ⟨_, ho, ?_, fun x hx2 => ?_⟩, hg⟩
  · obtain ⟨es, rfl⟩ := h2; exact ⟨_, rfl⟩
  · obtain ⟨g1, g2⟩ := h3 x hx2
    unfold putW
    by_cases e : x = k
    · subst e
      rw [if_pos rfl]
      refine ⟨?_, ?_⟩
      · rw [Go.Maps.has_put_same h2 (by unfold olI; trivial)]
        rfl
      · rw [Go.Maps.atKey_put_same h2 (by unfold olI; trivial)]
        rfl
    · have hne : olI x ≠ olI k := fun q => e (olI_inj q)
      rw [if_neg e]
      refine ⟨?_, ?_⟩
      · rw [Go.Maps.has_put_other hne]
        exact g1
      · rw [Go.Maps.atKey_put_other hne]
        exact g2
end Go.Proofs.Ytliohglpbmpbhaa
namespace Go.Proofs.Ytliohglpbmpbhaa
open Go.RowKit Go.Shelf
set_option maxRecDepth 1000000
attribute [local go_sem] Oper.semAt_some
set_option linter.unusedVariables false
set_option linter.unusedSimpArgs false
set_option maxHeartbeats 3000000
abbrev XB (l : List IN) : Type := {k : Nat // k < l.length}
def encB {l : List IN} (x : XB l) : Array Value := #[.int .i64 (x.1 : Int), .agg #[.int .i64 (l[x.1]'x.2).op, .int .i64 (l[x.1]'x.2).a, .int .i64 (l[x.1]'x.2).b, .int .i64 (l[x.1]'x.2).c, .int .i64 (l[x.1]'x.2).d]]
theorem rev_next {n j k : Nat} (h : j < n) (hk : k = n - 1 - j) : (List.range n).reverse.take (j + 1) = (List.range n).reverse.take j ++ [k] := by
  have hl : j < (List.range n).reverse.length := by simp; exact h
  rw [List.take_succ_eq_append_getElem hl]
  congr 1
  simp [hk]
theorem backwardIn (f : Nat → Prop) (w : World) (n : Nat) (hn : 1 ≤ n) (p1 : Nat) (l : List IN) (la : Option Addr) (lc : Nat) (h1 : Blk w p1 22 #[.slice la l.length lc]) (hf1 : f p1) (hl : 0 < l.length → ∃ lb lo, la = some ⟨lb, lo, none⟩ ∧ f lb ∧ ∀ k u, (l.flatMap cIN)[k]? = some u → w.cell? ⟨lb, lo + k, none⟩ = some u) (m1 : l.length ≤ 1048576) :
    SeqStopsK Fence.wide n Try.prog 59 #[.pointer (some ⟨p1, 0, none⟩)] (encB (l := l)) (Keep f) (fun xs => xs.map (fun y => y.1) = (List.range l.length).reverse) (fun xs => True) l.length w := by
  intro q J Jx W hW hJ hJx hY h0
  have HJ := hid hJ
  have HY := hid hY
  have HW := hid hW
  have HL := hid hl
  have HW := hid hW
  have HB1 := hid (h1.kept hW)
  have HF1 := hid hf1
  have x1 := HB1.out.cellF
  have z1 := HB1.out.lt
  have n1 : (l.length : Int) ≤ 9223372036854775807 := by omega
  have hw0 : IntKind.i64.wrap ((l.length : Int) - 1) = (l.length : Int) - 1 := by rw [IntKind.wrap_i64]; omega
  clear h1 hf1 hl hJ hJx hY hW
  refine callsIn_of_wp Try.func59 rfl trivial ?_ rfl
  simp only [Try.ntmps59, List.size_toArray, List.length_cons, List.length_nil, Nat.reduceAdd, Nat.reduceSub, Array.replicate_succ, Array.replicate_zero, List.push_toArray, List.append_toArray, List.nil_append, List.cons_append]
  gi_wp2
  clear hw0
  gi_loopw [3] (fun s wr => ∃ (j : Nat) (pre : List (XB l)) (i : Int), s = .int .i64 i ∧ i = (l.length : Int) - 1 - j ∧ j ≤ l.length ∧ Hid (pre.map (fun y => y.1) = ((List.range l.length).reverse).take j) ∧ Hid (J pre wr) ∧ Hid (Keep f W wr)) (fun s _ => (intOf s + 1).toNat)
  case atStart => exact ⟨0, [], _, rfl, by omega, by omega, hid (by simp), hid h0, hid (Keep.refl _ _)⟩
  case round =>
    clear x1 z1
    obtain ⟨j, pre, i, rfl, hi, hj, HP, HJ0, hb⟩ := hrel
    have x1 := (HB1.out.keep hb.out HF1.out).cellF
    have z1 := (HB1.out.keep hb.out HF1.out).lt
    by_cases hlt : j < l.length
    · obtain ⟨k, rfl⟩ : ∃ k : Nat, i = k := ⟨i.toNat, by omega⟩
      have hk : k < l.length := by omega
      have k0 : ((0 : Int) ≤ (k : Int)) = True := eq_true (by omega)
      have k1 : (k : Int) < (l.length : Int) := by omega
      have j0 : (0 : Int) ≤ (k : Int) := by omega
      obtain ⟨lb, lo, rfl, hfl, hcl⟩ := HL.out (by omega)
      have HCC := fun u v (e : (l.flatMap cIN)[u]? = some v) => cell_kpO (cell_below (hcl u v e) HW.out) hb.out hfl
      have c0 := HCC (k * 5 + 0) _ (flat_at (g := cIN) (K := 5) (fun _ => rfl) hk (u := .int .i64 l[k].op) rfl)
      have c1 := HCC (k * 5 + 1) _ (flat_at (g := cIN) (K := 5) (fun _ => rfl) hk (u := .int .i64 l[k].a) rfl)
      have c2 := HCC (k * 5 + 2) _ (flat_at (g := cIN) (K := 5) (fun _ => rfl) hk (u := .int .i64 l[k].b) rfl)
      have c3 := HCC (k * 5 + 3) _ (flat_at (g := cIN) (K := 5) (fun _ => rfl) hk (u := .int .i64 l[k].c) rfl)
      have c4 := HCC (k * 5 + 4) _ (flat_at (g := cIN) (K := 5) (fun _ => rfl) hk (u := .int .i64 l[k].d) rfl)
      simp only [Nat.add_zero, ← Nat.add_assoc] at c0 c1 c2 c3 c4
      have zb := World.block_lt_of_cell? _ _ c0
      have hw1 : IntKind.i64.wrap ((k : Int) - 1) = (k : Int) - 1 := by rw [IntKind.wrap_i64]; omega
      have HNX := hid (rev_next (n := l.length) (j := j) (k := k) hlt (by omega))
      have HLN : pre.length < l.length := by
        have e1 : pre.length = (((List.range l.length).reverse).take j).length := by rw [← HP.out, List.length_map]
        rw [e1]
        simp
        omega
      obtain ⟨fn, tmps, assign, body, hy, hR2⟩ := HY.out pre ⟨k, hk⟩ wr HJ0.out HLN
      dsimp only [encB] at hy
      have HRR := hid hR2
      have HI : Hid ((k : Int) = (l.length : Int) - 1 - j) := hid hi
      clear hR2 HLN HCC hi hfl hcl
      gi_wp2
      refine HRR.out.mono ?_
      rintro e W3 (⟨rfl, hJ3, hk3⟩ | ⟨rfl, hJx3⟩)
      · have hb3 : Hid (Keep f W W3) := hid (hb.out.trans hk3)
        have HJ3 := hid hJ3
        clear hJ3 hk3 hy c0 c1 c2 c3 c4 zb x1 z1
        gi_wp2
        exact ⟨⟨j + 1, _, (k : Int) - 1, rfl, by have := HI.out; omega, by omega, hid (by rw [List.map_append, HP.out, HNX.out]; rfl), HJ3, hb3⟩, by simp [intOf]⟩
      · have HJ3 := hid hJx3
        clear hJx3 hy c0 c1 c2 c3 c4 zb x1 z1
        gi_wp2
        refine bodyPost_ret (results_none rfl _ _ _) rfl ?_
        exact ⟨⟨_, rfl⟩, .inr ⟨_, trivial, HJ3.out⟩⟩
    · have k0 : ((0 : Int) ≤ i) = False := eq_false (by omega)
      have HF : Hid (pre.map (fun y => y.1) = (List.range l.length).reverse) := hid (by rw [HP.out, List.take_of_length_le]; simp; omega)
      have HI := hid hi
      clear hi
      gi_wp2
      go_end0
      exact ⟨⟨_, rfl⟩, .inl ⟨pre, HF.out, HJ0.out⟩⟩
end Go.Proofs.Ytliohglpbmpbhaa
namespace Go.Proofs.Ytliohglpbmpbhaa
open Go.RowKit Go.Shelf
set_option maxRecDepth 1000000
attribute [local go_sem] Oper.semAt_some
set_option linter.unusedVariables false
set_option linter.unusedSimpArgs false
set_option maxHeartbeats 3000000
/-- One step's way, those behind it being told. -/
def wy1 (l : List IN) (M : Int → Option (Int × Int)) (k : Nat) : Int → Option (Int × Int) := match l[k]? with
  | none => M
  | some x => if x.op = 4 then (match M x.a with
    | some v => putW M (k : Int) v
    | none => if x.a = 0 then putW M (k : Int) (0, (k : Int)) else putW M (k : Int) (x.a, x.a)) else M
def wyA (l : List IN) : Int → Option (Int × Int) := ((List.range l.length).reverse).foldl (wy1 l) (fun _ => none)
theorem backT (w : World) (la : Option Addr) (n lc : Nat) : Calls Try.prog 43 #[.slice la n lc] w fun e w' => e = .returned (.func (.func 59) #[] #[.pointer (some ⟨w.heap.size, 0, none⟩)]) ∧ w' = w.alloc (.cells #[.slice la n lc] 22) := by
  go_enter Try.func43, Try.ntmps43
  go_wp2
  exact bodyPost_ret (v := .func (.func 59) #[] #[.pointer (some ⟨w.heap.size, 0, none⟩)]) (by simp [results, Try.results43, go_sem]) rfl ⟨rfl, rfl⟩
theorem cfBack (args : Array Value) (W : World) : (callFunc 59 args).run Try.prog W = .ok (.enter 59 args) W := cf_enter Try.func59 (by kernel_rfl) (by kernel_rfl) args W
theorem blk_grown {W W' : World} {p : Nat} {t : TypeId} {cs : Array Value} {row : Option Nat} (h : Blk W p t cs) (hg : W.grownBy W' row) (hr : ∀ r, row = some r → ∃ o : Obj, W.heap[r]? = some o ∧ o.isCells = false) : Blk W' p t cs := by
  refine (hg.block p h.lt (fun e => ?_)).trans h
  obtain ⟨o, ho, hc⟩ := hr p e.symm
  rw [show W.heap[p]? = _ from h] at ho
  cases ho
  cases hc
/-- What the ways are, on the way. -/
structure WaS (f : Nat → Prop) (w3 : World) (b : Nat) (l : List IN) (pre : List Nat) (W : World) : Prop where
  kp : Keep f w3 W
  m : ∃ n, n ≤ pre.length ∧ MpW W b n (pre.foldl (wy1 l) (fun _ => none))
theorem own_WaS {f : Nat → Prop} {w3 : World} {b : Nat} {l : List IN} (hb : b < w3.heap.size) : OwnFrom w3.heap.size (fun (pre : List (XB l)) W => WaS f w3 b l (pre.map (fun y => y.1)) W) := fun s A B row hs hg hr => by
  obtain ⟨n, hn, hm⟩ := hs.m
  exact ⟨⟨hg.os.trans hs.kp.os, hg.tape.trans hs.kp.tape, hg.output.trans hs.kp.output, Nat.le_trans hs.kp.size hg.size, fun k hk hfk => (hg.block k (Nat.lt_of_lt_of_le hk hs.kp.size) (fun e => by have := (hr k e.symm).1; omega)).trans (hs.kp.block k hk hfk)⟩, n, hn, hm.same (hg.block _ hm.lt (fun e => by have := (hr _ e.symm).1; omega))⟩
theorem wy1_at {l : List IN} {M : Int → Option (Int × Int)} {k : Nat} (hk : k < l.length) : wy1 l M k = if l[k].op = 4 then (match M l[k].a with
    | some v => putW M (k : Int) v
    | none => if l[k].a = 0 then putW M (k : Int) (0, (k : Int)) else putW M (k : Int) (l[k].a, l[k].a)) else M := by
  unfold wy1
  rw [List.getElem?_eq_getElem hk]
theorem waysT (w : World) (l : List IN) (la : Option Addr) (lc : Nat) (hl : RowS w AnyZ 5 (.slice la l.length lc) l.length (l.flatMap cIN)) (hn : l.length ≤ 1048576) (hI : ∀ x ∈ l, inI x) : Calls Try.prog 25 #[.slice la l.length lc] w fun e w' => ∃ b n, e = .returned (.map (some b)) ∧ MpW w' b n (wyA l) ∧ w.heap.size ≤ b ∧ Below w.heap.size w w' := by
  have HL := hid hl
  have HI := hid hI
  clear hl hI
  have hmk : ∀ W : World, (Instr.makeMap 48 none).run Try.prog W = .ok (.map (some W.heap.size)) (W.alloc (.map #[] 0)) := fun W => by rfl
  refine callsIn_wide (n := 3) |>.1 ?_
  refine callsIn_of_wp_marks Try.func25 rfl trivial ?_ rfl
  simp only [Try.ntmps25, List.size_toArray, List.length_cons, List.length_nil, Nat.reduceAdd, Nat.reduceSub, Array.replicate_succ, Array.replicate_zero, List.push_toArray, List.append_toArray, List.nil_append, List.cons_append]
  gi_wp2_with fail
  clear hmk
  refine ⟨trivial, (callsIn_wide.2 (backT _ la l.length lc)).mono ?_⟩
  rintro e w3 ⟨rfl, hw3⟩
  have BM : Blk w3 (w.heap.size + 1) 48 #[.map (some w.heap.size)] := by rw [hw3]; exact (Blk.newAt (by simp)).kept (below_alloc _)
  have B1 : Blk w3 (w.heap.size + 1 + 1) 22 #[.slice la l.length lc] := by rw [hw3]; exact Blk.newAt (by simp)
  have HM : Hid (MpW w3 w.heap.size 0 (fun _ => none)) := hid (by rw [hw3]; exact ((MpW.new w).kept (below_alloc _)).kept (below_alloc _))
  have hb3 : Hid (Below w.heap.size w w3) := hid (by rw [hw3]; exact blBy)
  have hs3 : w3.heap.size = w.heap.size + 3 := by rw [hw3]; simp
  have e1 : ((w.alloc (.map #[] 0)).alloc (.cells #[.map (some w.heap.size)] 48)).heap.size = w.heap.size + 1 + 1 := by simp
  rw [e1]
  clear hw3 e1
  obtain ⟨f, hf⟩ : ∃ f : Nat → Prop, f = fun k => k < w3.heap.size ∧ k ≠ w.heap.size := ⟨_, rfl⟩
  have HFS : Hid (∀ k, f k → k < w3.heap.size) := hid fun k h => by rw [hf] at h; exact h.1
  have HFB : Hid (∀ k, k < w3.heap.size → k ≠ w.heap.size → f k) := hid fun k h1 h2 => by rw [hf]; exact ⟨h1, h2⟩
  have HFN : Hid (¬ f w.heap.size) := hid (by rw [hf]; rintro ⟨_, h⟩; exact h rfl)
  have hq1 : 0 < l.length → ∃ lb lo, la = some ⟨lb, lo, none⟩ ∧ f lb ∧ ∀ k u, (l.flatMap cIN)[k]? = some u → w3.cell? ⟨lb, lo + k, none⟩ = some u := fun h => by
    obtain ⟨b, o, e, hcc⟩ := row_of HL.out h (by omega)
    refine ⟨b, o, e, HFB.out b ?_ ?_, fun k u hu => cell_below (hcc k u hu) hb3.out⟩
    · have c0 := hcc 0 _ (flat_at (g := cIN) (K := 5) (i := 0) (j := 0) (fun _ => rfl) h (u := .int .i64 l[0].op) rfl)
      have := World.block_lt_of_cell? _ _ c0
      dsimp only at this
      omega
    · have c0 := hcc 0 _ (flat_at (g := cIN) (K := 5) (i := 0) (j := 0) (fun _ => rfl) h (u := .int .i64 l[0].op) rfl)
      have := World.block_lt_of_cell? _ _ c0
      dsimp only at this
      omega
  have HSEQ := hid (backwardIn f w3 (3 - 1) (by omega) (w.heap.size + 1 + 1) l la lc B1 (HFB.out _ (by omega) (by omega)) hq1 hn)
  have HST : Hid (WaS f w3 w.heap.size l [] w3) := hid ⟨Keep.refl _ _, 0, Nat.le_refl _, HM.out⟩
  clear hf hq1 HM HL
  gi_wp2_with fail
  refine wpIn_rangeFunc_ownH rfl (by omega) (gf := 59) (lb := #[.pointer (some ⟨w.heap.size + 1 + 1, 0, none⟩)]) rfl trivial cfBack HSEQ.out Keep.trans (fun W q o o' h1 h2 h3 h4 => ⟨rfl, rfl, rfl, by simp [World.putObj], fun k _ hk => by have := HFS.out k hk; simp [World.putObj, Array.getElem?_setIfInBounds]; omega⟩) (Below.refl _ _) (fun _ => rfl)
    (fun pre W' => WaS f w3 w.heap.size l (pre.map (fun y => y.1)) W') (fun c pre W' => False) (own_WaS (by omega)) (fun c => ownFrom_pure _ _) HST.out
    (fun x a' W' => ∃ p5, a' = { tmps := #[.slice la l.length lc, undef, .map none, .pointer (some ⟨w.heap.size + 1, 0, none⟩), .int .i64 (x.1 : Int), .pointer (some ⟨p5, 0, none⟩), undef, undef, .map (some w.heap.size), .slice la l.length lc, .func (.func 59) #[] #[.pointer (some ⟨w.heap.size + 1 + 1, 0, none⟩)], .int .i64 (x.1 : Int), .agg #[.int .i64 (l[x.1]'x.2).op, .int .i64 (l[x.1]'x.2).a, .int .i64 (l[x.1]'x.2).b, .int .i64 (l[x.1]'x.2).c, .int .i64 (l[x.1]'x.2).d], undef, undef, undef, undef, undef, undef, undef, undef, undef, undef, undef, undef, undef, undef, undef, undef, undef, undef, undef, undef, undef, undef, undef, undef, undef, undef, undef, undef, undef], defers := [] } ∧ Blk W' p5 42 #[.int .i64 (l[x.1]'x.2).op, .int .i64 (l[x.1]'x.2).a, .int .i64 (l[x.1]'x.2).b, .int .i64 (l[x.1]'x.2).c, .int .i64 (l[x.1]'x.2).d] ∧ w3.heap.size ≤ p5) (fun x a' _ A B row hs hg hr => by
      obtain ⟨p5, h1, h2, h3⟩ := hs
      exact ⟨p5, h1, blk_grown h2 hg (fun r e => (hr r e).2), h3⟩)
    ?assign ?body ?done ?stop
  case assign =>
    rintro q pre x W' K hI hK
    dsimp only [encB] at hK ⊢
    have HI2 := hid hI
    have HK := hid hK
    clear hI hK
    gi_wp2
    refine HK.out _ _ (KeepsFrom.of_grownBy (World.grownBy_alloc W' _ none) (fun j e => by cases e)) (Keep.ofBelow (below_alloc _)) ?_ ⟨W'.heap.size, rfl, Blk.new _ _ _, HI2.out.kp.size⟩
    obtain ⟨n, hn, hm⟩ := HI2.out.m
    exact ⟨HI2.out.kp.trans (Keep.ofBelow (below_alloc _)), n, hn, hm.kept (below_alloc _)⟩
  case body =>
    rintro q pre ⟨k, hk⟩ a' W' hl ⟨r, hr⟩ hI3 ⟨p5, rfl, hb5, hp5⟩ hlt
    dsimp only at hb5 ⊢
    obtain ⟨n, hnn, hm⟩ := hI3.m
    have HW1 := hid (wy1_at (l := l) (M := (pre.map (fun y => y.1)).foldl (wy1 l) (fun _ => none)) hk)
    have HIN := HI.out l[k] (List.getElem_mem hk)
    have hkp := hI3.kp
    have hpl : (pre.map (fun y => y.1)).length < l.length := by rw [List.length_map]; exact hlt
    have HFO : Hid (∀ (aa : Act) (W2 : World) (n2 : Nat) (M2 : Int → Option (Int × Int)), KeepsFrom w3.heap.size W' W2 → Keep f W' W2 → n2 ≤ (pre.map (fun y => y.1)).length + 1 → MpW W2 w.heap.size n2 M2 → wy1 l ((pre.map (fun y => y.1)).foldl (wy1 l) (fun _ => none)) k = M2 → ownPostG w3.heap.size (Keep f) (fun pre W' => WaS f w3 w.heap.size l (pre.map (fun y => y.1)) W') (fun c pre W' => False) (pre ++ [⟨k, hk⟩]) W'   .normal aa W2) := hid fun aa W2 n2 M2 h1 h2 h3 h4 h5 => by
      refine ⟨h1, h2, ?_⟩
      show WaS _ _ _ _ (List.map _ (_ ++ _)) _
      rw [List.map_append]
      refine ⟨hkp.trans h2, n2, by simpa using h3, ?_⟩
      rw [List.foldl_append]
      show MpW _ _ _ (wy1 l _ k)
      rw [h5]
      exact h4
    have BMW := hid (BM.keep hkp (HFB.out _ (by omega) (by omega)))
    have xm := BMW.out.cellF
    have zm := BMW.out.lt
    have x5 := hb5.cellF
    have z5 := hb5.lt
    have HMW := hid hm
    have hmne : p5 ≠ w.heap.size + 1 := by omega
    clear hr hI3 hkp hb5 hm hlt
    generalize (pre.map (fun y => y.1)).foldl (wy1 l) (fun _ => none) = M at *
    generalize l[k] = y at *
    obtain ⟨yo, ya, yb, yc, yd⟩ := y
    dsimp only at x5 HW1 HIN
    by_cases h4 : yo = 4
    · subst h4
      rw [if_pos rfl] at HW1
      have HLK := HMW.out.look2 HIN.2.1
      have HGK := fun (X : World) (hX : Keep f W' X) (hX2 : KeepsFrom w3.heap.size W' X) (hm : MpW X w.heap.size n M) (v : Int × Int) => MpW.put (k := (k : Int)) hm (by omega) (by unfold oI64; omega) v
      obtain ⟨c1, c2, hc⟩ : ∃ c1 c2, (M ya).getD (0, 0) = (c1, c2) := ⟨_, _, rfl⟩
      rw [hc] at HLK
      have HL0 : (Instr.lookup 48 (.map (some w.heap.size)) (.int .i64 ya) true).run Try.prog W' = .ok (.tuple #[.agg #[.int .i64 c1, .int .i64 c2], .bool (M ya).isSome]) W' := HLK W' rfl
      have hXk : Keep f W' (W'.alloc (.cells #[.int .i64 c1, .int .i64 c2] 55)) := Keep.ofBelow (below_alloc _)
      have hXf : KeepsFrom w3.heap.size W' (W'.alloc (.cells #[.int .i64 c1, .int .i64 c2] 55)) := KeepsFrom.of_grownBy (World.grownBy_alloc W' _ none) (fun j e => by cases e)
      have HPUT : Hid (∀ v : Int × Int, ∃ w1, (Instr.mapUpdate 48 (.map (some w.heap.size)) (.int .i64 (k : Int)) (vWy v)).run Try.prog (W'.alloc (.cells #[.int .i64 c1, .int .i64 c2] 55)) = .ok () w1 ∧ (wy1 l M k = putW M (k : Int) v → ∀ aa, ownPostG w3.heap.size (Keep f) (fun pre W' => WaS f w3 w.heap.size l (pre.map (fun y => y.1)) W') (fun c pre W' => False) (pre ++ [⟨k, hk⟩]) W' .normal aa w1)) := hid fun v => by
        obtain ⟨w1, hrun, hm1, hg1⟩ := HGK _ hXk hXf (HMW.out.kept (below_alloc _)) v
        refine ⟨w1, hrun, fun hwy aa => HFO.out aa w1 (n + 1) (putW M (k : Int) v) (hXf.trans (KeepsFrom.of_grownBy hg1 (fun j e => by cases e; omega))) (hXk.trans ⟨hg1.os, hg1.tape, hg1.output, hg1.size, fun j hj hfj => hg1.block j hj (fun e => by cases e; exact HFN.out hfj)⟩) (by omega) hm1 hwy⟩
      have HC := hid hc
      have HW1' := hid HW1
      clear HFO HLK HGK hXk hXf HMW hc HIN HW1
      cases hq : M ya with
      | some v =>
        rw [hq] at HL0 HC HW1'
        have ev : v = (c1, c2) := HC.out
        subst ev
        obtain ⟨w1, hrun, hfin⟩ := HPUT.out (c1, c2)
        have HF := hid (hfin HW1'.out)
        unfold vWy at hrun
        dsimp only [Option.isSome] at HL0 hrun
        clear hfin HPUT HC HW1' hq
        gi_wp2
        exact HF.out _
      | none =>
        rw [hq] at HL0 HC HW1'
        by_cases ha : ya = 0
        · subst ha
          obtain ⟨w1, hrun, hfin⟩ := HPUT.out (0, (k : Int))
          have HF := hid (hfin (by rw [HW1'.out]; simp))
          unfold vWy at hrun
          dsimp only [Option.isSome] at HL0 hrun
          clear hfin HPUT HC HW1' hq
          gi_wp2
          exact HF.out _
        · have ka : (ya == 0) = false := by simpa using ha
          obtain ⟨w1, hrun, hfin⟩ := HPUT.out (ya, ya)
          have HF := hid (hfin (by rw [HW1'.out]; simp [ha]))
          unfold vWy at hrun
          dsimp only [Option.isSome] at HL0 hrun
          clear hfin HPUT HC HW1' hq ha
          gi_wp2
          exact HF.out _
    · have k4 : (yo == 4) = false := by simpa using h4
      rw [if_neg h4] at HW1
      have HF := fun aa => HFO.out aa W' n M (KeepsFrom.refl _ _) (Keep.refl _ _) (by omega) HMW.out HW1.out
      clear HFO h4
      gi_wp2
      exact HF _
  case done =>
    rintro D xs W' hD hS hI3 hK
    obtain ⟨hkp, n, hn2, hm⟩ := hI3
    rw [hS] at hm
    have hmf : MpW W' w.heap.size n (wyA l) := hm
    have BMW := BM.keep hkp (HFB.out _ (by omega) (by omega))
    have xm := BMW.cellF
    have zm := BMW.lt
    have HKP := hid (keep_put W' D (.deferred none))
    have HMF := hid (hmf.keep HKP.out (show w.heap.size ≠ D by omega))
    have HBF : Hid (Below w.heap.size w (W'.putObj D (.deferred none))) := hid (by
      have e1 := hb3.out
      have e2 := hkp
      have e3 := HKP.out
      exact ⟨e3.os.trans (e2.os.trans e1.os), e3.tape.trans (e2.tape.trans e1.tape), e3.output.trans (e2.output.trans e1.output), Nat.le_trans e1.size (Nat.le_trans e2.size e3.size), fun j hj => (e3.block j (by have := e2.size; omega) (by show j ≠ D; omega)).trans ((e2.block j (by omega) (HFB.out _ (by omega) (by omega))).trans (e1.block j hj))⟩)
    have HK := hid hK
    clear hkp hm hmf BMW hK hS
    gi_wp2
    exact leave_one 3 HK.out ⟨.map (some w.heap.size), by simp [results, Try.results25, go_sem], _, n, rfl, HMF.out, Nat.le_refl _, HBF.out⟩
  case stop =>
    rintro D c pre W' hD hSp hF hK
    exact hF.elim
end Go.Proofs.Ytliohglpbmpbhaa
namespace Go.Proofs.Ytliohglpbmpbhaa
open Go.RowKit Go.Shelf
set_option maxRecDepth 1000000
set_option linter.unusedVariables false
set_option linter.unusedSimpArgs false
set_option maxHeartbeats 1000000
/-- A place, where it stands now. -/
def thI (G : Int → Int → Int) (x : IN) : IN := match plI x with
  | some 1 => { x with a := G x.op x.a }
  | some 2 => { x with b := G x.op x.b }
  | _ => x
def thL (G : Int → Int → Int) (x : LN) : LN := { x with pl := G 0 x.pl }
def vpd1 (G : Int → Int → Int) (fl : List Value) (k : Nat × Int) : List Value := match fl[k.1]? with
  | some (.int .i64 v) => fl.set k.1 (.int .i64 (G k.2 v))
  | _ => fl
def vpd (G : Int → Int → Int) (fl : List Value) (ks : List (Nat × Int)) : List Value := ks.foldl (vpd1 G) fl
theorem vpd1_len (G : Int → Int → Int) (fl : List Value) (k : Nat × Int) : (vpd1 G fl k).length = fl.length := by
  unfold vpd1
  split <;> simp
theorem vpd_len (G : Int → Int → Int) (ks : List (Nat × Int)) : ∀ fl : List Value, (vpd G fl ks).length = fl.length := by
  induction ks with
  | nil => intro fl; rfl
  | cons k ks ih => intro fl; exact (ih (vpd1 G fl k)).trans (vpd1_len G fl k)
theorem vpd1_all {G : Int → Int → Int} (hG : ∀ o v, oI64 v → oI64 (G o v)) {fl : List Value} (h : AllI fl) (k : Nat × Int) : AllI (vpd1 G fl k) := by
  unfold vpd1
  split
  · rename_i v hv
    intro u hu
    rcases List.mem_or_eq_of_mem_set hu with h1 | h1
    · exact h u h1
    · refine ⟨_, h1, ?_⟩
      obtain ⟨v2, e, h2⟩ := h _ (List.mem_of_getElem? hv)
      cases e
      exact hG _ _ h2
  · exact h
theorem vpd_all {G : Int → Int → Int} (hG : ∀ o v, oI64 v → oI64 (G o v)) (ks : List (Nat × Int)) : ∀ {fl : List Value}, AllI fl → AllI (vpd G fl ks) := by
  induction ks with
  | nil => intro fl h; exact h
  | cons k ks ih => intro fl h; exact ih (vpd1_all hG h k)
theorem vpd_snoc (G : Int → Int → Int) (fl : List Value) (ks : List (Nat × Int)) (k : Nat × Int) : vpd G fl (ks ++ [k]) = vpd1 G (vpd G fl ks) k := by
  unfold vpd
  rw [List.foldl_append]
  rfl
theorem vpd1_at {G : Int → Int → Int} {fl : List Value} {k : Nat} {o v : Int} (h : fl[k]? = some (.int .i64 v)) : vpd1 G fl (k, o) = fl.set k (.int .i64 (G o v)) := by
  unfold vpd1
  dsimp only
  rw [h]
/-- Which of the places lie in a slice's block: how far behind its start. -/
def idxt (la : Option Addr) (pre : List (Int × Addr)) : List (Nat × Int) := pre.filterMap (fun x => if la.map (·.block) = some x.2.block then some (x.2.off, x.1) else none)
theorem idxt_snoc (la : Option Addr) (pre : List (Int × Addr)) (x : Int × Addr) : idxt la (pre ++ [x]) = idxt la pre ++ (if la.map (·.block) = some x.2.block then [(x.2.off, x.1)] else []) := by
  unfold idxt
  rw [List.filterMap_append]
  congr 1
  by_cases h : la.map (·.block) = some x.2.block
  · simp only [List.filterMap_cons, List.filterMap_nil, if_pos h]
  · simp only [List.filterMap_cons, List.filterMap_nil, if_neg h]
theorem idxt_app (la : Option Addr) (p q : List (Int × Addr)) : idxt la (p ++ q) = idxt la p ++ idxt la q := by
  unfold idxt
  rw [List.filterMap_append]
/-- The indices of what steps name. -/
def ixT (k : Nat) (x : IN) : List (Nat × Int) := match plI x with
  | some j => [(k * 5 + j, x.op)]
  | none => []
theorem idt_nm1 (g : Nat) (x : IN) (i : Nat) : idxt (some ⟨g, 0, none⟩) (nm1 (some ⟨g, 0, none⟩) (x, i)) = ixT i x := by
  unfold nm1 ixT idxt
  cases plI x with
  | none => rfl
  | some j => simp [adr]
theorem vpd1_app (G : Int → Int → Int) (P fl : List Value) (k : Nat) (o : Int) : vpd1 G (P ++ fl) (P.length + k, o) = P ++ vpd1 G fl (k, o) := by
  unfold vpd1
  dsimp only
  rw [List.getElem?_append_right (by omega), Nat.add_sub_cancel_left]
  split
  · rw [List.set_append_right _ _ (by omega), Nat.add_sub_cancel_left]
  · rfl
theorem thI_cells (G : Int → Int → Int) (P R : List Value) (x : IN) (k : Nat) (hP : P.length = k * 5) : vpd G (P ++ (cIN x ++ R)) (ixT k x) = P ++ (cIN (thI G x) ++ R) := by
  unfold ixT thI
  rcases pl_cases x with h | h | h <;> rw [h]
  · rfl
  · show vpd1 G (P ++ (cIN x ++ R)) (k * 5 + 1, x.op) = _
    rw [← hP, vpd1_app]
    rfl
  · show vpd1 G (P ++ (cIN x ++ R)) (k * 5 + 2, x.op) = _
    rw [← hP, vpd1_app]
    rfl
theorem vpdS (G : Int → Int → Int) (g : Nat) : ∀ (l : List IN) (k : Nat) (P : List Value), P.length = k * 5 → vpd G (P ++ l.flatMap cIN) (idxt (some ⟨g, 0, none⟩) ((l.zipIdx k).flatMap (nm1 (some ⟨g, 0, none⟩)))) = P ++ (l.map (thI G)).flatMap cIN
  | [], k, P, h => by simp [idxt, vpd]
  | x :: l, k, P, h => by
    have e : idxt (some ⟨g, 0, none⟩) (((x :: l).zipIdx k).flatMap (nm1 (some ⟨g, 0, none⟩))) = ixT k x ++ idxt (some ⟨g, 0, none⟩) ((l.zipIdx (k + 1)).flatMap (nm1 (some ⟨g, 0, none⟩))) := by rw [List.zipIdx_cons, List.flatMap_cons, idxt_app, idt_nm1]
    rw [e]
    unfold vpd
    rw [List.foldl_append]
    show vpd G (vpd G (P ++ (cIN x ++ l.flatMap cIN)) (ixT k x)) _ = _
    rw [thI_cells G P _ x k h, ← List.append_assoc]
    rw [vpdS G g l (k + 1) (P ++ cIN (thI G x)) (by rw [List.length_append, h]; simp [cIN]; omega)]
    simp [List.append_assoc]
theorem vpdS0 (G : Int → Int → Int) (g : Nat) (l : List IN) : vpd G (l.flatMap cIN) (idxt (some ⟨g, 0, none⟩) (nmS (some ⟨g, 0, none⟩) l)) = (l.map (thI G)).flatMap cIN := by
  have := vpdS G g l 0 [] rfl
  unfold nmS
  simpa using this
theorem idtR (g : Nat) (n : Nat) : idxt (some ⟨g, 0, none⟩) ((List.range n).map (nmG (some ⟨g, 0, none⟩))) = (List.range n).map (fun i => (i * 2 + 1, (0 : Int))) := by
  unfold idxt
  rw [List.filterMap_map]
  have : ((fun x : Int × Addr => if Option.map (fun x => x.block) (some (⟨g, 0, none⟩ : Addr)) = some x.2.block then some (x.2.off, x.1) else none) ∘ nmG (some ⟨g, 0, none⟩)) = fun i => some (i * 2 + 1, (0 : Int)) := by
    funext i
    simp [nmG, adr]
  rw [this, show (fun i : Nat => some (i * 2 + 1, (0 : Int))) = some ∘ (fun i => (i * 2 + 1, (0 : Int))) from rfl, List.filterMap_eq_map]
theorem vpdR (G : Int → Int → Int) : ∀ (l : List LN) (k : Nat) (P : List Value), P.length = k * 2 → vpd G (P ++ l.flatMap cLN) ((List.range l.length).map (fun i => ((k + i) * 2 + 1, (0 : Int)))) = P ++ (l.map (thL G)).flatMap cLN
  | [], k, P, h => by simp [vpd]
  | x :: l, k, P, h => by
    rw [List.length_cons, List.range_succ_eq_map, List.map_cons, List.map_map]
    unfold vpd
    rw [List.foldl_cons]
    have e : vpd1 G (P ++ (x :: l).flatMap cLN) ((k + 0) * 2 + 1, 0) = (P ++ cLN (thL G x)) ++ l.flatMap cLN := by
      rw [show (k + 0) * 2 + 1 = P.length + 1 by omega, List.flatMap_cons, vpd1_app, List.append_assoc]
      rfl
    rw [e]
    have := vpdR G l (k + 1) (P ++ cLN (thL G x)) (by rw [List.length_append, h]; simp [cLN]; omega)
    unfold vpd at this
    rw [show ((fun i => ((k + i) * 2 + 1, (0 : Int))) ∘ Nat.succ) = fun i => ((k + 1 + i) * 2 + 1, (0 : Int)) from funext fun i => by simp; omega, this]
    simp [List.append_assoc]
theorem vpdR0 (G : Int → Int → Int) (g : Nat) (l : List LN) : vpd G (l.flatMap cLN) (idxt (some ⟨g, 0, none⟩) (nmR (some ⟨g, 0, none⟩) l)) = (l.map (thL G)).flatMap cLN := by
  unfold nmR
  rw [idtR]
  have := vpdR G l 0 [] rfl
  simpa using this
end Go.Proofs.Ytliohglpbmpbhaa
namespace Go.Proofs.Ytliohglpbmpbhaa
open Go.RowKit Go.Shelf
set_option maxRecDepth 1000000
set_option linter.unusedVariables false
set_option linter.unusedSimpArgs false
set_option maxHeartbeats 2000000
theorem idt_other {g : Nat} : ∀ {pre : List (Int × Addr)}, (∀ x ∈ pre, x.2.block ≠ g) → idxt (some ⟨g, 0, none⟩) pre = []
  | [], _ => rfl
  | x :: pre, h => by
    have := idt_other (g := g) (pre := pre) (fun y hy => h y (by simp [hy]))
    unfold idxt at *
    rw [List.filterMap_cons, this]
    have hx := h x (by simp)
    have : ¬ Option.map (fun x => x.block) (some (⟨g, 0, none⟩ : Addr)) = some x.2.block := fun q => hx (by cases q; rfl)
    rw [if_neg this]
/-- How far places are renumbered. -/
structure ThS (f : Nat → Prop) (w3 : World) (base : Nat) (la ra : Option Addr) (l : List IN) (rows : List LN) (lc rc : Nat) (G : Int → Int → Int) (pre : List (Int × Addr)) (W : World) : Prop where
  kp : Keep f w3 W
  o1 : W.ownsRow base 42 5 (.slice la l.length lc) l.length (vpd G (l.flatMap cIN) (idxt la pre))
  o2 : W.ownsRow base 28 2 (.slice ra rows.length rc) rows.length (vpd G (rows.flatMap cLN) (idxt ra pre))
theorem ThS.apart {f : Nat → Prop} {w3 : World} {base : Nat} {la ra : Option Addr} {l : List IN} {rows : List LN} {lc rc : Nat} {G : Int → Int → Int} {pre : List (Int × Addr)} {W : World} (h : ThS f w3 base la ra l rows lc rc G pre W) {g : Nat} (hg : la = some ⟨g, 0, none⟩) : (Value.slice ra rows.length rc).ownBlock ≠ some g := fun hr => by
  subst hg
  obtain ⟨_, _, c1, q1⟩ := own_type h.o1 (k := g) rfl
  obtain ⟨_, _, c2, q2⟩ := own_type h.o2 hr
  rw [q1] at q2
  cases q2
theorem ThS.apart2 {f : Nat → Prop} {w3 : World} {base : Nat} {la ra : Option Addr} {l : List IN} {rows : List LN} {lc rc : Nat} {G : Int → Int → Int} {pre : List (Int × Addr)} {W : World} (h : ThS f w3 base la ra l rows lc rc G pre W) {g : Nat} (hg : ra = some ⟨g, 0, none⟩) : (Value.slice la l.length lc).ownBlock ≠ some g := fun hr => by
  subst hg
  obtain ⟨_, _, c1, q1⟩ := own_type h.o2 (k := g) rfl
  obtain ⟨_, _, c2, q2⟩ := own_type h.o1 hr
  rw [q1] at q2
  cases q2
theorem ThS.step {f : Nat → Prop} {w3 : World} {base : Nat} {la ra : Option Addr} {l : List IN} {rows : List LN} {lc rc : Nat} {G : Int → Int → Int} {pre : List (Int × Addr)} {W : World} (h : ThS f w3 base la ra l rows lc rc G pre W) {x : Int × Addr} (hx : x ∈ nmL la l ra rows) (h1 : 0 < l.length → ∃ g, la = some ⟨g, 0, none⟩) (h2 : 0 < rows.length → ∃ g, ra = some ⟨g, 0, none⟩) (hI1 : AllI (l.flatMap cIN)) (hI2 : AllI (rows.flatMap cLN)) (hG : ∀ o v, oI64 v → oI64 (G o v)) (hf : ∀ g, la.map (·.block) = some g ∨ ra.map (·.block) = some g → ¬ f g) :
    ∃ v, W.cell? x.2 = some (.int .i64 v) ∧ oI64 v ∧ W.frozen? x.2 = false ∧ (G x.1 v = v → ThS f w3 base la ra l rows lc rc G (pre ++ [x]) W) ∧ ThS f w3 base la ra l rows lc rc G (pre ++ [x]) (W.setCell x.2 (.int .i64 (G x.1 v))) ∧ Keep f W (W.setCell x.2 (.int .i64 (G x.1 v))) ∧ (OpC la l W → OpC la l (W.setCell x.2 (.int .i64 (G x.1 v)))) := by
  have A1 := vpd_all hG (idxt la pre) hI1
  have A2 := vpd_all hG (idxt ra pre) hI2
  have n1 : (vpd G (l.flatMap cIN) (idxt la pre)).length = l.length * 5 := h.o1.1
  have n2 : (vpd G (rows.flatMap cLN) (idxt ra pre)).length = rows.length * 2 := h.o2.1
  rcases nm_at hx h1 h2 with ⟨g, k, rfl, ex, hk, hk5⟩ | ⟨g, k, rfl, ex, hk⟩
  · obtain ⟨v, ev, hv⟩ := A1.at (k := k) (by omega)
    obtain ⟨c0, c1⟩ := own_cell0 h.o1 ev
    have hne := h.apart rfl
    have hra : ra.map (·.block) ≠ some x.2.block := fun q => hne (by
      cases ra with
      | none => cases q
      | some a => rw [ex] at q; exact q)
    have e1 : idxt (some ⟨g, 0, none⟩) (pre ++ [x]) = idxt (some ⟨g, 0, none⟩) pre ++ [(k, x.1)] := by rw [idxt_snoc, if_pos (by rw [ex]; rfl), ex]
    have e2 : idxt ra (pre ++ [x]) = idxt ra pre := by rw [idxt_snoc, if_neg hra, List.append_nil]
    have hkp : Keep f W (W.setCell x.2 (.int .i64 (G x.1 v))) := by
      rw [ex]
      exact Keep.setCell _ _ _ (hf g (.inl rfl))
    refine ⟨v, by rw [ex]; exact c0, hv, by rw [ex]; exact c1, fun hn => ⟨h.kp, ?_, by rw [e2]; exact h.o2⟩, ⟨h.kp.trans hkp, ?_, ?_⟩, hkp, fun ho i hi => ?_⟩
    · rw [e1, vpd_snoc, vpd1_at ev, hn, set_same ev]
      exact h.o1
    · rw [e1, vpd_snoc, vpd1_at ev, ex]
      exact own_put0 h.o1 k hk _
    · rw [e2, ex]
      exact own_oth0 h.o2 hne
    · have q := ho i hi
      obtain ⟨u, eu, -⟩ := A1.at (k := i * 5) (by omega)
      have d := (own_cell0 h.o1 eu).1
      have hq : W.cell? ⟨g, i * 5, none⟩ = some (.int .i64 l[i].op) := by simpa [adr] using q
      rw [hq] at d
      have d2 := (own_cell0 (own_put0 h.o1 k hk (.int .i64 (G x.1 v))) (k := i * 5) (u := .int .i64 u) (by rw [List.getElem?_set_ne (by omega)]; exact eu)).1
      rw [ex]
      simpa [adr] using d2.trans d.symm
  · obtain ⟨v, ev, hv⟩ := A2.at (k := k) (by omega)
    obtain ⟨c0, c1⟩ := own_cell0 h.o2 ev
    have hne := h.apart2 rfl
    have hla : la.map (·.block) ≠ some x.2.block := fun q => hne (by
      cases la with
      | none => cases q
      | some a => rw [ex] at q; exact q)
    have e1 : idxt (some ⟨g, 0, none⟩) (pre ++ [x]) = idxt (some ⟨g, 0, none⟩) pre ++ [(k, x.1)] := by rw [idxt_snoc, if_pos (by rw [ex]; rfl), ex]
    have e2 : idxt la (pre ++ [x]) = idxt la pre := by rw [idxt_snoc, if_neg hla, List.append_nil]
    have hkp : Keep f W (W.setCell x.2 (.int .i64 (G x.1 v))) := by
      rw [ex]
      exact Keep.setCell _ _ _ (hf g (.inr rfl))
    refine ⟨v, by rw [ex]; exact c0, hv, by rw [ex]; exact c1, fun hn => ⟨h.kp, by rw [e2]; exact h.o1, ?_⟩, ⟨h.kp.trans hkp, ?_, ?_⟩, hkp, fun ho i hi => ?_⟩
    · rw [e1, vpd_snoc, vpd1_at ev, hn, set_same ev]
      exact h.o2
    · rw [e2, ex]
      exact own_oth0 h.o1 hne
    · rw [e1, vpd_snoc, vpd1_at ev, ex]
      exact own_put0 h.o2 k hk _
    · have q := ho i hi
      obtain ⟨g1, rfl⟩ := h1 (by omega)
      have hgg : g1 ≠ g := fun e => hne (by rw [e]; rfl)
      have hq : W.cell? ⟨g1, i * 5, none⟩ = some (.int .i64 l[i].op) := by simpa [adr] using q
      have hs := Below.heap_setCell W ⟨g, k, none⟩ (.int .i64 (G x.1 v)) g1 hgg
      rw [ex]
      have : (W.setCell ⟨g, k, none⟩ (.int .i64 (G x.1 v))).cell? ⟨g1, i * 5, none⟩ = some (.int .i64 l[i].op) := by
        unfold World.cell? at hq ⊢
        rw [hs]
        exact hq
      simpa [adr] using this
theorem ThS.done {f : Nat → Prop} {w3 : World} {base : Nat} {la ra : Option Addr} {l : List IN} {rows : List LN} {lc rc : Nat} {G : Int → Int → Int} {W : World} (h : ThS f w3 base la ra l rows lc rc G (nmL la l ra rows) W) (h1 : 0 < l.length → ∃ g, la = some ⟨g, 0, none⟩) (h2 : 0 < rows.length → ∃ g, ra = some ⟨g, 0, none⟩) : W.ownsRow base 42 5 (.slice la l.length lc) l.length ((l.map (thI G)).flatMap cIN) ∧ W.ownsRow base 28 2 (.slice ra rows.length rc) rows.length ((rows.map (thL G)).flatMap cLN) := by
  have o1 := h.o1
  have o2 := h.o2
  unfold nmL at o1 o2
  rw [idxt_app] at o1 o2
  constructor
  · cases l with
    | nil => exact ⟨rfl, by
        have e : vpd G ([].flatMap cIN) (idxt la (nmS la []) ++ idxt la (nmR ra rows)) = [] := List.eq_nil_of_length_eq_zero (by rw [vpd_len]; rfl)
        rw [e] at o1
        exact o1.2⟩
    | cons x l' =>
      obtain ⟨g, rfl⟩ := h1 (by simp)
      have hr : idxt (some ⟨g, 0, none⟩) (nmR ra rows) = [] := by
        cases rows with
        | nil => rfl
        | cons y rows' =>
          obtain ⟨g2, rfl⟩ := h2 (by simp)
          refine idt_other fun z hz e => ?_
          have := nmR_blk z hz
          exact h.apart rfl (by rw [← e, this]; rfl)
      rw [hr, List.append_nil, vpdS0] at o1
      exact o1
  · cases rows with
    | nil => exact ⟨rfl, by
        have e : vpd G ([].flatMap cLN) (idxt ra (nmS la l) ++ idxt ra (nmR ra [])) = [] := List.eq_nil_of_length_eq_zero (by rw [vpd_len]; rfl)
        rw [e] at o2
        exact o2.2⟩
    | cons y rows' =>
      obtain ⟨g, rfl⟩ := h2 (by simp)
      have hl : idxt (some ⟨g, 0, none⟩) (nmS la l) = [] := by
        cases l with
        | nil => rfl
        | cons x l' =>
          obtain ⟨g2, rfl⟩ := h1 (by simp)
          refine idt_other fun z hz e => ?_
          have := nmS_blk z hz
          exact h.apart2 rfl (by rw [← e, this]; rfl)
      rw [hl, List.nil_append, vpdR0] at o2
      exact o2
theorem own_ThS {f : Nat → Prop} {w3 : World} {base : Nat} {la ra : Option Addr} {l : List IN} {rows : List LN} {lc rc : Nat} {G : Int → Int → Int} {L : List (Int × Addr)} (hf : ∀ k, f k → k < w3.heap.size) : OwnFrom w3.heap.size (fun (pre : List (XN L)) W => ThS f w3 base la ra l rows lc rc G (pre.map (fun y => y.1)) W) := fun s A B row hs hg hr =>
  ⟨⟨hg.os.trans hs.kp.os, hg.tape.trans hs.kp.tape, hg.output.trans hs.kp.output, Nat.le_trans hs.kp.size hg.size, fun k hk hfk => (hg.block k (Nat.lt_of_lt_of_le hk hs.kp.size) (fun e => by have := (hr k e.symm).1; omega)).trans (hs.kp.block k hk hfk)⟩, own_grown hs.o1 hg (fun r e => (hr r e).2), own_grown hs.o2 hg (fun r e => (hr r e).2)⟩
end Go.Proofs.Ytliohglpbmpbhaa
