/-
  PlanAlong: what is lowered is valid; names do not matter.
  What comes in, opened: strings; and what the bound on it says.
  A table that comes in, opened.
  A table that comes in, opened: fields, symbols, ranges, types.
-/
import Derived.Test.YtbopddnekoocoaaGreatDoorCKW
import Derived.Test.YtbopddnekoocoaaGreatDoorCLQ
import Derived.Test.YtbopddnekoocoaaGreatDoorCKY
import Derived.Test.YtbopddnekoocoaaGreatDoorCTX
import Derived.ProofKit
import Derived.OpenShut
import Derived.ShutString
import Derived.Lib.SmallJoins
import Derived.Deep.Slices
import Derived.Deep.Fields
namespace Go.Proofs.YtbopddnekoocoaaGreatDoor
open Go.RowKit
set_option maxRecDepth 1000000
set_option linter.unusedVariables false
set_option linter.unusedSimpArgs false
set_option maxHeartbeats 1000000
theorem lowPE_ok {l : List TV} (h : goodB l = true) : lowPE l = 0 := by unfold lowPE; rw [if_pos h]
theorem lowPE_no {l : List TV} (h : ¬ goodB l = true) : lowPE l = 18 := by unfold lowPE; rw [if_neg h]
theorem lowP_no {l : List TV} (h : ¬ goodB l = true) : lowP l = [] := by unfold lowP; rw [if_neg h]
theorem lowP_ok {l : List TV} (h : goodB l = true) : lowP l = l.map (fun x => loBK x.t) := by unfold lowP; rw [if_pos h]
/-- A type that was given other names: its lists. -/
structure NwT (W wr : World) (lv : Value) (y : TV) : Prop where
  f : RowS wr (fun b => b < wr.heap.size ∧ lv.ownBlock ≠ some b) 7 y.f y.t.fs.length (y.t.fs.flatMap cFT)
  o : RowS wr (fun b => b < wr.heap.size ∧ lv.ownBlock ≠ some b) 1 y.o y.t.os.length (y.t.os.flatMap cN)
  s : RowS W AnyZ 2 y.s y.t.ss.length (y.t.ss.flatMap cSY)
  r : RowS W AnyZ 2 y.r y.t.rs.length (y.t.rs.flatMap cRG)
theorem Keep.ofBelow0 {B : Nat} {w w' : World} (h : Below B w w') : Keep (fun b => b < B) w w' := ⟨h.os, h.tape, h.output, h.size, fun k _ hk => h.block k hk⟩
theorem oneP {W : World} {b : Nat} {K : BK} {d e r : Value} (B : Blk W b 28 #[d, e, r]) (h : BkR W K d e r) : PgR W (.slice (some ⟨b, 0, none⟩) 1 1) [⟨K, d, e, r⟩] :=
  ⟨rowOf B 3 1 _ rfl rfl (by omega), fun x hx => by simp at hx; subst hx; exact h⟩
theorem planAlongW (w : World) (l : List TV) (ta : Option Addr) (tc : Nat) (h : TbR w (.slice ta l.length tc) l) (hk : ∀ x ∈ l, OkV x) (hnm : ∀ x ∈ l, (x.t.fs.length ≤ 1048576 ∧ x.t.os.length ≤ 1048576) ∧ (∀ f ∈ x.t.fs, f.name.length ≤ 4000000) ∧ ∀ o ∈ x.t.os, o.length ≤ 4000000) (m : Int) (hm : w.cell? ⟨0, 0, none⟩ = some (.int .i64 m)) : Calls Tryz.prog 5 #[.agg #[.slice ta l.length tc]] w fun e w' => e = .returned (.bool true) ∧ Below w.heap.size w w' := by
  have HM : Hid (∀ W, Below w.heap.size w W → W.cell? ⟨0, 0, none⟩ = some (.int .i64 m)) := hid fun W hW => cell_below hm hW
  have HT := hid h
  have HK := hid hk
  have HN := hid hnm
  obtain ⟨_, _, e, hn63⟩ := rowS_sl h.row
  clear e
  have hl63 : (l.length : Int) ≤ 9223372036854775807 := by omega
  clear hm h hk hnm
  go_enter Tryz.func5, Tryz.ntmps5
  go_wp2_with fail
  refine (awakeW _ m (HM.out _ (by exact blBy))).mono ?_
  rintro e w1 ⟨rfl, hb1⟩
  have BT : Hid (Blk w1 w.heap.size 24 #[.slice ta l.length tc]) := hid ((Blk.new _ _ _).kept hb1)
  replace hb1 : Hid (Below w.heap.size w w1) := hid (bl_then (by exact blBy) hb1)
  have xt := BT.out.cellF
  have zt := BT.out.lt
  go_wp2_with fail
  refine (lowerT _ l ta tc (HT.out.kept hb1.out) HK.out m (HM.out _ hb1.out)).mono ?_
  rintro e w2 ⟨pa, pc, xs, rfl, hxs, hlo, hb2⟩
  replace BT := hid (BT.out.kept hb2)
  replace hb1 : Hid (Below w.heap.size w w2) := hid (bl_then hb1.out hb2)
  have HL := hid hlo
  have HX := hid hxs
  clear hb2 hlo hxs xt zt
  have BP : Hid (Blk (w2.alloc (.cells #[.slice pa xs.length pc] 34)) w2.heap.size 34 #[.slice pa xs.length pc]) := hid (Blk.new _ _ _)
  replace BT := hid (BT.out.kept (below_alloc (.cells #[.slice pa xs.length pc] 34)))
  replace hb1 : Hid (Below w.heap.size w (w2.alloc (.cells #[.slice pa xs.length pc] 34))) := hid (bl_alloc hb1.out _)
  replace HL := hid (HL.out.kept (below_alloc (.cells #[.slice pa xs.length pc] 34)))
  by_cases hg : goodB l = true
  case neg =>
    rw [lowPE_no hg]
    obtain rfl : xs = [] := by
      have := HX.out
      rw [lowP_no hg] at this
      simpa using this
    clear hg HX HL
    dsimp only [List.length_nil] at *
    go_wp2
    go_ret
    exact ⟨rfl, hb1.out⟩
  rw [lowPE_ok hg]
  replace HX := hid (by have := HX.out; rw [lowP_ok hg] at this; exact this)
  have hlen := hid (show xs.length = l.length by simpa using congrArg List.length HX.out)
  have hl128 := hid (goodP_len hg)
  have HG := hid hg
  clear hg
  go_wp2_with fail
  generalize w2.alloc (.cells #[.slice pa xs.length pc] 34) = W1 at *
  generalize w2.heap.size = pp at *
  refine (validT W1 xs pa pc HL.out.prog (by have := hlen.out; have := hl128.out; omega) (lowVB HG.out HX.out)).mono ?_
  rintro e W ⟨rfl, hb3⟩
  replace BT := hid (BT.out.kept hb3)
  replace BP := hid (BP.out.kept hb3)
  replace HL := hid (HL.out.prog.kept hb3)
  replace hb1 : Hid (Below w.heap.size w W) := hid (bl_then hb1.out hb3)
  clear hb3
  have q1 : ((xs.length : Int) != (l.length : Int)) = false := by have := hlen.out; simp; omega
  have xt := BT.out.cellF
  have zt := BT.out.lt
  have xp := BP.out.cellF
  have zp := BP.out.lt
  go_wp2
  clear xt zt xp zp q1
  go_loopw [5, 6] (fun lv r wr => ∃ (i : Nat) (la : Option Addr) (lc : Nat) (ys : List TV), lv = .slice la i lc ∧ r = .int .i64 i ∧ i ≤ l.length ∧ Hid (ys.map TV.t = (l.take i).map (fun x => reT x.t)) ∧ Hid (wr.ownsRow W.heap.size 50 6 (.slice la i lc) i (ys.flatMap cTV)) ∧ Hid (∀ y ∈ ys, NwT W wr (.slice la i lc) y) ∧ Hid (Below W.heap.size W wr)) (fun lv r wr => l.length - numAt wr r)
  case atStart => exact ⟨0, none, 0, [], rfl, rfl, by omega, hid rfl, hid (World.ownsRow_nil _ _ _ _), hid (fun y hy => by simp at hy), hid (Below.refl _ _)⟩
  case round =>
    obtain ⟨i, la, lc, ys, rfl, rfl, hi, HYM, HO, HNW, HB⟩ := hrel
    replace BT := hid (BT.out.kept HB.out)
    replace BP := hid (BP.out.kept HB.out)
    have xt := BT.out.cellF
    have zt := BT.out.lt
    by_cases hlt : i < l.length
    · have i1 : (i : Int) < (l.length : Int) := by omega
      have HBW : Hid (Below w.heap.size w wr) := hid (bl_then hb1.out HB.out)
      have HLT := hid (lowerTypeT wr l ta tc (HT.out.kept HBW.out) HK.out m (HM.out _ HBW.out) i)
      rw [lowBK_at HG.out hlt, lowE_ok ⟨HG.out, by omega, by omega⟩] at HLT
      have HTY := hid (HT.out.ty _ (List.getElem_mem hlt))
      have HOK := hid (HK.out _ (List.getElem_mem hlt))
      have HNM := hid (HN.out _ (List.getElem_mem hlt))
      have HTK : Hid ((l.take (i + 1)).map (fun x => reT x.t) = (l.take i).map (fun x => reT x.t) ++ [reT l[i].t]) := hid (by rw [List.take_succ_eq_append_getElem hlt, List.map_append]; rfl)
      have hix : i < xs.length := by have := hlen.out; omega
      have HKI : Hid (xs[i].k = loBK l[i].t) := hid (by
        have := congrArg (fun l => l[i]?) HX.out
        simpa [hix, hlt] using this)
      obtain ⟨pb, po, pda, pdc, pea, pec, pra, prc, epb, hpb, g0, g1, g2, hbk⟩ := pg_at (HL.out.kept HB.out) hix
      rw [HKI.out] at g0 g1 g2 hbk
      subst epb
      obtain ⟨tb, tof, etb, hbl, c0, c1, c2, c3, c4, c5⟩ := row6 (HT.out.kept HBW.out).row hlt
      subst etb
      generalize l[i] = X at *
      have HBK := hid hbk
      clear hbk HKI hix
      go_wp2_with fail
      refine HLT.out.mono ?_
      rintro e w3 ⟨da, dc, ea, ec, ra, rc, rfl, hbo, hb3⟩
      replace BT := hid ((BT.out.kept hb3).kept (below_alloc (.cells #[.slice da (loBK X.t).dec.length dc, .slice ea (loBK X.t).enc.length ec, .slice ra (loBK X.t).rows.length rc] 28)))
      replace BP := hid ((BP.out.kept hb3).kept (below_alloc (.cells #[.slice da (loBK X.t).dec.length dc, .slice ea (loBK X.t).enc.length ec, .slice ra (loBK X.t).rows.length rc] 28)))
      have BQ : Hid (Blk (w3.alloc (.cells #[.slice da (loBK X.t).dec.length dc, .slice ea (loBK X.t).enc.length ec, .slice ra (loBK X.t).rows.length rc] 28)) w3.heap.size 28 #[.slice da (loBK X.t).dec.length dc, .slice ea (loBK X.t).enc.length ec, .slice ra (loBK X.t).rows.length rc]) := hid (Blk.new _ _ _)
      have HB3 : Hid (Below wr.heap.size wr (w3.alloc (.cells #[.slice da (loBK X.t).dec.length dc, .slice ea (loBK X.t).enc.length ec, .slice ra (loBK X.t).rows.length rc] 28))) := hid (bl_alloc hb3 _)
      have HQ1 : Hid (BkR (w3.alloc (.cells #[.slice da (loBK X.t).dec.length dc, .slice ea (loBK X.t).enc.length ec, .slice ra (loBK X.t).rows.length rc] 28)) (loBK X.t) (.slice da (loBK X.t).dec.length dc) (.slice ea (loBK X.t).enc.length ec) (.slice ra (loBK X.t).rows.length rc)) := hid (hbo.row.kept (below_alloc _))
      replace HBK := hid (HBK.out.kept HB3.out)
      replace g0 := cell_below g0 HB3.out
      replace g1 := cell_below g1 HB3.out
      replace g2 := cell_below g2 HB3.out
      replace c0 := cell_below c0 HB3.out
      replace c1 := cell_below c1 HB3.out
      replace c2 := cell_below c2 HB3.out
      replace c3 := cell_below c3 HB3.out
      replace c4 := cell_below c4 HB3.out
      replace c5 := cell_below c5 HB3.out
      clear hbo hb3 xt zt HLT
      have HC : Hid (∀ V b1 b2, Below (w3.alloc (.cells #[.slice da (loBK X.t).dec.length dc, .slice ea (loBK X.t).enc.length ec, .slice ra (loBK X.t).rows.length rc] 28)).heap.size (w3.alloc (.cells #[.slice da (loBK X.t).dec.length dc, .slice ea (loBK X.t).enc.length ec, .slice ra (loBK X.t).rows.length rc] 28)) V → Blk V b1 28 #[.slice da (loBK X.t).dec.length dc, .slice ea (loBK X.t).enc.length ec, .slice ra (loBK X.t).rows.length rc] → Blk V b2 28 #[.slice pda (loBK X.t).dec.length pdc, .slice pea (loBK X.t).enc.length pec, .slice pra (loBK X.t).rows.length prc] → Calls Tryz.prog 16 #[.agg #[.slice (some ⟨b1, 0, none⟩) 1 1], .agg #[.slice (some ⟨b2, 0, none⟩) 1 1]] V fun e w' => e = .returned (.bool true) ∧ Below V.heap.size V w') := hid fun V b1 b2 hV B1 B2 => equalT V [⟨loBK X.t, _, _, _⟩] [⟨loBK X.t, _, _, _⟩] _ _ 1 1 (oneP B1 (HQ1.out.kept hV)) (oneP B2 (HBK.out.kept hV)) rfl
      have q0 := BQ.out.cell 0 _ rfl
      have q1 := BQ.out.cell 1 _ rfl
      have q2 := BQ.out.cell 2 _ rfl
      have p0 := BP.out.cell 0 _ rfl
      have t0 := BT.out.cell 0 _ rfl
      simp only [List.getElem_toArray, List.getElem_cons_succ, List.getElem_cons_zero] at q0 q1 q2 p0 t0
      have hpb3 : pb < w3.heap.size + 1 := by have := HB3.out.size; simp at this; omega
      have htb3 : tb < w3.heap.size + 1 := by have := HB3.out.size; simp at this; omega
      clear HQ1 HBK BQ
      go_upto_region 13 with fail
      generalize (loBK X.t).dec.length = n1 at *
      generalize (loBK X.t).enc.length = n2 at *
      generalize (loBK X.t).rows.length = n3 at *
      generalize w3.alloc (.cells #[.slice da n1 dc, .slice ea n2 ec, .slice ra n3 rc] 28) = Y at *
      generalize w3.heap.size = qb at *
      have HE : Hid (Below Y.heap.size Y Y) := hid (Below.refl _ _)
      have hix2 : (i : Int) < (xs.length : Int) := by have := hlen.out; omega
      go_region_held3 (fun W => W.cell? ⟨qb, 0, none⟩ = some (.slice da n1 dc) ∧ W.cell? ⟨qb, 1, none⟩ = some (.slice ea n2 ec) ∧ W.cell? ⟨qb, 2, none⟩ = some (.slice ra n3 rc) ∧ W.cell? ⟨pp, 0, none⟩ = some (.slice (some ⟨pb, po, none⟩) xs.length pc) ∧ W.cell? ⟨pb, po + i * 3, none⟩ = some (.slice pda n1 pdc) ∧ W.cell? ⟨pb, po + i * 3 + 1, none⟩ = some (.slice pea n2 pec) ∧ W.cell? ⟨pb, po + i * 3 + 2, none⟩ = some (.slice pra n3 prc)) (first | exact ⟨q0, q1, q2, p0, g0, g1, g2⟩ | exact ⟨cell_below q0 (by exact blBy), cell_below q1 (by exact blBy), cell_below q2 (by exact blBy), cell_below p0 (by exact blBy), cell_below g0 (by exact blBy), cell_below g1 (by exact blBy), cell_below g2 (by exact blBy)⟩) (first | (go_at_call 16; refine (HC.out _ _ _ (by exact blBy) (by first | exact Blk.newAt (by simp; done) | exact (Blk.newAt (by simp; done)).kept (below_alloc _) | exact (Blk.newAt (by simp; done)).kept (below_drew1 _) | exact ((Blk.newAt (by simp; done)).kept (below_alloc _)).kept (below_drew1 _)) (by first | exact Blk.newAt (by simp; done) | exact (Blk.newAt (by simp; done)).kept (below_alloc _) | exact (Blk.newAt (by simp; done)).kept (below_drew1 _) | exact ((Blk.newAt (by simp; done)).kept (below_alloc _)).kept (below_drew1 _))).mono ?_; rintro e w5 ⟨rfl, hbx⟩; replace HE : Hid (Below Y.heap.size Y w5) := hid (bl_then (by exact blBy) hbx); replace q0 := cell_below q0 HE.out; replace q1 := cell_below q1 HE.out; replace q2 := cell_below q2 HE.out; replace p0 := cell_below p0 HE.out; replace g0 := cell_below g0 HE.out; replace g1 := cell_below g1 HE.out; replace g2 := cell_below g2 HE.out; clear hbx))
      all_goals
        replace t0 := cell_below t0 HE.out
        replace c0 := cell_below c0 HE.out
        replace c1 := cell_below c1 HE.out
        replace c2 := cell_below c2 HE.out
        replace c3 := cell_below c3 HE.out
        replace c4 := cell_below c4 HE.out
        replace c5 := cell_below c5 HE.out
        have HB5 : Hid (Below wr.heap.size wr w5) := hid (bl_then HB3.out HE.out)
        have HB5S : wr.heap.size ≤ w5.heap.size := HB5.out.size
        clear q0 q1 q2 p0 g0 g1 g2 HB3 HC BP HE hpb hpb3 htb3
        obtain ⟨t, xf, xo, xs0, xr⟩ := X
        dsimp only at *
        obtain ⟨fa, fc, ef, hf63⟩ := rowS_sl HTY.out.f
        obtain ⟨oa, oc, eo, ho63⟩ := rowS_sl HTY.out.o
        obtain ⟨sa, sc, es, -⟩ := rowS_sl HTY.out.s
        obtain ⟨ra1, rc1, er, -⟩ := rowS_sl HTY.out.r
        dsimp only at ef eo es er
        subst ef eo es er
        have htb : tb < w5.heap.size := World.block_lt_of_cell? _ _ c0
        have zt := World.block_lt_of_cell? _ _ t0
        have HB6 : Hid (Below wr.heap.size wr (w5.alloc (.cells #[.string (strOfNums t.name), .bool t.enum, .slice fa t.fs.length fc, .slice oa t.os.length oc, .slice sa t.ss.length sc, .slice ra1 t.rs.length rc1] 50))) := hid (bl_alloc HB5.out _)
        have BX : Hid (Blk (w5.alloc (.cells #[.string (strOfNums t.name), .bool t.enum, .slice fa t.fs.length fc, .slice oa t.os.length oc, .slice sa t.ss.length sc, .slice ra1 t.rs.length rc1] 50)) w5.heap.size 50 #[.string (strOfNums t.name), .bool t.enum, .slice fa t.fs.length fc, .slice oa t.os.length oc, .slice sa t.ss.length sc, .slice ra1 t.rs.length rc1]) := hid (Blk.new _ _ _)
        go_upto_region 16 with fail
        clear c0 c1 c2 c3 c4 c5 t0 zt htb HB5
        have hqx : w5.heap.size < (w5.alloc (.cells #[.string (strOfNums t.name), .bool t.enum, .slice fa t.fs.length fc, .slice oa t.os.length oc, .slice sa t.ss.length sc, .slice ra1 t.rs.length rc1] 50)).heap.size := by simp
        have hwq : wr.heap.size ≤ w5.heap.size := HB5S
        generalize w5.alloc (.cells #[.string (strOfNums t.name), .bool t.enum, .slice fa t.fs.length fc, .slice oa t.os.length oc, .slice sa t.ss.length sc, .slice ra1 t.rs.length rc1] 50) = V at *
        generalize w5.heap.size = qx at *
        have HVW : Hid (Below w.heap.size w V) := hid (bl_then HBW.out HB6.out)
        obtain ⟨a1, d1, x1, R1, O1, G1⟩ := copyApp 52 45 7 64 _ Tryz.underlying45 Tryz.infoFT rfl (by decide) (by decide) V t.fs.length (t.fs.flatMap cFT) fa fc (HTY.out.f.kept HVW.out) (flatN (g := cFT) (K := 7) (fun _ => rfl) _) (cFT_one _) HNM.out.1.1
        have B1 := hid ((BX.out.keep (f := fun b => b < V.heap.size) (Keep.ofBelow0 G1.out) hqx).set 2 (.slice a1 t.fs.length d1))
        replace B1 : Hid (Blk (x1.setCell ⟨qx, 2, none⟩ (.slice a1 t.fs.length d1)) qx 50 #[.string (strOfNums t.name), .bool t.enum, .slice a1 t.fs.length d1, .slice oa t.os.length oc, .slice sa t.ss.length sc, .slice ra1 t.rs.length rc1]) := hid (by have := B1.out; simpa using this)
        have O2 : Hid ((x1.setCell ⟨qx, 2, none⟩ (.slice a1 t.fs.length d1)).ownsRow V.heap.size 52 7 (.slice a1 t.fs.length d1) t.fs.length (rowF t.fs 0)) := hid (by rw [rowF_0]; exact own_set O1.out hqx)
        have K1 : Hid (Keep (fun b => b < V.heap.size ∧ b ≠ qx) V (x1.setCell ⟨qx, 2, none⟩ (.slice a1 t.fs.length d1))) := hid (((Keep.ofBelow0 G1.out).weak (fun k hk => hk.1)).trans (Keep.setCell _ _ _ (fun h => h.2 rfl)))
        have xx := BX.out.cellF
        have zx := BX.out.lt
        have xx1 := (BX.out.keep (f := fun b => b < V.heap.size) (Keep.ofBelow0 G1.out) hqx).cellF
        have zx1 := (BX.out.keep (f := fun b => b < V.heap.size) (Keep.ofBelow0 G1.out) hqx).lt
        have yx1 := (BX.out.keep (f := fun b => b < V.heap.size) (Keep.ofBelow0 G1.out) hqx).frz
        go_wp2_with (first | (at_builtin; refine wpList_append_ran rfl _ _ 45 45 rfl rfl _ _ (.slice a1 t.fs.length d1) x1 rfl rfl R1.out ?_))
        clear xx zx xx1 zx1 yx1 R1 O1 G1 BX
        generalize wr = wo at *
        have hVx : V.heap.size ≤ (x1.setCell ⟨qx, 2, none⟩ (.slice a1 t.fs.length d1)).heap.size := K1.out.size
        generalize x1.setCell ⟨qx, 2, none⟩ (.slice a1 t.fs.length d1) = Z1 at *
        go_loopw [10] (fun r wk => ∃ k : Nat, r = .int .i64 k ∧ k ≤ t.fs.length ∧ Hid (wk.ownsRow V.heap.size 52 7 (.slice a1 t.fs.length d1) t.fs.length (rowF t.fs k)) ∧ Hid (Keep (fun b => b < V.heap.size) Z1 wk)) (fun r wk => t.fs.length - numAt wk r)
        case atStart => exact ⟨0, rfl, by omega, O2, hid (Keep.refl _ _)⟩
        case round =>
          clear O2
          obtain ⟨k, rfl, hkn, OK, KK⟩ := hrel
          have B2 := B1.out.keep KK.out hqx
          by_cases hlk : k < t.fs.length
          · have k1 : (k : Int) < (t.fs.length : Int) := by omega
            obtain ⟨g, eg, hg1, hg2, hgc, hgf, OP⟩ := putFl rfl OK.out hlk
            have HSZ := HNM.out.2.1 _ (List.getElem_mem hlk)
            have HST : Hid ((⟨#[102, 95]⟩ : ByteArray) ++ strOfNums t.fs[k].name = strOfNums (102 :: 95 :: t.fs[k].name)) := hid (str_pre 102 95 _ _ (by decide))
            have hsz : ¬ 9223372036854775807 < 2 + (strOfNums t.fs[k].name).size := by rw [strOfNums_size]; omega
            generalize t.fs[k].name = nm at *
            generalize strOfNums nm = snm at *
            subst eg
            have B2c := B2.cell 2 _ rfl
            simp only [List.getElem_toArray, List.getElem_cons_succ, List.getElem_cons_zero] at B2c
            have B2z := B2.lt
            have hqg : qx ≠ g := by omega
            go_upto_region 20 with fail
            refine wp_region_held_drew (S := fun W => W.cell? ⟨qx, 2, none⟩ = some (.slice (some ⟨g, 0, none⟩) t.fs.length d1)) (by kernel_rfl) ?_ (fun hHeld => ?_)
            · exact B2c
            refine wpAnyH_take (i := 0) (v := ?_) rfl (by kernel_rfl) (by kernel_rfl) (by kernel_rfl) (fun _ _ _ h => h) (Or.inl ⟨by rfl, ?_⟩) (by assumption) ?_
            rotate_left
            · (intro w hSw; (try dsimp only at hSw); go_simp; (try with_reducible rfl))
            try simp only [Act.put, List.getElem_toArray, List.getElem_cons_succ, List.getElem_cons_zero, List.setIfInBounds_toArray, List.set_cons_zero, List.set_cons_succ]
            refine wpAnyH_take (i := 1) (v := ?_) rfl (by kernel_rfl) (by kernel_rfl) (by kernel_rfl) (fun _ _ _ h => h) (Or.inl ⟨by rfl, ?_⟩) (by assumption) ?_
            rotate_left
            · (intro w hSw; (try dsimp only at hSw); go_simp; (try with_reducible rfl))
            try simp only [Act.put, List.getElem_toArray, List.getElem_cons_succ, List.getElem_cons_zero, List.setIfInBounds_toArray, List.set_cons_zero, List.set_cons_succ]
            refine wpAnyH_take (i := 2) (v := ?_) rfl (by kernel_rfl) (by kernel_rfl) (by kernel_rfl) (fun _ _ _ h => h) (Or.inl ⟨by rfl, ?_⟩) (by assumption) ?_
            rotate_left
            · (intro w hSw; (try dsimp only at hSw); go_simp; (try with_reducible rfl))
            try simp only [Act.put, List.getElem_toArray, List.getElem_cons_succ, List.getElem_cons_zero, List.setIfInBounds_toArray, List.set_cons_zero, List.set_cons_succ]
            refine wpAnyH_take (i := 3) (v := ?_) rfl (by kernel_rfl) (by kernel_rfl) (by kernel_rfl) (fun _ _ _ h => h) (Or.inl ⟨by rfl, ?_⟩) (by assumption) ?_
            rotate_left
            · (intro w hSw; (try dsimp only at hSw); go_simp; (try with_reducible rfl))
            try simp only [Act.put, List.getElem_toArray, List.getElem_cons_succ, List.getElem_cons_zero, List.setIfInBounds_toArray, List.set_cons_zero, List.set_cons_succ]
            refine wpAnyH_take (i := 4) (v := ?_) rfl (by kernel_rfl) (by kernel_rfl) (by kernel_rfl) (fun _ _ _ h => h) (Or.inl ⟨by rfl, ?_⟩) (by assumption) ?_
            rotate_left
            · (intro w hSw; (try dsimp only at hSw); go_simp; (try with_reducible rfl))
            try simp only [Act.put, List.getElem_toArray, List.getElem_cons_succ, List.getElem_cons_zero, List.setIfInBounds_toArray, List.set_cons_zero, List.set_cons_succ]
            refine wpAnyH_take (i := 5) (v := ?_) rfl (by kernel_rfl) (by kernel_rfl) (by kernel_rfl) (fun _ _ _ h => h) (Or.inl ⟨by rfl, ?_⟩) (by assumption) ?_
            rotate_left
            · (intro w hSw; (try dsimp only at hSw); go_simp; (try with_reducible rfl))
            try simp only [Act.put, List.getElem_toArray, List.getElem_cons_succ, List.getElem_cons_zero, List.setIfInBounds_toArray, List.set_cons_zero, List.set_cons_succ]
            refine wpAnyH_take (i := 6) (v := ?_) rfl (by kernel_rfl) (by kernel_rfl) (by kernel_rfl) (fun _ _ _ h => h) (Or.inl ⟨by rfl, ?_⟩) (by assumption) ?_
            rotate_left
            · (intro w hSw; (try dsimp only at hSw); go_simp; (try with_reducible rfl))
            try simp only [Act.put, List.getElem_toArray, List.getElem_cons_succ, List.getElem_cons_zero, List.setIfInBounds_toArray, List.set_cons_zero, List.set_cons_succ]
            refine wpAnyH_take (i := 7) (v := ?_) rfl (by kernel_rfl) (by kernel_rfl) (by kernel_rfl) (fun _ _ _ h => h) (Or.inl ⟨by rfl, ?_⟩) (by assumption) ?_
            rotate_left
            · (intro w hSw; (try dsimp only at hSw); go_simp; (try with_reducible rfl))
            try simp only [Act.put, List.getElem_toArray, List.getElem_cons_succ, List.getElem_cons_zero, List.setIfInBounds_toArray, List.set_cons_zero, List.set_cons_succ]
            refine wpAnyH_ready (rs := [8]) (by kernel_rfl) (by simp) ?_
            refine AllReadyH.cons rfl (fun K hK => ?_) AllReadyH.nil
            go_simp
            refine hK.out _ _ ?_ (fun hHeld => ?_)
            · first | exact B2c | exact cellOth B2c hqg
            clear hK K
            try simp only [Act.put, List.getElem_toArray, List.getElem_cons_succ, List.getElem_cons_zero, List.setIfInBounds_toArray, List.set_cons_zero, List.set_cons_succ]
            refine wpAnyH_take (i := 9) (v := ?_) rfl (by kernel_rfl) (by kernel_rfl) (by kernel_rfl) (fun _ _ _ h => h) (Or.inl ⟨by rfl, ?_⟩) (by assumption) ?_
            rotate_left
            · (intro w hSw; (try dsimp only at hSw); go_simp; (try with_reducible rfl))
            try simp only [Act.put, List.getElem_toArray, List.getElem_cons_succ, List.getElem_cons_zero, List.setIfInBounds_toArray, List.set_cons_zero, List.set_cons_succ]
            refine wpAnyH_take (i := 10) (v := ?_) rfl (by kernel_rfl) (by kernel_rfl) (by kernel_rfl) (fun _ _ _ h => h) (Or.inl ⟨by rfl, ?_⟩) (by assumption) ?_
            rotate_left
            · (intro w hSw; (try dsimp only at hSw); go_simp; (try with_reducible rfl))
            try simp only [Act.put, List.getElem_toArray, List.getElem_cons_succ, List.getElem_cons_zero, List.setIfInBounds_toArray, List.set_cons_zero, List.set_cons_succ]
            refine wpAnyH_take (i := 11) (v := ?_) rfl (by kernel_rfl) (by kernel_rfl) (by kernel_rfl) (fun _ _ _ h => h) (Or.inl ⟨by rfl, ?_⟩) (by assumption) ?_
            rotate_left
            · (intro w hSw; (try dsimp only at hSw); go_simp; (try with_reducible rfl))
            try simp only [Act.put, List.getElem_toArray, List.getElem_cons_succ, List.getElem_cons_zero, List.setIfInBounds_toArray, List.set_cons_zero, List.set_cons_succ]
            refine wpAnyH_ready (rs := [12]) (by kernel_rfl) (by simp) ?_
            refine AllReadyH.cons rfl (fun K hK => ?_) AllReadyH.nil
            go_simp
            refine hK.out _ _ ?_ (fun hHeld => ?_)
            · first | exact B2c | exact cellOth B2c hqg
            clear hK K
            try simp only [Act.put, List.getElem_toArray, List.getElem_cons_succ, List.getElem_cons_zero, List.setIfInBounds_toArray, List.set_cons_zero, List.set_cons_succ]
            refine wpAnyH_done (by kernel_rfl) ?_ _
            rw [← HST.out] at OP
            clear HST
            go_wp2
            exact ⟨⟨k + 1, by simp, by omega, hid (own_kept OP.out (below_drew1 _)), hid ((KK.out.trans (Keep.setCell _ _ _ (by show ¬ g < V.heap.size; omega))).trans (Keep.ofBelow (below_drew1 _)))⟩, by simp [numAt]; omega⟩
          · have k1 : ¬ (k : Int) < (t.fs.length : Int) := by omega
            obtain ⟨kk, ekk⟩ : ∃ kk, kk = k := ⟨_, rfl⟩
            have OF : Hid (wr.ownsRow V.heap.size 52 7 (.slice a1 t.fs.length d1) t.fs.length ((t.fs.map reF).flatMap cFT)) := hid (by
              rw [← rowF_end]
              have e : k = t.fs.length := by omega
              rw [← e]
              have := OK.out
              rwa [← e] at this)
            have hwV : wo.heap.size ≤ V.heap.size := HB6.out.size
            have W2 : Hid (Below wo.heap.size wo wr) := hid ((HB6.out.trans (K1.out.below (B := wo.heap.size) hwV (fun q hq => ⟨by omega, by omega⟩))).trans (KK.out.below (B := wo.heap.size) (by omega) (fun q hq => by show q < V.heap.size; omega)))
            have hVa : V.heap.size ≤ wr.heap.size := Nat.le_trans hVx KK.out.size
            have xx := B2.cellF
            have zx := B2.lt
            replace B2 := hid B2
            clear OK KK ekk
            generalize wr = wa at *
            have hqa : qx < wa.heap.size := B2.out.lt
            obtain ⟨a2, d2, x2, R2, O3, G2⟩ := copyApp 9 46 1 16 _ Tryz.underlying46 Tryz.infoST rfl (by decide) (by decide) wa t.os.length (t.os.flatMap cN) oa oc (HTY.out.o.kept (bl_then HBW.out W2.out)) (flatN (g := cN) (K := 1) (fun _ => rfl) _) (cN_one _) HNM.out.1.2
            have B3 := hid ((B2.out.keep (f := fun b => b < wa.heap.size) (Keep.ofBelow0 G2.out) hqa).set 3 (.slice a2 t.os.length d2))
            replace B3 : Hid (Blk (x2.setCell ⟨qx, 3, none⟩ (.slice a2 t.os.length d2)) qx 50 #[.string (strOfNums t.name), .bool t.enum, .slice a1 t.fs.length d1, .slice a2 t.os.length d2, .slice sa t.ss.length sc, .slice ra1 t.rs.length rc1]) := hid (by have := B3.out; simpa using this)
            have O4 : Hid ((x2.setCell ⟨qx, 3, none⟩ (.slice a2 t.os.length d2)).ownsRow wa.heap.size 9 1 (.slice a2 t.os.length d2) t.os.length (rowO t.os 0)) := hid (by rw [rowO_0]; exact own_set O3.out hqa)
            have OF2 : Hid ((x2.setCell ⟨qx, 3, none⟩ (.slice a2 t.os.length d2)).ownsRow V.heap.size 52 7 (.slice a1 t.fs.length d1) t.fs.length ((t.fs.map reF).flatMap cFT)) := hid (own_set (own_kept OF.out G2.out) hqx)
            have hax : wa.heap.size ≤ x2.heap.size := G2.out.size
            have W3 : Hid (Below wo.heap.size wo (x2.setCell ⟨qx, 3, none⟩ (.slice a2 t.os.length d2))) := hid ((W2.out.trans (G2.out.mono (by omega))).trans ((Keep.setCell (f := fun b => b < wo.heap.size) _ _ _ (by show ¬ qx < wo.heap.size; omega)).below (by omega) (fun q hq => hq)))
            have hax2 : wa.heap.size ≤ (x2.setCell ⟨qx, 3, none⟩ (.slice a2 t.os.length d2)).heap.size := by simp [World.setCell]; exact hax
            have xx1 := (B2.out.keep (f := fun b => b < wa.heap.size) (Keep.ofBelow0 G2.out) hqa).cellF
            have zx1 := (B2.out.keep (f := fun b => b < wa.heap.size) (Keep.ofBelow0 G2.out) hqa).lt
            have yx1 := (B2.out.keep (f := fun b => b < wa.heap.size) (Keep.ofBelow0 G2.out) hqa).frz
            have HOFq : Hid (∀ q, (Value.slice a1 t.fs.length d1).ownBlock = some q → q < wa.heap.size) := hid (fun q hq => (own_type OF.out hq).2.1)
            clear OF W2 hax B1 K1 hlk
            go_wp2_with (first | (at_builtin; refine wpList_append_ran rfl _ _ 46 46 rfl rfl _ _ (.slice a2 t.os.length d2) x2 rfl rfl R2.out ?_))
            clear xx zx xx1 zx1 yx1 R2 O3 G2 B2 k1
            generalize x2.setCell ⟨qx, 3, none⟩ (.slice a2 t.os.length d2) = Z2 at *
            go_loopw [11] (fun r wk => ∃ k : Nat, r = .int .i64 k ∧ k ≤ t.os.length ∧ Hid (wk.ownsRow wa.heap.size 9 1 (.slice a2 t.os.length d2) t.os.length (rowO t.os k)) ∧ Hid (Keep (fun b => b < wa.heap.size) Z2 wk)) (fun r wk => t.os.length - numAt wk r)
            case atStart => exact ⟨0, rfl, by omega, O4, hid (Keep.refl _ _)⟩
            case round =>
              clear O4
              obtain ⟨k, rfl, hkn, OK, KK⟩ := hrel
              have B4 := B3.out.keep KK.out hqa
              by_cases hlk : k < t.os.length
              · have k1 : (k : Int) < (t.os.length : Int) := by omega
                obtain ⟨g, eg, hg1, hg2, hgc, hgf, OP⟩ := putOn rfl OK.out hlk
                have HSZ := HNM.out.2.2 _ (List.getElem_mem hlk)
                have HST : Hid ((⟨#[111, 95]⟩ : ByteArray) ++ strOfNums t.os[k] = strOfNums (111 :: 95 :: t.os[k])) := hid (str_pre 111 95 _ _ (by decide))
                have hsz : ¬ 9223372036854775807 < 2 + (strOfNums t.os[k]).size := by rw [strOfNums_size]; omega
                generalize t.os[k] = nm at *
                generalize strOfNums nm = snm at *
                subst eg
                have B4c := B4.cell 3 _ rfl
                simp only [List.getElem_toArray, List.getElem_cons_succ, List.getElem_cons_zero] at B4c
                have B4z := B4.lt
                have hqg : qx ≠ g := by omega
                go_upto_region 25 with fail
                refine wp_region_held_drew (S := fun W => W.cell? ⟨qx, 3, none⟩ = some (.slice (some ⟨g, 0, none⟩) t.os.length d2)) (by kernel_rfl) ?_ (fun hHeld => ?_)
                · exact B4c
                refine wpAnyH_take (i := 0) (v := ?_) rfl (by kernel_rfl) (by kernel_rfl) (by kernel_rfl) (fun _ _ _ h => h) (Or.inl ⟨by rfl, ?_⟩) (by assumption) ?_
                rotate_left
                · (intro w hSw; (try dsimp only at hSw); go_simp; (try with_reducible rfl))
                try simp only [Act.put, List.getElem_toArray, List.getElem_cons_succ, List.getElem_cons_zero, List.setIfInBounds_toArray, List.set_cons_zero, List.set_cons_succ]
                refine wpAnyH_take (i := 1) (v := ?_) rfl (by kernel_rfl) (by kernel_rfl) (by kernel_rfl) (fun _ _ _ h => h) (Or.inl ⟨by rfl, ?_⟩) (by assumption) ?_
                rotate_left
                · (intro w hSw; (try dsimp only at hSw); go_simp; (try with_reducible rfl))
                try simp only [Act.put, List.getElem_toArray, List.getElem_cons_succ, List.getElem_cons_zero, List.setIfInBounds_toArray, List.set_cons_zero, List.set_cons_succ]
                refine wpAnyH_take (i := 2) (v := ?_) rfl (by kernel_rfl) (by kernel_rfl) (by kernel_rfl) (fun _ _ _ h => h) (Or.inl ⟨by rfl, ?_⟩) (by assumption) ?_
                rotate_left
                · (intro w hSw; (try dsimp only at hSw); go_simp; (try with_reducible rfl))
                try simp only [Act.put, List.getElem_toArray, List.getElem_cons_succ, List.getElem_cons_zero, List.setIfInBounds_toArray, List.set_cons_zero, List.set_cons_succ]
                refine wpAnyH_take (i := 3) (v := ?_) rfl (by kernel_rfl) (by kernel_rfl) (by kernel_rfl) (fun _ _ _ h => h) (Or.inl ⟨by rfl, ?_⟩) (by assumption) ?_
                rotate_left
                · (intro w hSw; (try dsimp only at hSw); go_simp; (try with_reducible rfl))
                try simp only [Act.put, List.getElem_toArray, List.getElem_cons_succ, List.getElem_cons_zero, List.setIfInBounds_toArray, List.set_cons_zero, List.set_cons_succ]
                refine wpAnyH_take (i := 4) (v := ?_) rfl (by kernel_rfl) (by kernel_rfl) (by kernel_rfl) (fun _ _ _ h => h) (Or.inl ⟨by rfl, ?_⟩) (by assumption) ?_
                rotate_left
                · (intro w hSw; (try dsimp only at hSw); go_simp; (try with_reducible rfl))
                try simp only [Act.put, List.getElem_toArray, List.getElem_cons_succ, List.getElem_cons_zero, List.setIfInBounds_toArray, List.set_cons_zero, List.set_cons_succ]
                refine wpAnyH_take (i := 5) (v := ?_) rfl (by kernel_rfl) (by kernel_rfl) (by kernel_rfl) (fun _ _ _ h => h) (Or.inl ⟨by rfl, ?_⟩) (by assumption) ?_
                rotate_left
                · (intro w hSw; (try dsimp only at hSw); go_simp; (try with_reducible rfl))
                try simp only [Act.put, List.getElem_toArray, List.getElem_cons_succ, List.getElem_cons_zero, List.setIfInBounds_toArray, List.set_cons_zero, List.set_cons_succ]
                refine wpAnyH_take (i := 6) (v := ?_) rfl (by kernel_rfl) (by kernel_rfl) (by kernel_rfl) (fun _ _ _ h => h) (Or.inl ⟨by rfl, ?_⟩) (by assumption) ?_
                rotate_left
                · (intro w hSw; (try dsimp only at hSw); go_simp; (try with_reducible rfl))
                try simp only [Act.put, List.getElem_toArray, List.getElem_cons_succ, List.getElem_cons_zero, List.setIfInBounds_toArray, List.set_cons_zero, List.set_cons_succ]
                refine wpAnyH_ready (rs := [7]) (by kernel_rfl) (by simp) ?_
                refine AllReadyH.cons rfl (fun K hK => ?_) AllReadyH.nil
                go_simp
                refine hK.out _ _ ?_ (fun hHeld => ?_)
                · first | exact B4c | exact cellOth B4c hqg
                clear hK K
                try simp only [Act.put, List.getElem_toArray, List.getElem_cons_succ, List.getElem_cons_zero, List.setIfInBounds_toArray, List.set_cons_zero, List.set_cons_succ]
                refine wpAnyH_take (i := 8) (v := ?_) rfl (by kernel_rfl) (by kernel_rfl) (by kernel_rfl) (fun _ _ _ h => h) (Or.inl ⟨by rfl, ?_⟩) (by assumption) ?_
                rotate_left
                · (intro w hSw; (try dsimp only at hSw); go_simp; (try with_reducible rfl))
                try simp only [Act.put, List.getElem_toArray, List.getElem_cons_succ, List.getElem_cons_zero, List.setIfInBounds_toArray, List.set_cons_zero, List.set_cons_succ]
                refine wpAnyH_take (i := 9) (v := ?_) rfl (by kernel_rfl) (by kernel_rfl) (by kernel_rfl) (fun _ _ _ h => h) (Or.inl ⟨by rfl, ?_⟩) (by assumption) ?_
                rotate_left
                · (intro w hSw; (try dsimp only at hSw); go_simp; (try with_reducible rfl))
                try simp only [Act.put, List.getElem_toArray, List.getElem_cons_succ, List.getElem_cons_zero, List.setIfInBounds_toArray, List.set_cons_zero, List.set_cons_succ]
                refine wpAnyH_ready (rs := [10]) (by kernel_rfl) (by simp) ?_
                refine AllReadyH.cons rfl (fun K hK => ?_) AllReadyH.nil
                go_simp
                refine hK.out _ _ ?_ (fun hHeld => ?_)
                · first | exact B4c | exact cellOth B4c hqg
                clear hK K
                try simp only [Act.put, List.getElem_toArray, List.getElem_cons_succ, List.getElem_cons_zero, List.setIfInBounds_toArray, List.set_cons_zero, List.set_cons_succ]
                refine wpAnyH_done (by kernel_rfl) ?_ _
                rw [← HST.out] at OP
                clear HST
                go_wp2
                exact ⟨⟨k + 1, by simp, by omega, hid (own_kept OP.out (below_drew1 _)), hid ((KK.out.trans (Keep.setCell _ _ _ (by show ¬ g < wa.heap.size; omega))).trans (Keep.ofBelow (below_drew1 _)))⟩, by simp [numAt]; omega⟩
              · have k1 : ¬ (k : Int) < (t.os.length : Int) := by omega
                have OO : Hid (wr.ownsRow wa.heap.size 9 1 (.slice a2 t.os.length d2) t.os.length ((t.os.map reO).flatMap cN)) := hid (by
                  rw [← rowO_end]
                  have e : k = t.os.length := by omega
                  rw [← e]
                  have := OK.out
                  rwa [← e] at this)
                have OF3 : Hid (wr.ownsRow V.heap.size 52 7 (.slice a1 t.fs.length d1) t.fs.length ((t.fs.map reF).flatMap cFT)) := hid (own_keep OF2.out (f := fun b => b < wa.heap.size) (fun q hq => HOFq.out q hq) KK.out)
                have W4 : Hid (Below wo.heap.size wo wr) := hid (W3.out.trans (KK.out.below (B := wo.heap.size) (by omega) (fun q hq => by show q < wa.heap.size; omega)))
                have xx := B4.cellF
                have zx := B4.lt
                have hyl : ys.length = i := by
                  have := congrArg List.length HYM.out
                  rw [List.length_map, List.length_map, List.length_take] at this
                  omega
                have HOb := hid (own_kept HO.out W4.out)
                have hWo : W.heap.size ≤ wo.heap.size := HB.out.size
                have hob : wo.heap.size ≤ wr.heap.size := W4.out.size
                obtain ⟨a3, d3, x3, R3, O5, G3⟩ := typApp W.heap.size (.slice la i lc) i ys ⟨reT t, .slice a1 t.fs.length d1, .slice a2 t.os.length d2, .slice sa t.ss.length sc, .slice ra1 t.rs.length rc1⟩ wr HOb.out hyl (by omega) (by have := hl128.out; omega) (fun u hu => by simp [cTV] at hu; rcases hu with rfl | rfl | rfl | rfl | rfl | rfl <;> rfl)
                dsimp only at R3
                clear OK KK
                go_wp2_with (first | (at_builtin; refine wpList_append_ran rfl _ _ 22 22 rfl rfl _ _ (.slice a3 (i + 1) d3) x3 rfl rfl R3.out ?_))
                have hbx : wr.heap.size ≤ x3.heap.size := G3.out.size
                have OF4 := own_grow G3.out OF3.out (fun q q1 q2 => own_apart (own_mono OF3.out (show W.heap.size ≤ V.heap.size by omega)) HOb.out (by decide) q1 q2)
                have OO4 := own_grow G3.out OO.out (fun q q1 q2 => own_apart (own_mono OO.out (show W.heap.size ≤ wa.heap.size by omega)) HOb.out (by decide) q1 q2)
                have HWB : Below W.heap.size W x3 := (HB.out.trans (W4.out.mono hWo)).trans (G3.out.below (by omega) (fun q hq => (own_type HOb.out hq).1))
                have HNX : ∀ y ∈ ys ++ [(⟨reT t, .slice a1 t.fs.length d1, .slice a2 t.os.length d2, .slice sa t.ss.length sc, .slice ra1 t.rs.length rc1⟩ : TV)], NwT W x3 (.slice a3 (i + 1) d3) y := by
                  intro y hy
                  rcases List.mem_append.1 hy with hy | hy
                  · have h := HNW.out y hy
                    have kp : Keep (fun b => b < wo.heap.size ∧ (Value.slice la i lc).ownBlock ≠ some b) wo x3 := (Keep.ofBelow W4.out).trans (Keep.ofGrow G3.out (fun q hq => hq.2))
                    have zz : ∀ q, (q < wo.heap.size ∧ (Value.slice la i lc).ownBlock ≠ some q) → (q < x3.heap.size ∧ (Value.slice a3 (i + 1) d3).ownBlock ≠ some q) := fun q hq => ⟨by omega, fun e => by
                      rcases G3.out.own with e1 | e1
                      · exact hq.2 (e1.symm.trans e)
                      · have := e1 q e; omega⟩
                    exact ⟨(h.f.keep kp (fun q hq => hq)).weak zz, (h.o.keep kp (fun q hq => hq)).weak zz, h.s, h.r⟩
                  · rw [List.mem_singleton] at hy
                    subst hy
                    refine ⟨?_, ?_, HTY.out.s.kept hb1.out, HTY.out.r.kept hb1.out⟩
                    · show RowS x3 _ 7 (.slice a1 t.fs.length d1) (t.fs.map reF).length ((t.fs.map reF).flatMap cFT)
                      rw [List.length_map]
                      exact own_row OF4 (fun q hq => ⟨(own_type OF4 hq).2.1, own_apart (own_mono OF4 (show W.heap.size ≤ V.heap.size by omega)) O5.out (by decide) hq⟩)
                    · show RowS x3 _ 1 (.slice a2 t.os.length d2) (t.os.map reO).length ((t.os.map reO).flatMap cN)
                      rw [List.length_map]
                      exact own_row OO4 (fun q hq => ⟨(own_type OO4 hq).2.1, own_apart (own_mono OO4 (show W.heap.size ≤ wa.heap.size by omega)) O5.out (by decide) hq⟩)
                exact ⟨⟨i + 1, a3, d3, ys ++ [_], rfl, by simp, by omega, hid (by rw [List.map_append, HYM.out, HTK.out]; rfl), O5, hid HNX, hid HWB⟩, by simp [numAt]; omega⟩
    · have i1 : ¬ (i : Int) < (l.length : Int) := by omega
      have ei : i = l.length := by omega
      subst ei
      have hym : ys.map TV.t = l.map (fun x => reT x.t) := by have := HYM.out; rwa [List.take_length] at this
      have hyl : ys.length = l.length := by simpa using congrArg List.length hym
      have hTb : TbR wr (.slice la ys.length lc) ys := by
        refine ⟨?_, fun y hy => ⟨(HNW.out y hy).f.weak (fun _ _ => trivial), (HNW.out y hy).o.weak (fun _ _ => trivial), (HNW.out y hy).s.kept HB.out, (HNW.out y hy).r.kept HB.out⟩⟩
        rw [hyl]
        exact own_row HO.out (fun _ _ => trivial)
      have hOk : ∀ y ∈ ys, OkV y := fun y hy => by
        have h1 : y.t ∈ l.map (fun x => reT x.t) := by rw [← hym]; exact List.mem_map_of_mem hy
        obtain ⟨x, hx, ex⟩ := List.mem_map.1 h1
        have k1 := HK.out x hx
        have k2 := HN.out x hx
        have tx : ∀ (p : Int) (n : List Int), 0 ≤ p ∧ p ≤ 255 → TxA n → n.length ≤ 4000000 → TxA (p :: 95 :: n) := fun p n hp hn hl => ⟨fun c hc => by
          simp only [List.mem_cons] at hc
          rcases hc with rfl | rfl | hc
          · exact hp
          · omega
          · exact hn.1 c hc, by simp; omega⟩
        refine ⟨?_, ?_, ?_⟩
        · rw [← ex]
          refine ⟨k1.ok.nm, fun f hf => ?_, fun o ho => ?_, k1.ok.ss⟩
          · obtain ⟨f', hf', rfl⟩ := List.mem_map.1 hf
            exact tx 102 f'.name (by omega) (k1.ok.fs f' hf') (k2.2.1 f' hf')
          · obtain ⟨o', ho', rfl⟩ := List.mem_map.1 ho
            exact tx 111 o' (by omega) (k1.ok.os o' ho') (k2.2.2 o' ho')
        · rw [← ex]
          exact k1.nl
        · rw [← ex]
          show (x.t.fs.map reF).length + (x.t.os.map reO).length + x.t.rs.length ≤ _
          rw [List.length_map, List.length_map]
          exact k1.sz
      have HLW := hid (lowerT wr ys la lc hTb hOk m (HM.out _ (bl_then hb1.out HB.out)))
      rw [lowP_rn hym HG.out, lowPE_ok (goodB_rn hym HG.out), lowP_ok HG.out, hyl] at HLW
      have HL2 := hid (HL.out.kept HB.out)
      have BW := hid (bl_then hb1.out HB.out)
      clear hTb hOk hym hyl HNW HO HYM HL HB
      go_wp2_with fail
      refine HLW.out.mono ?_
      rintro e w6 ⟨qa, qc, zs, rfl, hzs, hlo, hb6⟩
      have HZ := hid (hlo.prog.kept (below_alloc (.cells #[.slice qa zs.length qc] 34)))
      replace HL2 := hid ((HL2.out.kept hb6).kept (below_alloc (.cells #[.slice qa zs.length qc] 34)))
      replace BP := hid ((BP.out.kept hb6).kept (below_alloc (.cells #[.slice qa zs.length qc] 34)))
      have BZ : Hid (Blk (w6.alloc (.cells #[.slice qa zs.length qc] 34)) w6.heap.size 34 #[.slice qa zs.length qc]) := hid (Blk.new _ _ _)
      replace BW : Hid (Below w.heap.size w (w6.alloc (.cells #[.slice qa zs.length qc] 34))) := hid (bl_alloc (bl_then BW.out hb6) _)
      have HE1 := hid (HX.out.trans hzs.symm)
      clear hb6 hlo hzs HLW
      have xp := BP.out.cellF
      have zp := BP.out.lt
      go_wp2_with fail
      refine (equalT _ xs zs pa qa pc qc HL2.out HZ.out HE1.out).mono ?_
      rintro e w7 ⟨rfl, hb7⟩
      replace HL2 := hid (HL2.out.kept hb7)
      replace BP := hid (BP.out.kept hb7)
      replace BW := hid (bl_then BW.out hb7)
      clear HZ BZ hb7
      have xp2 := BP.out.cellF
      have zp2 := BP.out.lt
      go_wp2_with fail
      refine (equalT _ xs xs pa pa pc pc HL2.out HL2.out rfl).mono ?_
      rintro e w8 ⟨rfl, hb8⟩
      replace BW := hid (bl_then BW.out hb8)
      go_wp2
      go_ret
      exact ⟨rfl, BW.out⟩
end Go.Proofs.YtbopddnekoocoaaGreatDoor
namespace Go.Proofs.YtbopddnekoocoaaGreatDoor
open Go.ChangeShapes Go.WideShapes Go.ChangeAt Go.RowKit Go.Deep
set_option maxRecDepth 1000000
section
variable {H : Type}
theorem bulk_one (d : DataW H) : 1 ≤ Rows.uptoBulk d := by
  cases d with
  | lit l => cases l <;> simp [Rows.uptoBulk]
  | nil => simp [Rows.uptoBulk]
  | ptr d => simp [Rows.uptoBulk]
  | slice elems spare => simp [Rows.uptoBulk]
  | agg parts => simp [Rows.uptoBulk]
  | iface t d => simp [Rows.uptoBulk]
  | map entries => simp [Rows.uptoBulk]
  | held h => simp [Rows.uptoBulk]
theorem bulk_length (l : List (DataW H)) : l.length ≤ Rows.uptoBulkAll l := by
  induction l with
  | nil => simp [Rows.uptoBulkAll]
  | cons x r ih => have := bulk_one x; simp only [Rows.uptoBulkAll, List.length_cons]; omega
theorem small_le {l : List (DataW H)} (hk : Rows.uptoSmall H l = true) : Rows.uptoBulkAll l ≤ 1048576 := of_decide_eq_true hk
end
/-- The numbers of a string's bytes. -/
def numsS (s : ByteArray) : List Int := s.data.toList.map fun b => (b.toNat : Int)
theorem numsS_str (s : ByteArray) : strOfNums (numsS s) = s := by
  apply ByteArray.ext
  apply Array.ext'
  simp [strOfNums, numsS, Function.comp_def]
theorem numsS_bd (s : ByteArray) : ∀ x ∈ numsS s, 0 ≤ x ∧ x ≤ 255 := by
  intro x hx
  obtain ⟨b, _, rfl⟩ := List.mem_map.1 hx
  have := b.toNat_lt
  omega
theorem numsS_len (s : ByteArray) : (numsS s).length = s.data.toList.length := by simp [numsS]
end Go.Proofs.YtbopddnekoocoaaGreatDoor
namespace Go.Proofs.YtbopddnekoocoaaGreatDoor
open Go.ChangeShapes Go.WideShapes Go.ChangeAt Go.RowKit Go.Deep
set_option maxRecDepth 1000000
set_option linter.unusedVariables false
set_option linter.unusedSimpArgs false
set_option maxHeartbeats 1000000
section
variable {H : Type} {enc : TypeId × Value → H} {W : World} {spare : Nat → Bool} {held : Bool}
/-- A struct of fields of one cell each, opened. -/
theorem struct_open {t : TypeId} {fs : Array Field} (ht : Tryz.prog.underlying t = some (.struct fs)) (hone : oneCellFields Tryz.prog fs = true) (hsz : Tryz.prog.cellsOf t = fs.size) {fuel : Nat} {cs : List Value} {y : DataW H × List MemPlace} (h : DataW.trod enc Tryz.prog W 0 spare held fuel t cs = some y) :
    ∃ (xs : List (DataW H × List MemPlace)) (n : Nat), y.1 = .agg (xs.map (·.1)) ∧ xs.length = fs.size ∧ cs.length = fs.size ∧ ∀ (i : Nat) (f : Field), fs[i]? = some f → ∃ v yi, cs[i]? = some v ∧ xs[i]? = some yi ∧ DataW.trod enc Tryz.prog W 0 spare held n f.type [v] = some yi := by
  obtain ⟨xs, n, _, rfl, hl, hlen, hf⟩ := DataW.trod_struct ht h
  refine ⟨xs, n, rfl, hlen, hl.trans hsz, fun i f hi => ?_⟩
  have hlt : i < fs.size := (Array.getElem?_eq_some_iff.1 hi).1
  obtain ⟨o1, o2⟩ := hone_of hone i f hi
  have hc : i < cs.length := by omega
  have hx : i < xs.length := by omega
  refine ⟨cs[i], xs[i], by simp [hc], by simp [hx], ?_⟩
  have := hf i f hi
  have e : (cs.drop i).take 1 = [cs[i]] := by rw [List.drop_eq_getElem_cons hc]; rfl
  rw [o1, o2, e] at this
  rw [this]
  simp [hx]
theorem bulk_mem {l : List (DataW H)} {d : DataW H} (h : d ∈ l) : Rows.uptoBulk d ≤ Rows.uptoBulkAll l := by
  induction l with
  | nil => cases h
  | cons x r ih =>
    simp only [Rows.uptoBulkAll]
    rcases List.mem_cons.1 h with rfl | h
    · omega
    · have := ih h; omega
theorem bulk_get {xs : List (DataW H × List MemPlace)} {i : Nat} {y : DataW H × List MemPlace} (h : xs[i]? = some y) : Rows.uptoBulk y.1 + 1 ≤ Rows.uptoBulk (DataW.agg (xs.map (·.1))) := by
  have := bulk_mem (l := xs.map (·.1)) (d := y.1) (List.mem_map.2 ⟨y, List.mem_of_getElem? h, rfl⟩)
  simp only [Rows.uptoBulk]
  omega
/-- A row of structs, opened. -/
theorem rows_open {α : Type} (g : α → List Value) (K : Nat) (hK0 : 0 < K) (Q : α → DataW H → Prop) {t e : TypeId} (ht : Tryz.prog.underlying t = some (.slice e)) (hK : Tryz.prog.cellsOf e = K) (hg : ∀ x, (g x).length = K)
    (hel : ∀ (n : Nat) (cs : List Value) (y : DataW H × List MemPlace), DataW.trod enc Tryz.prog W 0 spare held n e cs = some y → ∃ x, cs = g x ∧ Q x y.1) {fuel : Nat} {v : Value} {y : DataW H × List MemPlace} (hf : DataW.trod enc Tryz.prog W 0 spare held fuel t [v] = some y) :
    ∃ (a : Option Addr) (cap : Nat) (xs : List α), v = .slice a xs.length cap ∧ RowS W AnyZ K v xs.length (xs.flatMap g) ∧ xs.length + 1 ≤ Rows.uptoBulk y.1 ∧ ∀ x ∈ xs, ∃ d, Q x d ∧ Rows.uptoBulk d ≤ Rows.uptoBulk y.1 := by
  rcases open_slice ht hf with ⟨hcs, rfl⟩ | ⟨a, len, cap, m, n, D, Pl, hcs, _, hl, hm, hmm, rfl, hx⟩
  · simp at hcs
    subst hcs
    exact ⟨none, 0, [], rfl, rowS_nil _ _ _, by simp [Rows.uptoBulk], fun x hx => by cases hx⟩
  · simp at hcs
    subst hcs
    rw [hK] at hx
    have hlm : len ≤ m := by rw [hmm]; split <;> omega
    have hc : ∀ i, i < len → ∃ x : α, W.cells? 0 (a.add (i * K)) K = some (g x) ∧ Q x (D i) := fun i hi => by
      obtain ⟨cs', h1, h2⟩ := hx i (by omega)
      obtain ⟨x, rfl, hq⟩ := hel _ _ _ h2
      exact ⟨x, h1, hq⟩
    obtain ⟨xs, hxl, hxs⟩ : ∃ xs : List α, xs.length = len ∧ ∀ i (h : i < xs.length), W.cells? 0 (a.add (i * K)) K = some (g xs[i]) ∧ Q xs[i] (D i) := by
      clear hx hl hlm hmm hf
      induction len with
      | zero => exact ⟨[], rfl, fun i h => by simp at h⟩
      | succ k ih =>
        obtain ⟨xs, h1, h2⟩ := ih (fun i hi => hc i (by omega))
        obtain ⟨x, h3, h4⟩ := hc k (by omega)
        refine ⟨xs ++ [x], by simp [h1], fun i h => ?_⟩
        by_cases e : i < xs.length
        · rw [List.getElem_append_left e]; exact h2 i e
        · have ei : i = k := by simp at h; omega
          subst ei
          rw [List.getElem_append_right (by omega)]
          simp [h1, h3, h4]
    subst hxl
    have hb : ∀ i, i < xs.length → D i ∈ (List.range xs.length).map D := fun i hi => List.mem_map.2 ⟨i, List.mem_range.2 hi, rfl⟩
    refine ⟨some a, cap, xs, rfl, ⟨some a, cap, rfl, flatM_len hg xs, hl, by unfold maxLen at hm; omega, ?_⟩, ?_, fun x hxm => ?_⟩
    · by_cases h0 : xs.length = 0
      · exact .inl ⟨h0, fun e => by cases e⟩
      · obtain ⟨b, off, spot⟩ := a
        have hspot : spot = none := by
          have h1 := (World.cells?_some (hxs 0 (by omega)).1).2.2 0 hK0
          have h2 : (g xs[0])[0]? = some ((g xs[0])[0]'(by rw [hg]; exact hK0)) := by simp
          rw [h2] at h1
          simpa [Addr.add] using World.cell?_spot h1
        subst hspot
        refine .inr ⟨b, off, rfl, trivial, fun j u hu => ?_⟩
        have hj : j < xs.length * K := by rw [← flatM_len hg xs]; exact (List.getElem?_eq_some_iff.1 hu).1
        have hi : j / K < xs.length := (Nat.div_lt_iff_lt_mul hK0).2 hj
        have hr : j % K < K := Nat.mod_lt _ hK0
        have hjj : j / K * K + j % K = j := by rw [Nat.mul_comm]; exact Nat.div_add_mod j K
        have h2 : (g xs[j / K])[j % K]? = some ((g xs[j / K])[j % K]'(by rw [hg]; exact hr)) := by simp
        have h3 := flatM_get hg xs (j / K) (j % K) xs[j / K] _ (by simp [hi]) h2
        rw [hjj] at h3
        rw [h3] at hu
        have h1 := (World.cells?_some (hxs (j / K) hi).1).2.2 (j % K) hr
        have hadd : ((⟨b, off, none⟩ : Addr).add (j / K * K)).add (j % K) = ⟨b, off + j, none⟩ := by
          have e1 : ∀ (o i : Nat), (⟨b, o, none⟩ : Addr).add i = ⟨b, o + i, none⟩ := fun o i => by unfold Addr.add; split <;> simp_all
          rw [e1, e1, Nat.add_assoc, hjj]
        rw [hadd, h2] at h1
        rw [h1]
        exact hu
    · simp only [Rows.uptoBulk]
      have := bulk_length ((List.range xs.length).map D)
      simp at this
      omega
    · obtain ⟨i, hi, rfl⟩ := List.mem_iff_getElem.1 hxm
      refine ⟨D i, (hxs i hi).2, ?_⟩
      have := bulk_mem (hb i hi)
      simp only [Rows.uptoBulk]
      omega
/-- What a text that was read is. -/
def okX (b : Nat) (x : List Int) : Prop := TxA x ∧ x.length + 1 ≤ b
theorem str_open {n : Nat} {v : Value} {y : DataW H × List MemPlace} (h : DataW.trod enc Tryz.prog W 0 spare held n 9 [v] = some y) : ∃ x : List Int, v = .string (strOfNums x) ∧ okX (Rows.uptoBulk y.1) x := by
  obtain ⟨s, e, rfl, hs⟩ := DataW.trod_string Tryz.underlying9 h
  simp at e
  subst e
  refine ⟨numsS s, by rw [numsS_str], ⟨numsS_bd s, ?_⟩, ?_⟩
  · rw [numsS_len]
    unfold maxLen at hs
    simpa using hs
  · rw [numsS_len]
    simp [Rows.uptoBulk]
theorem int_open {n : Nat} {v : Value} {y : DataW H × List MemPlace} (h : DataW.trod enc Tryz.prog W 0 spare held n 3 [v] = some y) : ∃ x : Int, v = .int .i64 x ∧ I64 x := by
  obtain ⟨x, e, rfl, hs⟩ := DataW.trod_int Tryz.underlying3 h
  simp at e
  subst e
  refine ⟨x, rfl, ?_⟩
  unfold I64
  simp [Lit.wf, IntKind.min, IntKind.max, IntKind.signed, IntKind.bits] at hs
  omega
end
end Go.Proofs.YtbopddnekoocoaaGreatDoor
namespace Go.Proofs.YtbopddnekoocoaaGreatDoor
open Go.ChangeShapes Go.WideShapes Go.ChangeAt Go.RowKit Go.Deep
set_option maxRecDepth 1000000
set_option linter.unusedVariables false
set_option linter.unusedSimpArgs false
set_option maxHeartbeats 1000000
theorem fieldsF : ∃ f0 f1 f2 f3 f4 f5 f6, Tryz.prog.underlying 52 = some (.struct #[f0, f1, f2, f3, f4, f5, f6]) ∧ oneCellFields Tryz.prog #[f0, f1, f2, f3, f4, f5, f6] = true ∧ Tryz.prog.cellsOf 52 = 7 ∧ f0.type = 9 ∧ f1.type = 3 ∧ f2.type = 3 ∧ f3.type = 3 ∧ f4.type = 3 ∧ f5.type = 3 ∧ f6.type = 3 :=
  ⟨_, _, _, _, _, _, _, Tryz.underlying52, by kernel_rfl, by kernel_rfl, by kernel_rfl, by kernel_rfl, by kernel_rfl, by kernel_rfl, by kernel_rfl, by kernel_rfl, by kernel_rfl⟩
theorem fieldsS : ∃ f0 f1, Tryz.prog.underlying 63 = some (.struct #[f0, f1]) ∧ oneCellFields Tryz.prog #[f0, f1] = true ∧ Tryz.prog.cellsOf 63 = 2 ∧ f0.type = 9 ∧ f1.type = 3 :=
  ⟨_, _, Tryz.underlying63, by kernel_rfl, by kernel_rfl, by kernel_rfl, by kernel_rfl⟩
theorem fieldsR : ∃ f0 f1, Tryz.prog.underlying 83 = some (.struct #[f0, f1]) ∧ oneCellFields Tryz.prog #[f0, f1] = true ∧ Tryz.prog.cellsOf 83 = 2 ∧ f0.type = 3 ∧ f1.type = 3 :=
  ⟨_, _, Tryz.underlying83, by kernel_rfl, by kernel_rfl, by kernel_rfl, by kernel_rfl⟩
theorem fieldsT : ∃ f0 f1 f2 f3 f4 f5, Tryz.prog.underlying 50 = some (.struct #[f0, f1, f2, f3, f4, f5]) ∧ oneCellFields Tryz.prog #[f0, f1, f2, f3, f4, f5] = true ∧ Tryz.prog.cellsOf 50 = 6 ∧ f0.type = 9 ∧ f1.type = 4 ∧ f2.type = 45 ∧ f3.type = 46 ∧ f4.type = 47 ∧ f5.type = 48 :=
  ⟨_, _, _, _, _, _, Tryz.underlying50, by kernel_rfl, by kernel_rfl, by kernel_rfl, by kernel_rfl, by kernel_rfl, by kernel_rfl, by kernel_rfl, by kernel_rfl⟩
theorem list_eq {cs : List Value} : ∀ (l : List Value), cs.length = l.length → (∀ (i : Nat) (v : Value), l[i]? = some v → cs[i]? = some v) → cs = l := fun l hl h => by
  apply List.ext_getElem? 
  intro i
  by_cases hi : i < l.length
  · rw [h i l[i] (by simp [hi])]; simp [hi]
  · rw [List.getElem?_eq_none (by omega), List.getElem?_eq_none (by omega)]
section
variable {H : Type} {enc : TypeId × Value → H} {W : World} {spare : Nat → Bool} {held : Bool}
theorem ft_open (n : Nat) (cs : List Value) (y : DataW H × List MemPlace) (h : DataW.trod enc Tryz.prog W 0 spare held n 52 cs = some y) : ∃ x : FT, cs = cFT x ∧ okX (Rows.uptoBulk y.1) x.name := by
  obtain ⟨f0, f1, f2, f3, f4, f5, f6, hs, hone, hsz, t0, t1, t2, t3, t4, t5, t6⟩ := fieldsF
  obtain ⟨xs, m, hy, hxl, hcl, hi⟩ := struct_open hs hone hsz h
  obtain ⟨v0, y0, c0, x0, h0⟩ := hi 0 f0 rfl
  rw [t0] at h0
  obtain ⟨v1, y1, c1, x1, h1⟩ := hi 1 f1 rfl
  rw [t1] at h1
  obtain ⟨v2, y2, c2, x2, h2⟩ := hi 2 f2 rfl
  rw [t2] at h2
  obtain ⟨v3, y3, c3, x3, h3⟩ := hi 3 f3 rfl
  rw [t3] at h3
  obtain ⟨v4, y4, c4, x4, h4⟩ := hi 4 f4 rfl
  rw [t4] at h4
  obtain ⟨v5, y5, c5, x5, h5⟩ := hi 5 f5 rfl
  rw [t5] at h5
  obtain ⟨v6, y6, c6, x6, h6⟩ := hi 6 f6 rfl
  rw [t6] at h6
  obtain ⟨a0, rfl, k0⟩ := str_open h0
  obtain ⟨a1, rfl, k1⟩ := int_open h1
  obtain ⟨a2, rfl, k2⟩ := int_open h2
  obtain ⟨a3, rfl, k3⟩ := int_open h3
  obtain ⟨a4, rfl, k4⟩ := int_open h4
  obtain ⟨a5, rfl, k5⟩ := int_open h5
  obtain ⟨a6, rfl, k6⟩ := int_open h6
  refine ⟨⟨a0, a1, a2, a3, a4, a5, a6⟩, list_eq _ (by rw [hcl]; rfl) fun i v hv => ?_, k0.1, ?_⟩
  · match i, hv with
    | 0, hv => simp [cFT] at hv; subst hv; exact c0
    | 1, hv => simp [cFT] at hv; subst hv; exact c1
    | 2, hv => simp [cFT] at hv; subst hv; exact c2
    | 3, hv => simp [cFT] at hv; subst hv; exact c3
    | 4, hv => simp [cFT] at hv; subst hv; exact c4
    | 5, hv => simp [cFT] at hv; subst hv; exact c5
    | 6, hv => simp [cFT] at hv; subst hv; exact c6
    | i + 7, hv => simp [cFT] at hv
  · have := bulk_get x0
    rw [hy]
    have := k0.2
    dsimp only
    omega
theorem sy_open (n : Nat) (cs : List Value) (y : DataW H × List MemPlace) (h : DataW.trod enc Tryz.prog W 0 spare held n 63 cs = some y) : ∃ x : SY, cs = cSY x ∧ (okX (Rows.uptoBulk y.1) x.name ∧ I64 x.num) := by
  obtain ⟨f0, f1, hs, hone, hsz, t0, t1⟩ := fieldsS
  obtain ⟨xs, m, hy, hxl, hcl, hi⟩ := struct_open hs hone hsz h
  obtain ⟨v0, y0, c0, x0, h0⟩ := hi 0 f0 rfl
  rw [t0] at h0
  obtain ⟨v1, y1, c1, x1, h1⟩ := hi 1 f1 rfl
  rw [t1] at h1
  obtain ⟨a0, rfl, k0⟩ := str_open h0
  obtain ⟨a1, rfl, k1⟩ := int_open h1
  refine ⟨⟨a0, a1⟩, list_eq _ (by rw [hcl]; rfl) fun i v hv => ?_, ⟨k0.1, ?_⟩, k1⟩
  · match i, hv with
    | 0, hv => simp [cSY] at hv; subst hv; exact c0
    | 1, hv => simp [cSY] at hv; subst hv; exact c1
    | i + 2, hv => simp [cSY] at hv
  · have := bulk_get x0
    rw [hy]
    have := k0.2
    dsimp only
    omega
theorem rg_open (n : Nat) (cs : List Value) (y : DataW H × List MemPlace) (h : DataW.trod enc Tryz.prog W 0 spare held n 83 cs = some y) : ∃ x : RG, cs = cRG x ∧ True := by
  obtain ⟨f0, f1, hs, hone, hsz, t0, t1⟩ := fieldsR
  obtain ⟨xs, m, hy, hxl, hcl, hi⟩ := struct_open hs hone hsz h
  obtain ⟨v0, y0, c0, x0, h0⟩ := hi 0 f0 rfl
  rw [t0] at h0
  obtain ⟨v1, y1, c1, x1, h1⟩ := hi 1 f1 rfl
  rw [t1] at h1
  obtain ⟨a0, rfl, k0⟩ := int_open h0
  obtain ⟨a1, rfl, k1⟩ := int_open h1
  refine ⟨⟨a0, a1⟩, list_eq _ (by rw [hcl]; rfl) fun i v hv => ?_, trivial⟩
  match i, hv with
  | 0, hv => simp [cRG] at hv; subst hv; exact c0
  | 1, hv => simp [cRG] at hv; subst hv; exact c1
  | i + 2, hv => simp [cRG] at hv
theorem st_open (n : Nat) (cs : List Value) (y : DataW H × List MemPlace) (h : DataW.trod enc Tryz.prog W 0 spare held n 9 cs = some y) : ∃ x : List Int, cs = cN x ∧ okX (Rows.uptoBulk y.1) x := by
  obtain ⟨s, e, _⟩ := DataW.trod_string Tryz.underlying9 h
  subst e
  obtain ⟨x, e, k⟩ := str_open h
  exact ⟨x, by rw [e]; rfl, k⟩
theorem fieldsB : ∃ f0, Tryz.prog.underlying 24 = some (.struct #[f0]) ∧ oneCellFields Tryz.prog #[f0] = true ∧ Tryz.prog.cellsOf 24 = 1 ∧ Tryz.prog.underlying f0.type = some (.slice 50) :=
  ⟨_, Tryz.underlying24, by kernel_rfl, by kernel_rfl, by kernel_rfl⟩
end
end Go.Proofs.YtbopddnekoocoaaGreatDoor
