/-
  The document's Settle, where that of the messages within is known.
-/
import Derived.Test.YtnfdlnelfnigdaaGreatDoorCBR
import Derived.Deep.RegionHeld3
import Derived.Deep.CutRange
namespace Go.Proofs.YtnfdlnelfnigdaaGreatDoor
open Go.RowKit
set_option maxRecDepth 1000000
set_option linter.unusedVariables false
set_option linter.unusedSimpArgs false
set_option maxHeartbeats 3000000
theorem isDefD (w : World) (n : Int) (ba ma : Option Addr) (bn bc mn mc : Nat) (l1 : bn ≤ 4000000) (l2 : mn ≤ 4000000) : Calls Tryz.prog 46 #[.agg #[.int .u64 n, .slice ba bn bc, .slice ma mn mc]] w fun e w' => e = .returned (.bool ((n == 0) && (((bn : Int) == 0) && ((mn : Int) == 0)))) ∧ Below w.heap.size w w' := by
  have m1 : (bn : Int) ≤ 9223372036854775807 := by omega
  have m2 : (mn : Int) ≤ 9223372036854775807 := by omega
  go_enter Tryz.func46, Tryz.ntmps46
  go_wp2
  all_goals (go_ret; exact ⟨ret_bool (by simp [*, Bool.and_assoc]), by exact blBy⟩)
def StAt (l : List TV) (ta : Option Addr) (tc d : Nat) : Prop := ∀ (w : World) (Z : Nat → Prop) (k : Nat) (hk : k < l.length) (cs : List Value) (m : CM), TbR w (.slice ta l.length tc) l → keptB l d l[k] m = true → MsgE w Z d cs m → Calls Tryz.prog 23 #[.agg #[.slice ta l.length tc], .int .i64 (k : Int), .agg cs.toArray] w (NewE (FmM d) w (setM l d l[k] m))
/-- What the walk over fields holds. -/
structure Sx (d : Nat) (w wr : World) (p9 p10 : Nat) (c0 c1 cO c9 c10 : Array Value) (ov : Value) (xs : List (CF CM)) : Prop where
  t : Blk wr (w.heap.size) 46 c0
  m : Blk wr (w.heap.size + 1) 35 c1
  r : Blk wr (w.heap.size + 1 + 1) 35 #[.slice none 0 0, .slice none 0 0]
  o : Blk wr (w.heap.size + 1 + 1 + 1) 35 cO
  x : Blk wr p9 29 c9
  f : Blk wr p10 77 c10
  own : OwnM wr (w.heap.size + 4) 29 3 (FmF d) ov xs
  b : Below w.heap.size w wr
  s : w.heap.size + 4 ≤ wr.heap.size
theorem Sx.kept {d : Nat} {w wr W : World} {p9 p10 : Nat} {c0 c1 cO c9 c10 : Array Value} {ov : Value} {xs : List (CF CM)} (h : Sx d w wr p9 p10 c0 c1 cO c9 c10 ov xs) (hb : Below wr.heap.size wr W) : Sx d w W p9 p10 c0 c1 cO c9 c10 ov xs := ⟨h.t.kept hb, h.m.kept hb, h.r.kept hb, h.o.kept hb, h.x.kept hb, h.f.kept hb, h.own.kept (famF d) hb, below_trans h.b hb, Nat.le_trans h.s hb.size⟩
theorem settleStepD (l : List TV) (ta : Option Addr) (tc : Nat) (hg : goodB l = true) (d : Nat) (HC : StAt l ta tc d) : StAt l ta tc (d + 1) := fun w Z i hi cs m h hkept hm => by
  have hx := List.getElem_mem hi
  obtain ⟨a1, c1, a2, c2, rfl, g, gu, l1, l2⟩ := msg_open (MsgE.old (d + 1) _ _ hm)
  have m1 : (m.fs.length : Int) ≤ 9223372036854775807 := by omega
  have m2 : (m.us.length : Int) ≤ 9223372036854775807 := by omega
  have G := hid g
  have GU := hid gu
  have HFD : Hid (∀ (W : World) (n : Int), Below w.heap.size w W → Calls Tryz.prog 40 #[.agg #[.slice ta l.length tc], .int .i64 (i : Int), .int .i64 n] W fun e w' => e = .returned (.tuple #[.agg #[.string (strOfNums (ownF l[i].t.fs n).name), .int .i64 (ownF l[i].t.fs n).num, .int .i64 (ownF l[i].t.fs n).kind, .int .i64 (ownF l[i].t.fs n).ref, .int .i64 (ownF l[i].t.fs n).lab, .int .i64 (ownF l[i].t.fs n).one, .int .i64 (ownF l[i].t.fs n).key], .bool (hasF l[i].t.fs n)]) ∧ Below W.heap.size W w') := hid fun W n hW => by
    have := fieldDR W l ta tc (h.kept hW) i hi n
    rw [find_own, find_has] at this
    exact this
  have HTK := hid fun W (hW : Below w.heap.size w W) (n kd : Int) => takesDR W l ta tc (h.kept hW) i hi n kd
  have HUN : Hid (∀ e : CE, untk l[i].t.fs e = decide (takesD l[i].t.fs e.num e.kind = 0)) := hid fun e => untk_doc hg hx e
  have HTD : Hid (∀ f ∈ m.fs, toldB l[i].t.fs f = !(skipD (ownF l[i].t.fs f.num) f)) := hid fun f hf => told_doc hg hx hkept hf
  have HL0 : Hid (∀ f ∈ m.fs, (ownF l[i].t.fs f.num).lab = 0 → 0 < f.vs.length) := hid (hold_one (kept_all hkept).1)
  have HON : Hid (∀ f ∈ m.fs, ∀ v ∈ f.vs, v.ms.length ≤ 1) := hid fun f hf => kept_one hkept hf
  have H17 : Hid (∀ f ∈ m.fs, (ownF l[i].t.fs f.num).kind = 17 → ∀ v ∈ f.vs, ∃ z, v.ms = [z]) := hid fun f hf e v hv => ((kept_ms hkept hf).2.2 v hv).2 e
  have HFP : Hid (∀ f ∈ m.fs, (ownF l[i].t.fs f.num).kind ≠ 17 → setF (setM l d (blwB l l[i] f)) f = f) := hid fun f hf e => set_plain hkept hf e _
  have HFK : Hid (∀ f ∈ m.fs, setF (setM l d (blwB l l[i] f)) f = ⟨f.num, f.ks, f.vs.map (setV (setM l d (blwB l l[i] f)))⟩) := hid fun f hf => set_keys hkept hf _
  have HCS : Hid (∀ f ∈ m.fs, ∀ v ∈ f.vs, ∀ z, v.ms = [z] → ∀ W, Below w.heap.size w W → ∀ (Z' : Nat → Prop) (ds : List Value), MsgE W Z' d ds z → Calls Tryz.prog 23 #[.agg #[.slice ta l.length tc], .int .i64 (ownF l[i].t.fs f.num).ref, .agg ds.toArray] W (NewE (FmM d) W (setM l d (blwB l l[i] f) z))) := hid fun f hf v hv z hz W hW Z' ds hds => by
    have h1 := (kept_ms hkept hf).1
    have h2 := blwB_at hg hx h1
    obtain ⟨r0, r1⟩ := good_refs hg hx (ownF_hasF h1).1
    have h3 := (kept_all hkept).2 f hf z (List.mem_append_right _ (List.mem_flatMap.2 ⟨v, hv, by rw [hz]; exact List.mem_cons_self⟩))
    have h4 : l[(ownF l[i].t.fs f.num).ref.toNat] = blwB l l[i] f := (List.getElem?_eq_some_iff.1 h2).2
    have h5 := HC W Z' (ownF l[i].t.fs f.num).ref.toNat r1 ds z (h.kept hW) (by rw [h4]; exact h3) hds
    rw [h4, show (((ownF l[i].t.fs f.num).ref.toNat : Nat) : Int) = (ownF l[i].t.fs f.num).ref by omega] at h5
    exact h5
  have HRS : Hid (setM l (d + 1) l[i] m = CM.mk ((m.fs.filter (toldB l[i].t.fs)).map (fun f => setF (setM l d (blwB l l[i] f)) f)) (m.us.filter (untk l[i].t.fs))) := hid rfl
  have HGM : ∃ GM : CF CM → CM → CM, ∀ f, GM f = setM l d (blwB l l[i] f) := ⟨fun f => setM l d (blwB l l[i] f), fun f => rfl⟩
  obtain ⟨GM, hGM⟩ := HGM
  simp only [← hGM] at HFP HFK HCS HRS
  generalize setM l (d + 1) l[i] m = res at *
  generalize l[i].t.fs = fs at *
  generalize toldB fs = P at *
  generalize untk fs = U at *
  clear h hm g gu HC hGM hkept hx
  go_enter Tryz.func23, Tryz.ntmps23
  go_wp2
  go_loopw [8] (fun s8 wr => ∃ (j n : Nat) (oa : Option Addr) (oc : Nat), s8 = .int .i64 j ∧ j ≤ m.fs.length ∧ Hid ((((m.fs.take j).filter P).map (fun f => setF (GM f) f)).length = n) ∧ Hid (Blk wr (w.heap.size) 46 #[.slice ta l.length tc]) ∧ Hid (Blk wr (w.heap.size + 1) 35 #[.slice a1 m.fs.length c1, .slice a2 m.us.length c2]) ∧ Hid (Blk wr (w.heap.size + 1 + 1) 35 #[.slice none 0 0, .slice none 0 0]) ∧ Hid (Blk wr (w.heap.size + 1 + 1 + 1) 35 #[.slice oa n oc, .slice none 0 0]) ∧ Hid (OwnM wr (w.heap.size + 4) 29 3 (FmF d) (.slice oa n oc) (((m.fs.take j).filter P).map (fun f => setF (GM f) f))) ∧ Hid (Below w.heap.size w wr) ∧ Hid (w.heap.size + 4 ≤ wr.heap.size)) (fun s8 wr => m.fs.length - numAt wr s8)
  case atStart => exact ⟨0, 0, none, 0, rfl, by omega, hid rfl, hid ((((Blk.new _ _ _).kept (below_alloc _)).kept (below_alloc _)).kept (below_alloc _)), hid (((Blk.newAt (by simp)).kept (below_alloc _)).kept (below_alloc _)), hid ((Blk.newAt (by simp)).kept (below_alloc _)), hid (Blk.newAt (by simp)), hid (OwnM.nil _ _ _ _ _), hid (by exact blBy), hid (by simp)⟩
  case round =>
    obtain ⟨j, n, oa, oc, rfl, hj, HLN, BT, BM, BR, BO, HO, hb, HS⟩ := hrel
    obtain ⟨wo, hwo⟩ : ∃ x, x = wr := ⟨_, rfl⟩
    subst hwo
    have xt := BT.out.cellF
    have zt := BT.out.lt
    have xm := BM.out.cellF
    have zm := BM.out.lt
    have xo := BO.out.cellF
    have zo := BO.out.lt
    have yo := BO.out.frz
    by_cases hlt : j < m.fs.length
    · have k2 : (j : Int) < (m.fs.length : Int) := by omega
      obtain ⟨b1, o1, ka, kc, va, vc, rfl, hz1, hb1, d0, d1, d2, he⟩ := fls_at G.out hlt
      replace d0 := cell_below d0 hb.out
      replace d1 := cell_below d1 hb.out
      replace d2 := cell_below d2 hb.out
      have hmem : m.fs[j] ∈ m.fs := List.getElem_mem hlt
      have HTK1 : Hid ((((m.fs.take (j + 1)).filter P).map (fun f => setF (GM f) f)) = (((m.fs.take j).filter P).map (fun f => setF (GM f) f)) ++ (if P m.fs[j] = true then [setF (GM m.fs[j]) m.fs[j]] else [])) := hid (by rw [List.take_succ_eq_append_getElem hlt, List.filter_append, List.map_append, List.filter_cons, List.filter_nil]; cases P m.fs[j] <;> rfl)
      have HFX := hid fun W hW => HFD.out W m.fs[j].num hW
      have TD := hid (HTD.out _ hmem)
      have L0 := hid (HL0.out _ hmem)
      have ON := hid (HON.out _ hmem)
      have E17 := hid (H17.out _ hmem)
      have FP := hid (HFP.out _ hmem)
      have FK := hid (HFK.out _ hmem)
      have CS := hid (HCS.out _ hmem)
      have HLB : Hid (n ≤ 4000000) := hid (by rw [← HLN.out, List.length_map]; exact Nat.le_trans (List.length_filter_le _ _) (Nat.le_trans (List.length_take_le _ _) (by omega)))
      generalize m.fs[j] = x at *
      generalize ownF fs x.num = o at *
      generalize hasF fs x.num = ok at *
      generalize P x = px at *
      obtain ⟨_, _, _, _, ee, qk, qv, lk, lv, hi64⟩ := fld_open he
      simp only [List.cons.injEq, Value.slice.injEq, true_and, and_true] at ee
      obtain ⟨⟨rfl, rfl⟩, rfl, rfl⟩ := ee
      have QV := hid qv
      have LK := hid lk
      have LV := hid lv
      have HI := hid hi64
      have HFE := hid he
      clear qk qv lk lv hi64 he hz1 HTD HL0 HON H17 HFP HFK HCS
      go_wp2_with fail
      refine (HFX.out _ (by have := hb.out; exact blBy)).mono ?_
      rintro e u1 ⟨rfl, hbu⟩
      go_upto_region 7 with fail
      have HS4 : Hid (Sx d w (u1.alloc (.cells #[.string (strOfNums o.name), .int .i64 o.num, .int .i64 o.kind, .int .i64 o.ref, .int .i64 o.lab, .int .i64 o.one, .int .i64 o.key] 77)) wo.heap.size u1.heap.size #[.slice ta l.length tc] #[.slice (some ⟨b1, o1, none⟩) m.fs.length c1, .slice a2 m.us.length c2] #[.slice oa n oc, .slice none 0 0] #[.int .i64 x.num, .slice ka x.ks.length kc, .slice va x.vs.length vc] #[.string (strOfNums o.name), .int .i64 o.num, .int .i64 o.kind, .int .i64 o.ref, .int .i64 o.lab, .int .i64 o.one, .int .i64 o.key] (.slice oa n oc) (((m.fs.take j).filter P).map (fun f => setF (GM f) f))) := hid ⟨((BT.out.kept (below_alloc _)).kept hbu).kept (below_alloc _), ((BM.out.kept (below_alloc _)).kept hbu).kept (below_alloc _), ((BR.out.kept (below_alloc _)).kept hbu).kept (below_alloc _), ((BO.out.kept (below_alloc _)).kept hbu).kept (below_alloc _), ((Blk.new _ _ _).kept hbu).kept (below_alloc _), Blk.new _ _ _, ((HO.out.kept (famF d) (below_alloc _)).kept (famF d) hbu).kept (famF d) (below_alloc _), below_trans hb.out (below_trans (below_alloc _) (below_trans hbu (below_alloc _))), by have := HS.out; have := hbu.size; simp at this; simp; omega⟩
      have HSD : Hid (skipD o x = ((decide (o.lab = 0) && hdD x.vs) || (decide (o.lab = 2 ∨ o.lab = 3 ∨ o.lab = 5) && decide (x.vs.length = 0)))) := hid rfl
      generalize skipD o x = sk at *
      generalize o.name = fnm at *
      generalize o.num = fnu at *
      generalize o.kind = fk at *
      generalize o.ref = fr at *
      generalize o.lab = lab at *
      generalize o.one = fo at *
      generalize o.key = fkey at *
      generalize (u1.alloc (.cells #[.string (strOfNums fnm), .int .i64 fnu, .int .i64 fk, .int .i64 fr, .int .i64 lab, .int .i64 fo, .int .i64 fkey] 77)) = wx at *
      generalize u1.heap.size = p10 at *
      clear hbu xt zt xm zm xo zo yo HFX BT BM BR BO HO
      go_cut [66] from 16 to 103 (fun s66 wc => s66 = .bool sk ∧ Hid (Sx d w wc wo.heap.size p10 #[.slice ta l.length tc] #[.slice (some ⟨b1, o1, none⟩) m.fs.length c1, .slice a2 m.us.length c2] #[.slice oa n oc, .slice none 0 0] #[.int .i64 x.num, .slice ka x.ks.length kc, .slice va x.vs.length vc] #[.string (strOfNums fnm), .int .i64 fnu, .int .i64 fk, .int .i64 fr, .int .i64 lab, .int .i64 fo, .int .i64 fkey] (.slice oa n oc) (((m.fs.take j).filter P).map (fun f => setF (GM f) f))))
      case first =>
        clear TD ON E17 FP FK CS HTK1
        have xt := HS4.out.t.cellF
        have zt := HS4.out.t.lt
        have xm := HS4.out.m.cellF
        have zm := HS4.out.m.lt
        have xo := HS4.out.o.cellF
        have zo := HS4.out.o.lt
        have xx := HS4.out.x.cellF
        have zx := HS4.out.x.lt
        have xf := HS4.out.f.cellF
        have zf := HS4.out.f.lt
        have yo := HS4.out.o.frz
        have mv : (x.vs.length : Int) ≤ 4000000 := by have := LV.out; omega
        by_cases h0 : lab = 0
        · subst h0
          have hv0 := L0.out rfl
          obtain ⟨b2, o2, ba, bc, ma, mc, rfl, -, -, e0, e1, e2, hv⟩ := vls_at (QV.out.kept HS4.out.b) (i := 0) hv0
          have HS7 : Hid (sk = defD x.vs[0]) := hid (by rw [HSD.out, hdD_at hv0]; simp)
          obtain ⟨_, _, _, _, e5, -, -, bl1, ml1, -⟩ := val_open hv
          simp only [List.cons.injEq, Value.slice.injEq, true_and, and_true] at e5
          obtain ⟨⟨rfl, rfl⟩, rfl, rfl⟩ := e5
          have HID := hid fun W => isDefD W x.vs[0].n ba ma x.vs[0].b.length bc x.vs[0].ms.length mc bl1 ml1
          unfold defD at HS7
          rw [← HS7.out] at HID
          generalize x.vs[0] = v at *
          simp only [Nat.zero_mul, Nat.add_zero] at e0 e1 e2
          have k4 : (0 : Int) < (x.vs.length : Int) := by omega
          clear hv QV HSD HS7
          go_wp2_with fail
          refine (HID.out _).mono ?_
          rintro e u2 ⟨rfl, hbu⟩
          have HS5 := hid (HS4.out.kept hbu)
          clear xt zt xm zm xo zo xx zx xf zf yo
          clear hbu HID e0 e1 e2 HS4
          have xt := HS5.out.t.cellF
          have zt := HS5.out.t.lt
          have xm := HS5.out.m.cellF
          have zm := HS5.out.m.lt
          have xo := HS5.out.o.cellF
          have zo := HS5.out.o.lt
          have xx := HS5.out.x.cellF
          have zx := HS5.out.x.lt
          have xf := HS5.out.f.cellF
          have zf := HS5.out.f.lt
          have yo := HS5.out.o.frz
          cases sk with
          | true =>
            go_wp2_with fail
            go_meet
            exact ⟨rfl, HS5⟩
          | false =>
            go_wp2_with fail
            go_meet
            exact ⟨rfl, HS5⟩
        have k0x : (lab == 0) = false := by simpa using h0
        by_cases h2 : lab = 2
        · subst h2
          by_cases hl : x.vs.length = 0
          · have HB7 : Hid (Value.bool true = .bool sk) := hid (by rw [HSD.out]; simp [hl])
            have k1 : ((x.vs.length : Int) == 0) = true := by simp [hl]
            clear hl
            have hl : (x.vs.length : Int) = 0 := by simpa using k1
            clear HSD
            go_wp2_with fail
            go_meet
            exact ⟨HB7.out, HS4⟩
          · have HB7 : Hid (Value.bool false = .bool sk) := hid (by rw [HSD.out]; simp [hl])
            have k1 : ((x.vs.length : Int) == 0) = false := by simpa using (show ¬ (x.vs.length : Int) = 0 by omega)
            have k2x : ¬ (x.vs.length : Int) = 0 := by omega
            clear HSD
            go_wp2_with fail
            go_meet
            exact ⟨HB7.out, HS4⟩
        have k2x : (lab == 2) = false := by simpa using h2
        by_cases h3 : lab = 3
        · subst h3
          by_cases hl : x.vs.length = 0
          · have HB7 : Hid (Value.bool true = .bool sk) := hid (by rw [HSD.out]; simp [hl])
            have k1 : ((x.vs.length : Int) == 0) = true := by simp [hl]
            clear hl
            have hl : (x.vs.length : Int) = 0 := by simpa using k1
            clear HSD
            go_wp2_with fail
            go_meet
            exact ⟨HB7.out, HS4⟩
          · have HB7 : Hid (Value.bool false = .bool sk) := hid (by rw [HSD.out]; simp [hl])
            have k1 : ((x.vs.length : Int) == 0) = false := by simpa using (show ¬ (x.vs.length : Int) = 0 by omega)
            have k2x : ¬ (x.vs.length : Int) = 0 := by omega
            clear HSD
            go_wp2_with fail
            go_meet
            exact ⟨HB7.out, HS4⟩
        have k3x : (lab == 3) = false := by simpa using h3
        by_cases h5 : lab = 5
        · subst h5
          by_cases hl : x.vs.length = 0
          · have HB7 : Hid (Value.bool true = .bool sk) := hid (by rw [HSD.out]; simp [hl])
            have k1 : ((x.vs.length : Int) == 0) = true := by simp [hl]
            clear hl
            have hl : (x.vs.length : Int) = 0 := by simpa using k1
            clear HSD
            go_wp2_with fail
            go_meet
            exact ⟨HB7.out, HS4⟩
          · have HB7 : Hid (Value.bool false = .bool sk) := hid (by rw [HSD.out]; simp [hl])
            have k1 : ((x.vs.length : Int) == 0) = false := by simpa using (show ¬ (x.vs.length : Int) = 0 by omega)
            have k2x : ¬ (x.vs.length : Int) = 0 := by omega
            clear HSD
            go_wp2_with fail
            go_meet
            exact ⟨HB7.out, HS4⟩
        have k5x : (lab == 5) = false := by simpa using h5
        have HB7 : Hid (Value.bool false = .bool sk) := hid (by rw [HSD.out]; simp [h0, h2, h3, h5])
        clear HSD
        go_wp2_with fail
        go_meet
        exact ⟨HB7.out, HS4⟩
      case rest =>
        obtain ⟨rfl, HS5⟩ := hcut
        clear HS4 HSD L0 QV
        have HS4 := HS5
        clear HS5
        obtain ⟨wz, hwz⟩ : ∃ x, x = wc := ⟨_, rfl⟩
        subst hwz
        cases sk with
        | true =>
          have HN : Hid ((((m.fs.take (j + 1)).filter P).map (fun f => setF (GM f) f)) = (((m.fs.take j).filter P).map (fun f => setF (GM f) f))) := hid (by rw [HTK1.out, TD.out]; simp)
          have xt := HS4.out.t.cellF
          have zt := HS4.out.t.lt
          have xm := HS4.out.m.cellF
          have zm := HS4.out.m.lt
          have xo := HS4.out.o.cellF
          have zo := HS4.out.o.lt
          have xx := HS4.out.x.cellF
          have zx := HS4.out.x.lt
          have xf := HS4.out.f.cellF
          have zf := HS4.out.f.lt
          have yo := HS4.out.o.frz
          clear HTK1 TD ON E17 FP FK CS
          go_wp2
          exact ⟨⟨j + 1, n, oa, oc, by simp, by omega, hid (by rw [HN.out]; exact HLN.out), hid HS4.out.t, hid HS4.out.m, hid HS4.out.r, hid HS4.out.o, hid (by rw [HN.out]; exact HS4.out.own), hid HS4.out.b, hid HS4.out.s⟩, by simp [numAt]; omega⟩
        | false =>
          have HN : Hid ((((m.fs.take (j + 1)).filter P).map (fun f => setF (GM f) f)) = (((m.fs.take j).filter P).map (fun f => setF (GM f) f)) ++ [setF (GM x) x]) := hid (by rw [HTK1.out, TD.out]; simp)
          clear HTK1 TD
          have xt := HS4.out.t.cellF
          have zt := HS4.out.t.lt
          have xm := HS4.out.m.cellF
          have zm := HS4.out.m.lt
          have xo := HS4.out.o.cellF
          have zo := HS4.out.o.lt
          have xx := HS4.out.x.cellF
          have zx := HS4.out.x.lt
          have xf := HS4.out.f.cellF
          have zf := HS4.out.f.lt
          have yo := HS4.out.o.frz
          have HCF := hid fun W (hW : Below wz.heap.size wz W) => copyFieldS d (copyD d) W _ _ x (HFE.out.kept (below_trans HS4.out.b hW)) ON.out
          go_wp2_with fail
          refine (HCF.out _ (Below.refl _ _)).mono ?_
          rintro e u2 ⟨ya, yc, yv, yw, ts, B, rfl, hB, hky, hov, hto, hbu⟩
          go_upto_region 9 with fail
          have HBZ : Hid (Below wz.heap.size wz (u2.alloc (.cells #[.int .i64 x.num, .slice ya x.ks.length yc, .slice yv x.vs.length yw] 29))) := hid (below_trans hbu (below_alloc _))
          have BY : Hid (Blk (u2.alloc (.cells #[.int .i64 x.num, .slice ya x.ks.length yc, .slice yv x.vs.length yw] 29)) u2.heap.size 29 #[.int .i64 x.num, .slice ya x.ks.length yc, .slice yv x.vs.length yw]) := hid (Blk.new _ _ _)
          have HKY : Hid (VlsR (u2.alloc (.cells #[.int .i64 x.num, .slice ya x.ks.length yc, .slice yv x.vs.length yw] 29)) (fun q => (wz.heap.size ≤ q ∧ ∀ p ∈ ts, ¬ (p.lo ≤ q ∧ q < p.hi))) d (.slice ya x.ks.length yc) x.ks) := hid (VlsR.kept hky (below_alloc _))
          have HOV : Hid (OwnM (u2.alloc (.cells #[.int .i64 x.num, .slice ya x.ks.length yc, .slice yv x.vs.length yw] 29)) B 26 3 (VlS d) (.slice yv x.vs.length yw) ts) := hid (hov.kept (famVS d) (below_alloc _))
          have HTO : Hid (TsOk B u2.heap.size ts x.vs) := hid hto
          have HBB : Hid (wz.heap.size ≤ B) := hid hB
          have HYS : Hid (u2.heap.size + 1 = (u2.alloc (.cells #[.int .i64 x.num, .slice ya x.ks.length yc, .slice yv x.vs.length yw] 29)).heap.size) := hid (by simp)
          have HZS : Hid (wz.heap.size ≤ u2.heap.size) := hid hbu.size
          clear xt zt xm zm xo zo xx zx xf zf yo
          clear hbu hky hov hto hB HCF
          by_cases h17 : fk = 17
          · subst h17
            have HON1 : Hid (∀ p ∈ ts, ∃ z, p.v.ms = [z]) := hid (fun p hp => E17.out rfl p.v (by rw [← HTO.out.vs]; exact List.mem_map_of_mem hp))
            have HAP := hid (apt_of HOV.out HTO.out HON1.out)
            have HLT : Hid (ts.length = x.vs.length) := hid HTO.out.len
            generalize hwy : (u2.alloc (.cells #[.int .i64 x.num, .slice ya x.ks.length yc, .slice yv x.vs.length yw] 29)) = wy at *
            generalize hpy : u2.heap.size = py at *
            clear hwy hpy
            have HS6 := hid (HS4.out.kept HBZ.out)
            have xt := HS6.out.t.cellF
            have zt := HS6.out.t.lt
            have xm := HS6.out.m.cellF
            have zm := HS6.out.m.lt
            have xo := HS6.out.o.cellF
            have zo := HS6.out.o.lt
            have xx := HS6.out.x.cellF
            have zx := HS6.out.x.lt
            have xf := HS6.out.f.cellF
            have zf := HS6.out.f.lt
            have yo := HS6.out.o.frz
            have xy := BY.out.cellF
            have zy := BY.out.lt
            clear FP ON
            go_wp2
            clear xt zt xm zm xo zo xx zx xf zf yo
            clear xy zy
            go_loopw [13] (fun s13 wr => ∃ (k : Nat), s13 = .int .i64 k ∧ k ≤ x.vs.length ∧ Hid (SetI d wz.heap.size wy wr (GM x) ts k) ∧ Hid (Below wz.heap.size wz wr) ∧ Hid (wy.heap.size ≤ wr.heap.size)) (fun s13 wr => x.vs.length - numAt wr s13)
            case atStart => exact ⟨0, rfl, by omega, hid (SetI.zero _ _ _ _ _), HBZ, hid (Nat.le_refl _)⟩
            case round =>
              clear HS6
              obtain ⟨k, rfl, hk, HSI, hbz, hws⟩ := hrel
              have HS6 := hid (HS4.out.kept hbz.out)
              have xt := HS6.out.t.cellF
              have zt := HS6.out.t.lt
              have xm := HS6.out.m.cellF
              have zm := HS6.out.m.lt
              have xo := HS6.out.o.cellF
              have zo := HS6.out.o.lt
              have xx := HS6.out.x.cellF
              have zx := HS6.out.x.lt
              have xf := HS6.out.f.cellF
              have zf := HS6.out.f.lt
              have yo := HS6.out.o.frz
              have HPB : Hid (∀ p ∈ ts, p.b < py) := hid (fun p hp => by have := HAP.out.b p hp; omega)
              have BY2 : Hid (Blk wr py 29 #[.int .i64 x.num, .slice ya x.ks.length yc, .slice yv x.vs.length yw]) := hid (BY.out.keep HSI.out.kp (fun p hp => by have := HPB.out p (List.mem_of_mem_take hp); omega))
              have xy := BY2.out.cellF
              have zy := BY2.out.lt
              have lvs := LV.out
              by_cases hkl : k < x.vs.length
              · have k3 : (k : Int) < (x.vs.length : Int) := by omega
                have hpk : ts[k]? = some (ts[k]'(by have := HLT.out; omega)) := List.getElem?_eq_getElem _
                have hvm : x.vs[k] = (ts[k]'(by have := HLT.out; omega)).v := by have := HTO.out.vs; simp only [← this, List.getElem_map]
                generalize ts[k]'(by have := HLT.out; omega) = p at hpk hvm
                have hpm := List.mem_of_getElem? hpk
                obtain ⟨vb, cs, ea, hvb1, hvb2, hvl, hcl⟩ := own_vs HOV.out hpk
                subst ea
                obtain ⟨ba, bc, ma, mc, rfl, -, -, hmm⟩ := hvl
                obtain ⟨z0, hz0⟩ := HON1.out p hpm
                rcases hmm with ⟨h0, -⟩ | ⟨z, s1, s2, rest, hz, rfl, hc1, hc2, hZb, -, -, hB, hM⟩
                · rw [hz0] at h0; cases h0
                have hcm := hcl 2 _ rfl
                rw [hz] at hcm
                simp only [List.length_cons, List.length_nil, Nat.zero_add] at hcm
                have hfr := HSI.out.fresh HAP.out hpk
                have hvbn : ∀ p' ∈ ts, vb ≠ p'.b := by
                  intro p' hp' e
                  obtain ⟨i2, hi2, rfl⟩ := List.mem_iff_getElem.1 hp'
                  obtain ⟨_, _, _, _, _, hvl2, _⟩ := own_vs HOV.out (List.getElem?_eq_getElem hi2)
                  obtain ⟨_, _, _, _, _, _, _, hm2⟩ := hvl2
                  rcases hm2 with ⟨h0, -⟩ | ⟨_, _, _, _, _, _, _, _, hZ2, _⟩
                  · obtain ⟨z9, hz9⟩ := HON1.out _ (List.getElem_mem hi2); rw [hz9] at h0; cases h0
                  · exact hZ2.2.2 (by rw [← e]; rfl)
                replace hcm := cell_kp hcm HSI.out.kp (fun p' hp' => hvbn p' (List.mem_of_mem_take hp'))
                have hB2 : Hid (Blk wr p.b 35 (s1 :: s2 :: rest).toArray) := hid (hB.keep HSI.out.kp hfr)
                have hM2 : Hid (MsgE wr (fun _ => True) d [s1, s2] z) := hid (MsgE.go HSI.out.kp (fun q hq p' hp' => HAP.out.out hpk hq.2.1 hq.2.2.1 hq.2.2.2 p' (List.mem_of_mem_take hp')) (fun _ _ => trivial) d _ _ hM)
                have HCX := hid fun W (hW : Below wr.heap.size wr W) => CS.out x.vs[k] (List.getElem_mem hkl) z (by rw [hvm]; exact hz) W (below_trans HS6.out.b hW) _ _ (hM2.out.kept hW)
                have hpy1 := HPB.out p hpm
                have xb : wr.cell? ⟨p.b, 0, none⟩ = some s1 := hB2.out.cell 0 _ rfl
                have xb1 : wr.cell? ⟨p.b, 1, none⟩ = some s2 := hB2.out.cell 1 _ rfl
                have zb := hB2.out.lt
                have hpn1 : w.heap.size ≠ p.b := by have := HAP.out.b p hpm; have := HBB.out; have := HS4.out.b.size; have := HS4.out.s; omega
                have hpn2 : p10 ≠ p.b := by have := HAP.out.b p hpm; have := HBB.out; have := HS4.out.f.lt; omega
                have hpn3 : py ≠ p.b := by omega
                have hpn4 : vb ≠ p.b := hvbn p hpm
                have HSK : Hid (∀ W, Keep (· ≠ p.b) wr W → (fun W => (∀ k, W.cell? ⟨w.heap.size, k, none⟩ = #[.slice ta l.length tc][k]?) ∧ (∀ k, W.cell? ⟨p10, k, none⟩ = #[.string (strOfNums fnm), .int .i64 fnu, .int .i64 17, .int .i64 fr, .int .i64 lab, .int .i64 fo, .int .i64 fkey][k]?) ∧ (∀ k, W.cell? ⟨py, k, none⟩ = #[.int .i64 x.num, .slice ya x.ks.length yc, .slice (some ⟨vb, 0, none⟩) x.vs.length yw][k]?) ∧ W.cell? ⟨vb, k * 3 + 2, none⟩ = some (.slice (some ⟨p.b, 0, none⟩) 1 mc)) W) := hid fun W hW => ⟨(HS6.out.t.keep hW hpn1).cellF, (HS6.out.f.keep hW hpn2).cellF, (BY2.out.keep hW hpn3).cellF, cell_kp hcm hW hpn4⟩
                clear hM hcl
                go_upto_region 13 with fail
                clear xt zt xm zm xo zo xx zx xf zf yo
                clear xy zy
                refine wp_region_held_drew (S := (fun W => (∀ k, W.cell? ⟨w.heap.size, k, none⟩ = #[.slice ta l.length tc][k]?) ∧ (∀ k, W.cell? ⟨p10, k, none⟩ = #[.string (strOfNums fnm), .int .i64 fnu, .int .i64 17, .int .i64 fr, .int .i64 lab, .int .i64 fo, .int .i64 fkey][k]?) ∧ (∀ k, W.cell? ⟨py, k, none⟩ = #[.int .i64 x.num, .slice ya x.ks.length yc, .slice (some ⟨vb, 0, none⟩) x.vs.length yw][k]?) ∧ W.cell? ⟨vb, k * 3 + 2, none⟩ = some (.slice (some ⟨p.b, 0, none⟩) 1 mc))) (by kernel_rfl) ?_ (fun hHeld => ?_)
                · exact HSK.out _ (Keep.ofBelow (below_drew1 _))
                refine wpAnyH_take (i := 0) (v := ?_) rfl (by kernel_rfl) (by kernel_rfl) (by kernel_rfl) (fun _ _ _ h => h) (Or.inl ⟨by rfl, ?_⟩) (by assumption) ?_
                rotate_left
                · (intro w hSw; (try dsimp only at hSw); go_simp; (try with_reducible rfl))
                try simp only [Act.put, List.getElem_toArray, List.getElem_cons_succ, List.getElem_cons_zero, List.setIfInBounds_toArray, List.set_cons_zero, List.set_cons_succ]
                refine wpAnyH_take (i := 1) (v := ?_) rfl (by kernel_rfl) (by kernel_rfl) (by kernel_rfl) (fun _ _ _ h => h) (Or.inl ⟨by rfl, ?_⟩) (by assumption) ?_
                rotate_left
                · (intro w hSw; (try dsimp only at hSw); go_simp; (try with_reducible rfl))
                try simp only [Act.put, List.getElem_toArray, List.getElem_cons_succ, List.getElem_cons_zero, List.setIfInBounds_toArray, List.set_cons_zero, List.set_cons_succ]
                refine wpAnyH_take (i := 2) (v := ?_) rfl (by kernel_rfl) (by kernel_rfl) (by kernel_rfl) (fun _ _ _ h => h) (Or.inl ⟨by rfl, ?_⟩) (by assumption) ?_
                rotate_left
                · (intro w hSw; (try dsimp only at hSw); go_simp; (try with_reducible rfl))
                try simp only [Act.put, List.getElem_toArray, List.getElem_cons_succ, List.getElem_cons_zero, List.setIfInBounds_toArray, List.set_cons_zero, List.set_cons_succ]
                refine wpAnyH_take (i := 3) (v := ?_) rfl (by kernel_rfl) (by kernel_rfl) (by kernel_rfl) (fun _ _ _ h => h) (Or.inl ⟨by rfl, ?_⟩) (by assumption) ?_
                rotate_left
                · (intro w hSw; (try dsimp only at hSw); go_simp; (try with_reducible rfl))
                try simp only [Act.put, List.getElem_toArray, List.getElem_cons_succ, List.getElem_cons_zero, List.setIfInBounds_toArray, List.set_cons_zero, List.set_cons_succ]
                refine wpAnyH_take (i := 4) (v := ?_) rfl (by kernel_rfl) (by kernel_rfl) (by kernel_rfl) (fun _ _ _ h => h) (Or.inl ⟨by rfl, ?_⟩) (by assumption) ?_
                rotate_left
                · (intro w hSw; (try dsimp only at hSw); go_simp; (try with_reducible rfl))
                try simp only [Act.put, List.getElem_toArray, List.getElem_cons_succ, List.getElem_cons_zero, List.setIfInBounds_toArray, List.set_cons_zero, List.set_cons_succ]
                refine wpAnyH_take (i := 5) (v := ?_) rfl (by kernel_rfl) (by kernel_rfl) (by kernel_rfl) (fun _ _ _ h => h) (Or.inl ⟨by rfl, ?_⟩) (by assumption) ?_
                rotate_left
                · (intro w hSw; (try dsimp only at hSw); go_simp; (try with_reducible rfl))
                try simp only [Act.put, List.getElem_toArray, List.getElem_cons_succ, List.getElem_cons_zero, List.setIfInBounds_toArray, List.set_cons_zero, List.set_cons_succ]
                refine wpAnyH_take (i := 6) (v := ?_) rfl (by kernel_rfl) (by kernel_rfl) (by kernel_rfl) (fun _ _ _ h => h) (Or.inl ⟨by rfl, ?_⟩) (by assumption) ?_
                rotate_left
                · (intro w hSw; (try dsimp only at hSw); go_simp; (try with_reducible rfl))
                try simp only [Act.put, List.getElem_toArray, List.getElem_cons_succ, List.getElem_cons_zero, List.setIfInBounds_toArray, List.set_cons_zero, List.set_cons_succ]
                refine wpAnyH_take (i := 7) (v := ?_) rfl (by kernel_rfl) (by kernel_rfl) (by kernel_rfl) (fun _ _ _ h => h) (Or.inl ⟨by rfl, ?_⟩) (by assumption) ?_
                rotate_left
                · (intro w hSw; (try dsimp only at hSw); go_simp; (try with_reducible rfl))
                try simp only [Act.put, List.getElem_toArray, List.getElem_cons_succ, List.getElem_cons_zero, List.setIfInBounds_toArray, List.set_cons_zero, List.set_cons_succ]
                refine wpAnyH_take (i := 8) (v := ?_) rfl (by kernel_rfl) (by kernel_rfl) (by kernel_rfl) (fun _ _ _ h => h) (Or.inl ⟨by rfl, ?_⟩) (by assumption) ?_
                rotate_left
                · (intro w hSw; (try dsimp only at hSw); go_simp; (try with_reducible rfl))
                try simp only [Act.put, List.getElem_toArray, List.getElem_cons_succ, List.getElem_cons_zero, List.setIfInBounds_toArray, List.set_cons_zero, List.set_cons_succ]
                refine wpAnyH_take (i := 9) (v := ?_) rfl (by kernel_rfl) (by kernel_rfl) (by kernel_rfl) (fun _ _ _ h => h) (Or.inl ⟨by rfl, ?_⟩) (by assumption) ?_
                rotate_left
                · (intro w hSw; (try dsimp only at hSw); go_simp; (try with_reducible rfl))
                try simp only [Act.put, List.getElem_toArray, List.getElem_cons_succ, List.getElem_cons_zero, List.setIfInBounds_toArray, List.set_cons_zero, List.set_cons_succ]
                refine wpAnyH_take (i := 10) (v := ?_) rfl (by kernel_rfl) (by kernel_rfl) (by kernel_rfl) (fun _ _ _ h => h) (Or.inl ⟨by rfl, ?_⟩) (by assumption) ?_
                rotate_left
                · (intro w hSw; (try dsimp only at hSw); go_simp; (try with_reducible rfl))
                try simp only [Act.put, List.getElem_toArray, List.getElem_cons_succ, List.getElem_cons_zero, List.setIfInBounds_toArray, List.set_cons_zero, List.set_cons_succ]
                refine wpAnyH_take (i := 11) (v := ?_) rfl (by kernel_rfl) (by kernel_rfl) (by kernel_rfl) (fun _ _ _ h => h) (Or.inl ⟨by rfl, ?_⟩) (by assumption) ?_
                rotate_left
                · (intro w hSw; (try dsimp only at hSw); go_simp; (try with_reducible rfl))
                try simp only [Act.put, List.getElem_toArray, List.getElem_cons_succ, List.getElem_cons_zero, List.setIfInBounds_toArray, List.set_cons_zero, List.set_cons_succ]
                refine wpAnyH_take (i := 12) (v := ?_) rfl (by kernel_rfl) (by kernel_rfl) (by kernel_rfl) (fun _ _ _ h => h) (Or.inl ⟨by rfl, ?_⟩) (by assumption) ?_
                rotate_left
                · (intro w hSw; (try dsimp only at hSw); go_simp; (try with_reducible rfl))
                try simp only [Act.put, List.getElem_toArray, List.getElem_cons_succ, List.getElem_cons_zero, List.setIfInBounds_toArray, List.set_cons_zero, List.set_cons_succ]
                refine wpAnyH_take (i := 13) (v := ?_) rfl (by kernel_rfl) (by kernel_rfl) (by kernel_rfl) (fun _ _ _ h => h) (Or.inl ⟨by rfl, ?_⟩) (by assumption) ?_
                rotate_left
                · (intro w hSw; (try dsimp only at hSw); go_simp; (try with_reducible rfl))
                try simp only [Act.put, List.getElem_toArray, List.getElem_cons_succ, List.getElem_cons_zero, List.setIfInBounds_toArray, List.set_cons_zero, List.set_cons_succ]
                refine wpAnyH_take (i := 14) (v := ?_) rfl (by kernel_rfl) (by kernel_rfl) (by kernel_rfl) (fun _ _ _ h => h) (Or.inl ⟨by rfl, ?_⟩) (by assumption) ?_
                rotate_left
                · (intro w hSw; (try dsimp only at hSw); go_simp; (try with_reducible rfl))
                try simp only [Act.put, List.getElem_toArray, List.getElem_cons_succ, List.getElem_cons_zero, List.setIfInBounds_toArray, List.set_cons_zero, List.set_cons_succ]
                refine wpAnyH_take (i := 15) (v := ?_) rfl (by kernel_rfl) (by kernel_rfl) (by kernel_rfl) (fun _ _ _ h => h) (Or.inl ⟨by rfl, ?_⟩) (by assumption) ?_
                rotate_left
                · (intro w hSw; (try dsimp only at hSw); go_simp; (try with_reducible rfl))
                try simp only [Act.put, List.getElem_toArray, List.getElem_cons_succ, List.getElem_cons_zero, List.setIfInBounds_toArray, List.set_cons_zero, List.set_cons_succ]
                refine wpAnyH_ready (rs := [16]) (by kernel_rfl) (by simp) ?_
                refine AllReadyH.cons rfl (fun K hK => ?_) AllReadyH.nil
                go_simp
                refine hK.out _ _ ?_ (fun hHeld => ?_)
                · first | assumption | exact HSK.out _ (Keep.ofBelow (below_drew1 _))
                clear hK K
                try simp only [Act.put, List.getElem_toArray, List.getElem_cons_succ, List.getElem_cons_zero, List.setIfInBounds_toArray, List.set_cons_zero, List.set_cons_succ]
                refine wpAnyH_ready (rs := [17]) (by kernel_rfl) (by simp) ?_
                refine AllReadyH.cons rfl (fun K hK => ?_) AllReadyH.nil
                go_simp
                go_wp2_with (go_at_call 23; refine (HCX.out _ (below_drew1 _)).mono ?_; rintro e u3 ⟨ds, rfl, hn, hbu⟩; have KU : Hid (Below wr.heap.size wr u3) := hid (bl_then (below_drew1 _) hbu); have HNM : Hid (MsgE u3 (wr.heap.size ≤ ·) d ds (GM x z)) := hid hn; clear hbu hn; obtain ⟨fa3, fc3, ua3, uc3, rfl, -⟩ := msg_openD HNM.out)
                refine hK.out _ _ ?_ (fun hHeld => ?_)
                · first | assumption | exact HSK.out _ (Keep.ofBelow KU.out)
                clear hK K
                try simp only [Act.put, List.getElem_toArray, List.getElem_cons_succ, List.getElem_cons_zero, List.setIfInBounds_toArray, List.set_cons_zero, List.set_cons_succ]
                have hB3 := hid (hB2.out.kept KU.out)
                clear xb xb1 zb
                have xb : u3.cell? ⟨p.b, 0, none⟩ = some s1 := hB3.out.cell 0 _ rfl
                have xb1 : u3.cell? ⟨p.b, 1, none⟩ = some s2 := hB3.out.cell 1 _ rfl
                have zb := hB3.out.lt
                have yb := hB3.out.frz
                refine wpAnyH_take (i := 18) (v := ?_) rfl (by kernel_rfl) (by kernel_rfl) (by kernel_rfl) (fun _ _ _ h => h) (Or.inl ⟨by rfl, ?_⟩) (by assumption) ?_
                rotate_left
                · (intro w hSw; (try dsimp only at hSw); go_simp; (try with_reducible rfl))
                try simp only [Act.put, List.getElem_toArray, List.getElem_cons_succ, List.getElem_cons_zero, List.setIfInBounds_toArray, List.set_cons_zero, List.set_cons_succ]
                refine wpAnyH_ready (rs := [19]) (by kernel_rfl) (by simp) ?_
                refine AllReadyH.cons rfl (fun K hK => ?_) AllReadyH.nil
                go_simp
                refine hK.out _ _ ?_ (fun hHeld => ?_)
                · first | assumption | exact HSK.out _ (kpS (kpS (Keep.ofBelow KU.out) (by simp)) (by simp))
                clear hK K
                try simp only [Act.put, List.getElem_toArray, List.getElem_cons_succ, List.getElem_cons_zero, List.setIfInBounds_toArray, List.set_cons_zero, List.set_cons_succ]
                refine wpAnyH_done (by kernel_rfl) ?_ _
                have HNI := hid (HSI.out.step HAP.out (by have := hbz.out.size; omega) (by have := hws.out; have := HYS.out; omega) hpk hz hB2.out KU.out HNM.out)
                clear xb xb1 zb yb hB3
                go_wp2
                exact ⟨⟨k + 1, by simp, by omega, HNI, hid (hbz.out.trans ((Below.mono KU.out (by have := hbz.out.size; omega)).setCell (show wz.heap.size ≤ p.b by have := HAP.out.b p hpm; have := HBB.out; omega) _ |>.setCell (show wz.heap.size ≤ p.b by have := HAP.out.b p hpm; have := HBB.out; omega) _)), hid (by have := hws.out; have := KU.out.size; simp; omega)⟩, by simp [numAt]; omega⟩
              · have k3 : ¬ (k : Int) < (x.vs.length : Int) := by omega
                have ek : k = ts.length := by have := HLT.out; omega
                have HVV := hid (SetI.fin (ek ▸ HSI.out) HOV.out HTO.out HAP.out HBB.out LV.out)
                have HKK : Hid (VlsR wr (wz.heap.size ≤ ·) d (.slice ya x.ks.length yc) x.ks) := hid (VlsR.go HKY.out HSI.out.kp (fun q hq p hp => fun e => hq.2 p (List.mem_of_mem_take hp) (by have := HAP.out.b p (List.mem_of_mem_take hp); omega)) (fun q hq => hq.1))
                have HFF : Hid (FldE wr (wz.heap.size ≤ ·) (MsgE wr (wz.heap.size ≤ ·) d) [.int .i64 x.num, .slice ya x.ks.length yc, .slice yv x.vs.length yw] (setF (GM x) x)) := hid (by rw [FK.out]; exact ⟨_, _, rfl, HKK.out, HVV.out, HI.out⟩)
                clear HVV HKK HSI HOV HTO HAP HKY HON1 CS E17 FK
                clear xt zt xm zm xo zo xx zx xf zf yo
                clear xy zy
                have HZ : Hid (FmF d wr (Zof wr (w.heap.size + 4) (.slice oa n oc)) [.int .i64 x.num, .slice ya x.ks.length yc, .slice yv x.vs.length yw] (setF (GM x) x)) := hid ((famF d).go ((famF d).old HFF.out) (Keep.refl (fun _ => True) wr) (fun _ _ => trivial) (fun b hz => ⟨by have := hz.1; have := HS4.out.s; omega, hz.2, fun e => by have := (HS4.out.own.own e).2; have := hz.1; omega⟩))
                obtain ⟨la, lc, x3, HRUN, HO2, HG⟩ := OwnM.push (famF d) 29 32 56 (.agg #[.int .i64 0, .slice none 0 0, .slice none 0 0]) Tryz.underlying32 Tryz.infoF rfl (by decide) (by decide) HS6.out.own HZ.out HS6.out.s (by rw [HLN.out]; exact HLB.out)
                rw [HLN.out] at HRUN HO2 HG
                have KG : Hid (Keep (· < w.heap.size + 4) wr x3) := hid (Keep.ofGrow HG.out (fun q (hq : q < w.heap.size + 4) e => by have := (HS6.out.own.own e).1; omega))
                have BT3 := hid (HS6.out.t.keep KG.out (show _ < _ by omega))
                have BM3 := hid (HS6.out.m.keep KG.out (show _ < _ by omega))
                have BR3 := hid (HS6.out.r.keep KG.out (show _ < _ by omega))
                have BO3 := hid (HS6.out.o.keep KG.out (show _ < _ by omega))
                have xo3 := BO3.out.cellF
                have yo3 := BO3.out.frz
                have zo3 := BO3.out.lt
                have hs3 := HG.out.size
                have HB3 : Hid (Below w.heap.size w x3) := hid (HS6.out.b.trans (HS6.out.own.bel HG.out (by omega) HS6.out.b.size))
                have HS3 : Hid (w.heap.size + 4 ≤ x3.heap.size) := hid (Nat.le_trans HS6.out.s HG.out.size)
                have xt := HS6.out.t.cellF
                have zt := HS6.out.t.lt
                have xm := HS6.out.m.cellF
                have zm := HS6.out.m.lt
                have xo := HS6.out.o.cellF
                have zo := HS6.out.o.lt
                have xx := HS6.out.x.cellF
                have zx := HS6.out.x.lt
                have xf := HS6.out.f.cellF
                have zf := HS6.out.f.lt
                have yo := HS6.out.o.frz
                have xy := BY2.out.cellF
                have zy := BY2.out.lt
                go_wp2_with (first | (at_builtin; refine wpList_append_ran rfl _ _ 32 32 rfl rfl _ _ (.slice la (n + 1) lc) x3 rfl rfl HRUN.out ?_))
                exact ⟨⟨j + 1, n + 1, la, lc, by simp, by omega, hid (by rw [HN.out, List.length_append, HLN.out]; rfl), hid (BT3.out.other (by first | (simp; done) | (simp; omega) | omega) _), hid (BM3.out.other (by first | (simp; done) | (simp; omega) | omega) _), hid (BR3.out.other (by first | (simp; done) | (simp; omega) | omega) _), hid ((BO3.out.set 0 _).is (by simp)), hid (by rw [HN.out]; exact HO2.out.keepB (famF d) (Keep.setCell _ _ _ (by simp))), hid (HB3.out.setCell (by simp; omega) _), hid (by have := HS3.out; simp; omega)⟩, by simp [numAt]; omega⟩
          · have k17 : (fk == 17) = false := by simpa using h17
            have HFF : Hid (FldE (u2.alloc (.cells #[.int .i64 x.num, .slice ya x.ks.length yc, .slice yv x.vs.length yw] 29)) (wz.heap.size ≤ ·) (MsgE (u2.alloc (.cells #[.int .i64 x.num, .slice ya x.ks.length yc, .slice yv x.vs.length yw] 29)) (wz.heap.size ≤ ·) d) [.int .i64 x.num, .slice ya x.ks.length yc, .slice yv x.vs.length yw] (setF (GM x) x)) := hid (by rw [FP.out h17]; exact ⟨_, _, rfl, VlsR.go HKY.out (Keep.refl (fun _ => True) _) (fun _ _ => trivial) (fun q hq => hq.1), own_plain HOV.out HTO.out HBB.out LV.out, HI.out⟩)
            generalize hwy : (u2.alloc (.cells #[.int .i64 x.num, .slice ya x.ks.length yc, .slice yv x.vs.length yw] 29)) = wy at *
            generalize hpy : u2.heap.size = py at *
            clear hwy hpy
            have HS6 := hid (HS4.out.kept HBZ.out)
            clear HOV HTO HKY CS E17 FK FP ON
            have HZ : Hid (FmF d wy (Zof wy (w.heap.size + 4) (.slice oa n oc)) [.int .i64 x.num, .slice ya x.ks.length yc, .slice yv x.vs.length yw] (setF (GM x) x)) := hid ((famF d).go ((famF d).old HFF.out) (Keep.refl (fun _ => True) wy) (fun _ _ => trivial) (fun b hz => ⟨by have := hz.1; have := HS4.out.s; omega, hz.2, fun e => by have := (HS4.out.own.own e).2; have := hz.1; omega⟩))
            obtain ⟨la, lc, x3, HRUN, HO2, HG⟩ := OwnM.push (famF d) 29 32 56 (.agg #[.int .i64 0, .slice none 0 0, .slice none 0 0]) Tryz.underlying32 Tryz.infoF rfl (by decide) (by decide) HS6.out.own HZ.out HS6.out.s (by rw [HLN.out]; exact HLB.out)
            rw [HLN.out] at HRUN HO2 HG
            have KG : Hid (Keep (· < w.heap.size + 4) wy x3) := hid (Keep.ofGrow HG.out (fun q (hq : q < w.heap.size + 4) e => by have := (HS6.out.own.own e).1; omega))
            have BT3 := hid (HS6.out.t.keep KG.out (show _ < _ by omega))
            have BM3 := hid (HS6.out.m.keep KG.out (show _ < _ by omega))
            have BR3 := hid (HS6.out.r.keep KG.out (show _ < _ by omega))
            have BO3 := hid (HS6.out.o.keep KG.out (show _ < _ by omega))
            have xo3 := BO3.out.cellF
            have yo3 := BO3.out.frz
            have zo3 := BO3.out.lt
            have hs3 := HG.out.size
            have HB3 : Hid (Below w.heap.size w x3) := hid (HS6.out.b.trans (HS6.out.own.bel HG.out (by omega) HS6.out.b.size))
            have HS3 : Hid (w.heap.size + 4 ≤ x3.heap.size) := hid (Nat.le_trans HS6.out.s HG.out.size)
            have xt := HS6.out.t.cellF
            have zt := HS6.out.t.lt
            have xm := HS6.out.m.cellF
            have zm := HS6.out.m.lt
            have xo := HS6.out.o.cellF
            have zo := HS6.out.o.lt
            have xx := HS6.out.x.cellF
            have zx := HS6.out.x.lt
            have xf := HS6.out.f.cellF
            have zf := HS6.out.f.lt
            have yo := HS6.out.o.frz
            have xy := BY.out.cellF
            have zy := BY.out.lt
            go_wp2_with (first | (at_builtin; refine wpList_append_ran rfl _ _ 32 32 rfl rfl _ _ (.slice la (n + 1) lc) x3 rfl rfl HRUN.out ?_))
            exact ⟨⟨j + 1, n + 1, la, lc, by simp, by omega, hid (by rw [HN.out, List.length_append, HLN.out]; rfl), hid (BT3.out.other (by first | (simp; done) | (simp; omega) | omega) _), hid (BM3.out.other (by first | (simp; done) | (simp; omega) | omega) _), hid (BR3.out.other (by first | (simp; done) | (simp; omega) | omega) _), hid ((BO3.out.set 0 _).is (by simp)), hid (by rw [HN.out]; exact HO2.out.keepB (famF d) (Keep.setCell _ _ _ (by simp))), hid (HB3.out.setCell (by simp; omega) _), hid (by have := HS3.out; simp; omega)⟩, by simp [numAt]; omega⟩
    · have k2 : ¬ (j : Int) < (m.fs.length : Int) := by omega
      have ej : j = m.fs.length := by omega
      subst ej
      have e1 : m.fs.take m.fs.length = m.fs := List.take_length
      rw [e1] at HO HLN
      have HFL0 := hid (FlsR.old (HO.out.row (famF d) (by rw [List.length_map]; exact Nat.le_trans (List.length_filter_le _ _) l1)))
      have HSB : Hid (w.heap.size + 4 ≤ wo.heap.size) := HS
      generalize (m.fs.filter P).map (fun f => setF (GM f) f) = outF at *
      have hlf := HLN.out
      subst hlf
      generalize hN0 : wo.heap.size = N0 at *
      have HN0 := hid hN0
      clear e1 k2 HO HS hlt hj HLN HTD HL0 HON H17 HFP HFK HCS HFD
      go_wp2
      go_loopw [14] (fun s14 wr => ∃ (j n : Nat) (ua : Option Addr) (uc : Nat), s14 = .int .i64 j ∧ j ≤ m.us.length ∧ Hid (((m.us.take j).filter U).length = n) ∧ Hid (Blk wr (w.heap.size) 46 #[.slice ta l.length tc]) ∧ Hid (Blk wr (w.heap.size + 1) 35 #[.slice a1 m.fs.length c1, .slice a2 m.us.length c2]) ∧ Hid (Blk wr (w.heap.size + 1 + 1) 35 #[.slice none 0 0, .slice none 0 0]) ∧ Hid (Blk wr (w.heap.size + 1 + 1 + 1) 35 #[.slice oa outF.length oc, .slice ua n uc]) ∧ Hid (FlsR wr (fun b => w.heap.size + 4 ≤ b ∧ b < N0) d (.slice oa outF.length oc) outF) ∧ Hid (OwnM wr N0 40 4 FmE (.slice ua n uc) ((m.us.take j).filter U)) ∧ Hid (Below w.heap.size w wr) ∧ Hid (N0 ≤ wr.heap.size)) (fun s14 wr => m.us.length - numAt wr s14)
      case atStart => exact ⟨0, 0, none, 0, rfl, by omega, hid rfl, BT, BM, BR, BO, HFL0, hid (OwnM.nil _ _ _ _ _), hb, hid (by have := HN0.out; omega)⟩
      case round =>
        clear BT BM BR BO HFL0 hb xt zt xm zm xo yo zo HN0 hN0
        obtain ⟨j, n, ua, uc, rfl, hj, HLN, BT, BM, BR, BO, HFL, HO, hb, HS⟩ := hrel
        obtain ⟨wq, hwq⟩ : ∃ x, x = wr := ⟨_, rfl⟩
        subst hwq
        have xt := BT.out.cellF
        have zt := BT.out.lt
        have xm := BM.out.cellF
        have zm := BM.out.lt
        have xo := BO.out.cellF
        have zo := BO.out.lt
        have yo := BO.out.frz
        by_cases hlt : j < m.us.length
        · have k2 : (j : Int) < (m.us.length : Int) := by omega
          obtain ⟨b1, o1, pa, pc, rfl, hz1, hb1, c0, c1, c2, c3, he⟩ := ens_at (GU.out.kept hb.out) hlt
          have HE := hid he
          have HTU : Hid (((m.us.take (j + 1)).filter U) = ((m.us.take j).filter U) ++ (if U m.us[j] = true then [m.us[j]] else [])) := hid (by rw [List.take_succ_eq_append_getElem hlt, List.filter_append, List.filter_cons, List.filter_nil])
          have HLB : Hid (n ≤ 4000000) := hid (by rw [← HLN.out]; exact Nat.le_trans (List.length_filter_le _ _) (Nat.le_trans (List.length_take_le _ _) (by omega)))
          have UN := hid (HUN.out m.us[j])
          have TK := hid fun W hW => HTK.out W hW m.us[j].num m.us[j].kind
          generalize m.us[j] = x at *
          generalize takesD fs x.num x.kind = tv at *
          generalize U x = ux at *
          have hbl := hz1.2
          clear he hz1
          have HOB : Hid (∀ b, (Value.slice ua n uc).ownBlock = some b → b < wq.heap.size) := hid (fun b e => (HO.out.own e).2)
          have hn9 := HSB.out
          have hn8 := HS.out
          go_wp2_with fail
          refine (TK.out _ (by have := hb.out; exact blBy)).mono ?_
          rintro e u9 ⟨rfl, hbu⟩
          have HBQ : Hid (Below wq.heap.size wq u9) := hid (bl_then (below_alloc _) hbu)
          have BE : Hid (Blk u9 wq.heap.size 40 #[.int .i64 x.num, .int .i64 x.kind, .int .u64 x.n, .slice pa x.b.length pc]) := hid ((Blk.new _ _ _).kept hbu)
          have BT2 := hid (BT.out.kept HBQ.out)
          have BM2 := hid (BM.out.kept HBQ.out)
          have BR2 := hid (BR.out.kept HBQ.out)
          have BO2 := hid (BO.out.kept HBQ.out)
          have hsq := HBQ.out.size
          have HFL2 := hid (FlsR.kept HFL.out HBQ.out)
          have HO1 := hid (HO.out.kept famE HBQ.out)
          have hb2 := hid (below_trans hb.out HBQ.out)
          have HS2 : Hid (N0 ≤ u9.heap.size) := hid (by omega)
          have HE2 := hid (HE.out.kept HBQ.out)
          clear hbu c0 c1 c2 c3 xt zt xm zm xo yo zo BT BM BR BO HO hb HFL HE TK
          have xt := BT2.out.cellF
          have zt := BT2.out.lt
          have xm := BM2.out.cellF
          have zm := BM2.out.lt
          have xo := BO2.out.cellF
          have zo := BO2.out.lt
          have yo := BO2.out.frz
          have xe := BE.out.cellF
          have ze := BE.out.lt
          by_cases htv : tv = 0
          · subst htv
            have HNU : Hid (((m.us.take (j + 1)).filter U) = ((m.us.take j).filter U) ++ [x]) := hid (by rw [HTU.out, UN.out]; simp)
            have HSK : Hid (∀ W, Keep (· = wq.heap.size) u9 W → (fun W => ∀ k, W.cell? ⟨wq.heap.size, k, none⟩ = #[.int .i64 x.num, .int .i64 x.kind, .int .u64 x.n, .slice pa x.b.length pc][k]?) W) := hid fun W hk => (BE.out.keep hk rfl).cellF
            go_upto_region 20 with fail
            refine wp_region_held_drew (S := (fun W => ∀ k, W.cell? ⟨wq.heap.size, k, none⟩ = #[.int .i64 x.num, .int .i64 x.kind, .int .u64 x.n, .slice pa x.b.length pc][k]?)) (by kernel_rfl) ?_ (fun hHeld => ?_)
            · exact HSK.out _ (Keep.ofBelow (below_drew1 _))
            refine wpAnyH_take (i := 0) (v := ?_) rfl (by kernel_rfl) (by kernel_rfl) (by kernel_rfl) (fun _ _ _ h => h) (Or.inl ⟨by rfl, ?_⟩) (by assumption) ?_
            rotate_left
            · (intro w hSw; (try dsimp only at hSw); go_simp; (try with_reducible rfl))
            try simp only [Act.put, List.getElem_toArray, List.getElem_cons_succ, List.getElem_cons_zero, List.setIfInBounds_toArray, List.set_cons_zero, List.set_cons_succ]
            refine wpAnyH_take (i := 2) (v := ?_) rfl (by kernel_rfl) (by kernel_rfl) (by kernel_rfl) (fun _ _ _ h => h) (Or.inl ⟨by rfl, ?_⟩) (by assumption) ?_
            rotate_left
            · (intro w hSw; (try dsimp only at hSw); go_simp; (try with_reducible rfl))
            try simp only [Act.put, List.getElem_toArray, List.getElem_cons_succ, List.getElem_cons_zero, List.setIfInBounds_toArray, List.set_cons_zero, List.set_cons_succ]
            refine wpAnyH_ready (rs := [1, 3]) (by kernel_rfl) (by simp) ?_
            refine AllReadyH.cons rfl (fun K hK => ?_) ?_
            · go_simp
              refine hK.out _ _ ?_ (fun hHeld => ?_)
              · first | assumption | exact HSK.out _ (Keep.ofBelow (below_drew1 _))
              clear hK K
              try simp only [Act.put, List.getElem_toArray, List.getElem_cons_succ, List.getElem_cons_zero, List.setIfInBounds_toArray, List.set_cons_zero, List.set_cons_succ]
              refine wpAnyH_ready (rs := [3]) (by kernel_rfl) (by simp) ?_
              refine AllReadyH.cons rfl (fun K hK => ?_) ?_
              · go_simp
                go_wp2_with (go_at_call 49; refine (copyEntryD _ (fun b => Z b ∧ b < w.heap.size) _ x (HE2.out.kept (below_drew1 _))).mono ?_; rintro e u1 ⟨ds, rfl, hn, hbu⟩; have HX1 : Hid (Below u9.heap.size u9 u1) := hid (bl_then (below_drew1 _) hbu); have K1 : Hid (Keep (· = wq.heap.size) u9 u1) := hid (Keep.ofBelow HX1.out); have HZ := hid (zof_new famE HO1.out (by simp) HS2.out hn); have HO2 := hid (HO1.out.kept famE HX1.out); obtain ⟨ka2, kc2, rfl, -⟩ := ent_open HZ.out; have BO1 := hid (BO2.out.kept HX1.out); have xo1 := BO1.out.cellF; have yo1 := BO1.out.frz; have zo1 := BO1.out.lt; have hs1 := HX1.out.size; clear hbu hn)
                refine hK.out _ _ ?_ (fun hHeld => ?_)
                · first | assumption | exact HSK.out _ (K1.out)
                clear hK K
                try simp only [Act.put, List.getElem_toArray, List.getElem_cons_succ, List.getElem_cons_zero, List.setIfInBounds_toArray, List.set_cons_zero, List.set_cons_succ]
                obtain ⟨la, lc, x3, HRUN, HO3, HG⟩ := OwnM.push famE 40 33 48 (.agg #[.int .i64 0, .int .i64 0, .int .u64 0, .slice none 0 0]) Tryz.underlying33 Tryz.infoE rfl (by decide) (by decide) HO2.out HZ.out (by have := HS2.out; omega) (by rw [HLN.out]; exact HLB.out)
                rw [HLN.out] at HRUN HO3 HG
                refine wpAnyH_ready (rs := [4]) (by kernel_rfl) (by simp) ?_
                refine AllReadyH.cons rfl (fun K hK => ?_) ?_
                · go_simp
                  refine hK.out _ _ ?_ (fun hHeld => ?_)
                  · first | assumption | exact HSK.out _ (kpA K1.out _)
                  clear hK K
                  try simp only [Act.put, List.getElem_toArray, List.getElem_cons_succ, List.getElem_cons_zero, List.setIfInBounds_toArray, List.set_cons_zero, List.set_cons_succ]
                  refine wpAnyH_ready (rs := [5]) (by kernel_rfl) (by simp) ?_
                  refine AllReadyH.cons rfl (fun K hK => ?_) ?_
                  · refine step_append_ran rfl _ _ 33 33 rfl rfl _ _ (.slice la (n + 1) lc) x3 rfl rfl HRUN.out ?_
                    have KG : Hid (Keep (· < N0) u1 x3) := hid (Keep.ofGrow HG.out (fun q (hq : q < N0) e => by have := (HO2.out.own e).1; omega))
                    have KE : Hid (Keep (· = wq.heap.size) u1 x3) := hid (Keep.ofGrow HG.out (fun q (hq : q = wq.heap.size) e => by have := HOB.out q e; omega))
                    have K3 : Hid (Keep (· = wq.heap.size) u9 x3) := hid (K1.out.trans KE.out)
                    have BO3 : Hid (Blk x3 (w.heap.size + 1 + 1 + 1) 35 #[.slice oa outF.length oc, .slice ua n uc]) := hid (BO1.out.keep KG.out (show _ < _ by omega))
                    have xo3 := BO3.out.cellF
                    have yo3 := BO3.out.frz
                    have zo3 := BO3.out.lt
                    have hs3 := HG.out.size
                    refine hK.out _ _ ?_ (fun hHeld => ?_)
                    · first | assumption | exact HSK.out _ (K3.out)
                    clear hK K
                    try simp only [Act.put, List.getElem_toArray, List.getElem_cons_succ, List.getElem_cons_zero, List.setIfInBounds_toArray, List.set_cons_zero, List.set_cons_succ]
                    refine wpAnyH_take (i := 6) (v := ?_) rfl (by kernel_rfl) (by kernel_rfl) (by kernel_rfl) (fun _ _ _ h => h) (Or.inl ⟨by rfl, ?_⟩) (by assumption) ?_
                    rotate_left
                    · (intro w hSw; (try dsimp only at hSw); go_simp; (try with_reducible rfl))
                    try simp only [Act.put, List.getElem_toArray, List.getElem_cons_succ, List.getElem_cons_zero, List.setIfInBounds_toArray, List.set_cons_zero, List.set_cons_succ]
                    refine wpAnyH_ready (rs := [7]) (by kernel_rfl) (by simp) ?_
                    refine AllReadyH.cons rfl (fun K hK => ?_) ?_
                    · go_simp
                      refine hK.out _ _ ?_ (fun hHeld => ?_)
                      · first | assumption | exact HSK.out _ (kpS K3.out (by first | (simp; done) | (simp; omega) | omega))
                      clear hK K
                      try simp only [Act.put, List.getElem_toArray, List.getElem_cons_succ, List.getElem_cons_zero, List.setIfInBounds_toArray, List.set_cons_zero, List.set_cons_succ]
                      refine wpAnyH_done (by kernel_rfl) ?_ _
                      go_wp2
                      exact ⟨⟨j + 1, n + 1, la, lc, by simp, by omega, hid (by rw [HNU.out, List.length_append, HLN.out]; rfl), hid (((BT2.out.kept HX1.out).keep KG.out (show _ < _ by omega)).other (by first | (simp; done) | (simp; omega) | omega) _), hid (((BM2.out.kept HX1.out).keep KG.out (show _ < _ by omega)).other (by first | (simp; done) | (simp; omega) | omega) _), hid (((BR2.out.kept HX1.out).keep KG.out (show _ < _ by omega)).other (by first | (simp; done) | (simp; omega) | omega) _), hid ((BO3.out.set 1 _).is (by simp)), hid (FlsR.go (FlsR.kept HFL2.out HX1.out) (f := fun b => w.heap.size + 4 ≤ b ∧ b < N0) ((KG.out.weak (fun q hq => hq.2)).trans (Keep.setCell _ _ _ (by first | (simp; done) | (simp; omega) | omega))) (fun _ h => h) (fun _ h => h)), hid (by rw [HNU.out]; exact HO3.out.keepB famE (Keep.setCell _ _ _ (by first | (simp; done) | (simp; omega) | omega))), hid (Below.trans hb2.out (Below.trans (HX1.out.mono hb2.out.size) (by have h3 := KG.out.below (B := w.heap.size) (by have := hb2.out.size; omega) (fun k hk => by show k < _; omega); exact h3.setCell (by simp; omega) _))), hid (by simp; omega)⟩, by simp [numAt]; omega⟩
                    exact AllReadyH.nil
                  exact AllReadyH.nil
                exact AllReadyH.nil
              exact AllReadyH.nil
            refine AllReadyH.cons rfl (fun K hK => ?_) ?_
            · go_simp
              go_wp2_with (go_at_call 49; refine (copyEntryD _ (fun b => Z b ∧ b < w.heap.size) _ x (HE2.out.kept (below_drew1 _))).mono ?_; rintro e u1 ⟨ds, rfl, hn, hbu⟩; have HX1 : Hid (Below u9.heap.size u9 u1) := hid (bl_then (below_drew1 _) hbu); have K1 : Hid (Keep (· = wq.heap.size) u9 u1) := hid (Keep.ofBelow HX1.out); have HZ := hid (zof_new famE HO1.out (by simp) HS2.out hn); have HO2 := hid (HO1.out.kept famE HX1.out); obtain ⟨ka2, kc2, rfl, -⟩ := ent_open HZ.out; have BO1 := hid (BO2.out.kept HX1.out); have xo1 := BO1.out.cellF; have yo1 := BO1.out.frz; have zo1 := BO1.out.lt; have hs1 := HX1.out.size; clear hbu hn)
              refine hK.out _ _ ?_ (fun hHeld => ?_)
              · first | assumption | exact HSK.out _ (K1.out)
              clear hK K
              try simp only [Act.put, List.getElem_toArray, List.getElem_cons_succ, List.getElem_cons_zero, List.setIfInBounds_toArray, List.set_cons_zero, List.set_cons_succ]
              obtain ⟨la, lc, x3, HRUN, HO3, HG⟩ := OwnM.push famE 40 33 48 (.agg #[.int .i64 0, .int .i64 0, .int .u64 0, .slice none 0 0]) Tryz.underlying33 Tryz.infoE rfl (by decide) (by decide) HO2.out HZ.out (by have := HS2.out; omega) (by rw [HLN.out]; exact HLB.out)
              rw [HLN.out] at HRUN HO3 HG
              refine wpAnyH_ready (rs := [1, 4]) (by kernel_rfl) (by simp) ?_
              refine AllReadyH.cons rfl (fun K hK => ?_) ?_
              · go_simp
                refine hK.out _ _ ?_ (fun hHeld => ?_)
                · first | assumption | exact HSK.out _ (K1.out)
                clear hK K
                try simp only [Act.put, List.getElem_toArray, List.getElem_cons_succ, List.getElem_cons_zero, List.setIfInBounds_toArray, List.set_cons_zero, List.set_cons_succ]
                refine wpAnyH_ready (rs := [4]) (by kernel_rfl) (by simp) ?_
                refine AllReadyH.cons rfl (fun K hK => ?_) ?_
                · go_simp
                  refine hK.out _ _ ?_ (fun hHeld => ?_)
                  · first | assumption | exact HSK.out _ (kpA K1.out _)
                  clear hK K
                  try simp only [Act.put, List.getElem_toArray, List.getElem_cons_succ, List.getElem_cons_zero, List.setIfInBounds_toArray, List.set_cons_zero, List.set_cons_succ]
                  refine wpAnyH_ready (rs := [5]) (by kernel_rfl) (by simp) ?_
                  refine AllReadyH.cons rfl (fun K hK => ?_) ?_
                  · refine step_append_ran rfl _ _ 33 33 rfl rfl _ _ (.slice la (n + 1) lc) x3 rfl rfl HRUN.out ?_
                    have KG : Hid (Keep (· < N0) u1 x3) := hid (Keep.ofGrow HG.out (fun q (hq : q < N0) e => by have := (HO2.out.own e).1; omega))
                    have KE : Hid (Keep (· = wq.heap.size) u1 x3) := hid (Keep.ofGrow HG.out (fun q (hq : q = wq.heap.size) e => by have := HOB.out q e; omega))
                    have K3 : Hid (Keep (· = wq.heap.size) u9 x3) := hid (K1.out.trans KE.out)
                    have BO3 : Hid (Blk x3 (w.heap.size + 1 + 1 + 1) 35 #[.slice oa outF.length oc, .slice ua n uc]) := hid (BO1.out.keep KG.out (show _ < _ by omega))
                    have xo3 := BO3.out.cellF
                    have yo3 := BO3.out.frz
                    have zo3 := BO3.out.lt
                    have hs3 := HG.out.size
                    refine hK.out _ _ ?_ (fun hHeld => ?_)
                    · first | assumption | exact HSK.out _ (K3.out)
                    clear hK K
                    try simp only [Act.put, List.getElem_toArray, List.getElem_cons_succ, List.getElem_cons_zero, List.setIfInBounds_toArray, List.set_cons_zero, List.set_cons_succ]
                    refine wpAnyH_take (i := 6) (v := ?_) rfl (by kernel_rfl) (by kernel_rfl) (by kernel_rfl) (fun _ _ _ h => h) (Or.inl ⟨by rfl, ?_⟩) (by assumption) ?_
                    rotate_left
                    · (intro w hSw; (try dsimp only at hSw); go_simp; (try with_reducible rfl))
                    try simp only [Act.put, List.getElem_toArray, List.getElem_cons_succ, List.getElem_cons_zero, List.setIfInBounds_toArray, List.set_cons_zero, List.set_cons_succ]
                    refine wpAnyH_ready (rs := [7]) (by kernel_rfl) (by simp) ?_
                    refine AllReadyH.cons rfl (fun K hK => ?_) ?_
                    · go_simp
                      refine hK.out _ _ ?_ (fun hHeld => ?_)
                      · first | assumption | exact HSK.out _ (kpS K3.out (by first | (simp; done) | (simp; omega) | omega))
                      clear hK K
                      try simp only [Act.put, List.getElem_toArray, List.getElem_cons_succ, List.getElem_cons_zero, List.setIfInBounds_toArray, List.set_cons_zero, List.set_cons_succ]
                      refine wpAnyH_done (by kernel_rfl) ?_ _
                      go_wp2
                      exact ⟨⟨j + 1, n + 1, la, lc, by simp, by omega, hid (by rw [HNU.out, List.length_append, HLN.out]; rfl), hid (((BT2.out.kept HX1.out).keep KG.out (show _ < _ by omega)).other (by first | (simp; done) | (simp; omega) | omega) _), hid (((BM2.out.kept HX1.out).keep KG.out (show _ < _ by omega)).other (by first | (simp; done) | (simp; omega) | omega) _), hid (((BR2.out.kept HX1.out).keep KG.out (show _ < _ by omega)).other (by first | (simp; done) | (simp; omega) | omega) _), hid ((BO3.out.set 1 _).is (by simp)), hid (FlsR.go (FlsR.kept HFL2.out HX1.out) (f := fun b => w.heap.size + 4 ≤ b ∧ b < N0) ((KG.out.weak (fun q hq => hq.2)).trans (Keep.setCell _ _ _ (by first | (simp; done) | (simp; omega) | omega))) (fun _ h => h) (fun _ h => h)), hid (by rw [HNU.out]; exact HO3.out.keepB famE (Keep.setCell _ _ _ (by first | (simp; done) | (simp; omega) | omega))), hid (Below.trans hb2.out (Below.trans (HX1.out.mono hb2.out.size) (by have h3 := KG.out.below (B := w.heap.size) (by have := hb2.out.size; omega) (fun k hk => by show k < _; omega); exact h3.setCell (by simp; omega) _))), hid (by simp; omega)⟩, by simp [numAt]; omega⟩
                    exact AllReadyH.nil
                  exact AllReadyH.nil
                exact AllReadyH.nil
              refine AllReadyH.cons rfl (fun K hK => ?_) ?_
              · go_simp
                refine hK.out _ _ ?_ (fun hHeld => ?_)
                · first | assumption | exact HSK.out _ (kpA K1.out _)
                clear hK K
                try simp only [Act.put, List.getElem_toArray, List.getElem_cons_succ, List.getElem_cons_zero, List.setIfInBounds_toArray, List.set_cons_zero, List.set_cons_succ]
                refine wpAnyH_ready (rs := [1]) (by kernel_rfl) (by simp) ?_
                refine AllReadyH.cons rfl (fun K hK => ?_) ?_
                · go_simp
                  refine hK.out _ _ ?_ (fun hHeld => ?_)
                  · first | assumption | exact HSK.out _ (kpA K1.out _)
                  clear hK K
                  try simp only [Act.put, List.getElem_toArray, List.getElem_cons_succ, List.getElem_cons_zero, List.setIfInBounds_toArray, List.set_cons_zero, List.set_cons_succ]
                  refine wpAnyH_ready (rs := [5]) (by kernel_rfl) (by simp) ?_
                  refine AllReadyH.cons rfl (fun K hK => ?_) ?_
                  · refine step_append_ran rfl _ _ 33 33 rfl rfl _ _ (.slice la (n + 1) lc) x3 rfl rfl HRUN.out ?_
                    have KG : Hid (Keep (· < N0) u1 x3) := hid (Keep.ofGrow HG.out (fun q (hq : q < N0) e => by have := (HO2.out.own e).1; omega))
                    have KE : Hid (Keep (· = wq.heap.size) u1 x3) := hid (Keep.ofGrow HG.out (fun q (hq : q = wq.heap.size) e => by have := HOB.out q e; omega))
                    have K3 : Hid (Keep (· = wq.heap.size) u9 x3) := hid (K1.out.trans KE.out)
                    have BO3 : Hid (Blk x3 (w.heap.size + 1 + 1 + 1) 35 #[.slice oa outF.length oc, .slice ua n uc]) := hid (BO1.out.keep KG.out (show _ < _ by omega))
                    have xo3 := BO3.out.cellF
                    have yo3 := BO3.out.frz
                    have zo3 := BO3.out.lt
                    have hs3 := HG.out.size
                    refine hK.out _ _ ?_ (fun hHeld => ?_)
                    · first | assumption | exact HSK.out _ (K3.out)
                    clear hK K
                    try simp only [Act.put, List.getElem_toArray, List.getElem_cons_succ, List.getElem_cons_zero, List.setIfInBounds_toArray, List.set_cons_zero, List.set_cons_succ]
                    refine wpAnyH_take (i := 6) (v := ?_) rfl (by kernel_rfl) (by kernel_rfl) (by kernel_rfl) (fun _ _ _ h => h) (Or.inl ⟨by rfl, ?_⟩) (by assumption) ?_
                    rotate_left
                    · (intro w hSw; (try dsimp only at hSw); go_simp; (try with_reducible rfl))
                    try simp only [Act.put, List.getElem_toArray, List.getElem_cons_succ, List.getElem_cons_zero, List.setIfInBounds_toArray, List.set_cons_zero, List.set_cons_succ]
                    refine wpAnyH_ready (rs := [7]) (by kernel_rfl) (by simp) ?_
                    refine AllReadyH.cons rfl (fun K hK => ?_) ?_
                    · go_simp
                      refine hK.out _ _ ?_ (fun hHeld => ?_)
                      · first | assumption | exact HSK.out _ (kpS K3.out (by first | (simp; done) | (simp; omega) | omega))
                      clear hK K
                      try simp only [Act.put, List.getElem_toArray, List.getElem_cons_succ, List.getElem_cons_zero, List.setIfInBounds_toArray, List.set_cons_zero, List.set_cons_succ]
                      refine wpAnyH_done (by kernel_rfl) ?_ _
                      go_wp2
                      exact ⟨⟨j + 1, n + 1, la, lc, by simp, by omega, hid (by rw [HNU.out, List.length_append, HLN.out]; rfl), hid (((BT2.out.kept HX1.out).keep KG.out (show _ < _ by omega)).other (by first | (simp; done) | (simp; omega) | omega) _), hid (((BM2.out.kept HX1.out).keep KG.out (show _ < _ by omega)).other (by first | (simp; done) | (simp; omega) | omega) _), hid (((BR2.out.kept HX1.out).keep KG.out (show _ < _ by omega)).other (by first | (simp; done) | (simp; omega) | omega) _), hid ((BO3.out.set 1 _).is (by simp)), hid (FlsR.go (FlsR.kept HFL2.out HX1.out) (f := fun b => w.heap.size + 4 ≤ b ∧ b < N0) ((KG.out.weak (fun q hq => hq.2)).trans (Keep.setCell _ _ _ (by first | (simp; done) | (simp; omega) | omega))) (fun _ h => h) (fun _ h => h)), hid (by rw [HNU.out]; exact HO3.out.keepB famE (Keep.setCell _ _ _ (by first | (simp; done) | (simp; omega) | omega))), hid (Below.trans hb2.out (Below.trans (HX1.out.mono hb2.out.size) (by have h3 := KG.out.below (B := w.heap.size) (by have := hb2.out.size; omega) (fun k hk => by show k < _; omega); exact h3.setCell (by simp; omega) _))), hid (by simp; omega)⟩, by simp [numAt]; omega⟩
                    exact AllReadyH.nil
                  exact AllReadyH.nil
                exact AllReadyH.nil
              exact AllReadyH.nil
            exact AllReadyH.nil
          · have k4 : (tv == 0) = false := by simpa using htv
            have HNU : Hid (((m.us.take (j + 1)).filter U) = ((m.us.take j).filter U)) := hid (by rw [HTU.out, UN.out]; simp [htv])
            go_wp2
            exact ⟨⟨j + 1, n, ua, uc, by simp, by omega, hid (by rw [HNU.out]; exact HLN.out), BT2, BM2, BR2, BO2, HFL2, hid (by rw [HNU.out]; exact HO1.out), hb2, HS2⟩, by simp [numAt]; omega⟩
        · have k2 : ¬ (j : Int) < (m.us.length : Int) := by omega
          have ej : j = m.us.length := by omega
          subst ej
          have e1 : m.us.take m.us.length = m.us := List.take_length
          rw [e1] at HO HLN
          have HEN := hid (HO.out.row famE (Nat.le_trans (List.length_filter_le _ _) l2))
          have xr := BR.out.cellF
          have yr := BR.out.frz
          have zr := BR.out.lt
          have hr := HRS.out
          subst hr
          have hnl := HLN.out
          subst hnl
          clear e1 k2 HO hlt hj HLN HRS HUN HTK
          go_wp2
          exact bodyPost_ret (v := .agg #[.slice oa outF.length oc, .slice ua (m.us.filter U).length uc]) (by simp [results, Tryz.results23, go_sem, xr, yr, zr]) rfl (NewE.mk [.slice oa outF.length oc, .slice ua (m.us.filter U).length uc] ⟨_, _, rfl, FlsR.go HFL.out (f := (w.heap.size + 4 ≤ ·)) (by with_reducible repeat (first | exact Keep.refl _ _ | refine kpS ?_ (by first | (simp; done) | (simp; omega) | omega) | refine kpA ?_ _ | refine kpD ?_ | refine kpN ?_ _)) (fun _ h => h.1) (fun k hk => by have := hk.1; omega), EnsR.go HEN.out (f := (w.heap.size + 4 ≤ ·)) (by with_reducible repeat (first | exact Keep.refl _ _ | refine kpS ?_ (by first | (simp; done) | (simp; omega) | omega) | refine kpA ?_ _ | refine kpD ?_ | refine kpN ?_ _)) (fun b hb => by have := HSB.out; omega) (fun k hk => by have := HSB.out; omega)⟩ (by have := hb.out; exact blBy))
theorem settleD (l : List TV) (ta : Option Addr) (tc : Nat) (hg : goodB l = true) : ∀ d, StAt l ta tc d
  | 0 => fun _ _ _ _ _ _ _ _ hm => hm.elim
  | d + 1 => settleStepD l ta tc hg d (settleD l ta tc hg d)
end Go.Proofs.YtnfdlnelfnigdaaGreatDoor
