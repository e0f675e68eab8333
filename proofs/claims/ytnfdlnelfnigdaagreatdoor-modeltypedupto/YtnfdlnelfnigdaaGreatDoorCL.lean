/-
  The document's Typed, where that of the messages within is known.
-/
import Derived.Test.YtnfdlnelfnigdaaGreatDoorCw8WP
import Derived.Deep.RegionHeld3
import Derived.Deep.CutRange
namespace Go.Proofs.YtnfdlnelfnigdaaGreatDoor
open Go.RowKit
set_option maxRecDepth 1000000
set_option linter.unusedVariables false
set_option linter.unusedSimpArgs false
set_option maxHeartbeats 16000000
/-- What the walk over fields holds: the table, the message, the field, its type. -/
structure St4 (w wr : World) (p8 p9 : Nat) (c0 c1 c8 c9 : Array Value) : Prop where
  t : Blk wr w.heap.size 46 c0
  m : Blk wr (w.heap.size + 1) 35 c1
  x : Blk wr p8 29 c8
  f : Blk wr p9 77 c9
  b : Below w.heap.size w wr
theorem St4.kept {w wr W : World} {p8 p9 : Nat} {c0 c1 c8 c9 : Array Value} (h : St4 w wr p8 p9 c0 c1 c8 c9) (hb : Below wr.heap.size wr W) : St4 w W p8 p9 c0 c1 c8 c9 := ⟨h.t.kept hb, h.m.kept hb, h.x.kept hb, h.f.kept hb, below_trans h.b hb⟩
/-- The first two tests of a field's shape. -/
def sh8 (lab : Int) (f : CF CM) : Bool := (decide (lab ≠ 5) && decide (0 < f.ks.length)) || (decide (lab = 5) && decide (f.ks.length ≠ f.vs.length))
def sh10 (lab : Int) (f : CF CM) : Bool := decide (lab = 0 ∨ lab = 1 ∨ lab = 4) && decide (f.vs.length ≠ 1)
theorem shape_two (lab : Int) (f : CF CM) : shapeD lab f = (!(sh8 lab f) && !(sh10 lab f)) := by
  unfold shapeD sh8 sh10
  cases (decide (lab ≠ 5) && decide (0 < f.ks.length)) <;> cases (decide (lab = 5) && decide (f.ks.length ≠ f.vs.length)) <;> rfl
theorem sh8_keys {lab : Int} {f : CF CM} (h : sh8 lab f = false) (h0 : 0 < f.ks.length) : lab = 5 := by
  unfold sh8 at h
  by_cases h5 : lab = 5
  · exact h5
  · simp [h5] at h
    rw [h] at h0
    simp at h0
theorem typedStepD (w : World) (l : List TV) (ta : Option Addr) (tc : Nat) (h : TbR w (.slice ta l.length tc) l) (hg : goodB l = true) (i : Nat) (hi : i < l.length) (T : Nat → CM → Bool) (Z : Nat → Prop) (d : Nat) (cs : List Value) (m : CM) (hm : MsgE w Z (d + 1) cs m) (HC : ∀ (W : World), Below w.heap.size w W → ∀ (k : Nat), k < l.length → ∀ (cs : List Value) (z : CM), MsgE W Z d cs z → Calls Tryz.prog 20 #[.agg #[.slice ta l.length tc], .int .i64 (k : Int), .agg cs.toArray] W fun e w' => e = .returned (.bool (T k z)) ∧ Below W.heap.size W w') : Calls Tryz.prog 20 #[.agg #[.slice ta l.length tc], .int .i64 (i : Int), .agg cs.toArray] w fun e w' => e = .returned (.bool (tyD l T l[i].t.fs m)) ∧ Below w.heap.size w w' := by
  have HOT := hid fun W (hW : Below w.heap.size w W) (f : FT) => otherD W l ta tc (h.kept hW) i hi Z d cs m (hm.kept hW) f
  obtain ⟨a1, c1, a2, c2, rfl, g, gu, l1, l2⟩ := msg_open hm
  have m1 : (m.fs.length : Int) ≤ 9223372036854775807 := by omega
  have m2 : (m.us.length : Int) ≤ 9223372036854775807 := by omega
  have G := hid (FlsR.old8 g)
  have GU := hid (EnsR.old8 gu)
  have HFD : Hid (∀ (W : World) (n : Int), Below w.heap.size w W → Calls Tryz.prog 40 #[.agg #[.slice ta l.length tc], .int .i64 (i : Int), .int .i64 n] W fun e w' => e = .returned (.tuple #[.agg #[.string (strOfNums (ownF l[i].t.fs n).name), .int .i64 (ownF l[i].t.fs n).num, .int .i64 (ownF l[i].t.fs n).kind, .int .i64 (ownF l[i].t.fs n).ref, .int .i64 (ownF l[i].t.fs n).lab, .int .i64 (ownF l[i].t.fs n).one, .int .i64 (ownF l[i].t.fs n).key], .bool (hasF l[i].t.fs n)]) ∧ Below W.heap.size W w') := hid fun W n hW => by
    have := fieldDR W l ta tc (h.kept hW) i hi n
    rw [find_own, find_has] at this
    exact this
  have HVL : Hid (∀ (W : World), Below w.heap.size w W → ∀ (kind ref : Int), (kind = 17 ∨ kind = 16 → 0 ≤ ref ∧ ref.toNat < l.length) → ∀ (cs : List Value) (v : CV CM), ValE W (fun b => Z b ∧ b < w.heap.size) (MsgE W (fun b => Z b ∧ b < w.heap.size) d) cs v → Calls Tryz.prog 41 #[.agg #[.slice ta l.length tc], .int .i64 kind, .int .i64 ref, .agg cs.toArray] W fun e w' => e = .returned (.bool (valD l T kind ref v)) ∧ Below W.heap.size W w') := hid fun W hW kind ref hr cs v hv => valueD W l ta tc (h.kept hW) T _ d kind ref hr cs v hv (fun W' hW' k hk cs z hz => HC W' (below_trans hW hW') k hk cs z (MsgE.go (Keep.refl (fun _ => True) _) (fun _ _ => trivial) (fun _ h => h.1) d _ _ hz))
  have HGF : Hid (∀ n, hasF l[i].t.fs n = true → ((ownF l[i].t.fs n).kind = 17 ∨ (ownF l[i].t.fs n).kind = 16 → 0 ≤ (ownF l[i].t.fs n).ref ∧ (ownF l[i].t.fs n).ref.toNat < l.length) ∧ ((ownF l[i].t.fs n).lab = 5 → kkey (ownF l[i].t.fs n).key = true)) := hid fun n hn => ⟨fun _ => good_refs hg (List.getElem_mem hi) (ownF_hasF hn).1, (good_fld hg (List.getElem_mem hi) (ownF_hasF hn).1).2.2⟩
  have HRS : Hid (tyD l T l[i].t.fs m = (allF (fldD l T l[i].t.fs m.fs) 0 m.fs.length && m.us.all entB)) := hid rfl
  generalize tyD l T l[i].t.fs m = res at *
  generalize l[i].t.fs = fs at *
  clear h hm g gu hi HC hg
  go_enter Tryz.func20, Tryz.ntmps20
  go_wp2
  go_loopw [7] (fun s7 wr => ∃ (j : Nat), s7 = .int .i64 j ∧ j ≤ m.fs.length ∧ Hid (res = (allF (fldD l T fs m.fs) j m.fs.length && m.us.all entB)) ∧ Hid (Blk wr (w.heap.size) 46 #[.slice ta l.length tc]) ∧ Hid (Blk wr (w.heap.size + 1) 35 #[.slice a1 m.fs.length c1, .slice a2 m.us.length c2]) ∧ Hid (Below w.heap.size w wr)) (fun s7 wr => m.fs.length - numAt wr s7)
  case atStart => exact ⟨0, rfl, by omega, HRS, hid ((Blk.new _ _ _).kept (below_alloc _)), hid (Blk.newAt (by simp)), hid (by exact blBy)⟩
  case round =>
    clear HRS
    obtain ⟨j, rfl, hj, HA, BT, BM, hb⟩ := hrel
    obtain ⟨wo, hwo⟩ : ∃ x, x = wr := ⟨_, rfl⟩
    subst hwo
    have xt := BT.out.cellF
    have zt := BT.out.lt
    have xm := BM.out.cellF
    have zm := BM.out.lt
    by_cases hlt : j < m.fs.length
    · have k2 : (j : Int) < (m.fs.length : Int) := by omega
      obtain ⟨b1, o1, ka, kc, va, vc, rfl, hz1, hb1, d0, d1, d2, he⟩ := fls_at G.out hlt
      replace d0 := cell_below d0 hb.out
      replace d1 := cell_below d1 hb.out
      replace d2 := cell_below d2 hb.out
      have HST := hid (fldD_at (l := l) (T := T) (fs := fs) hlt)
      have HAS := hid (allF_step (P := fldD l T fs m.fs) hlt)
      have HPV : Hid (∀ j', j = j' + 1 → ∃ n, w.cell? ⟨b1, o1 + j' * 3, none⟩ = some (.int .i64 n) ∧ riseAt m.fs j m.fs[j].num = decide (n < m.fs[j].num)) := hid (by
        rintro j' rfl
        obtain ⟨b2, o2, _, _, _, _, e2, -, -, d0', -, -, -⟩ := fls_at G.out (show j' < m.fs.length by omega)
        cases e2
        exact ⟨_, d0', riseAt_succ (by omega)⟩)
      have HPZ : Hid (j = 0 → riseAt m.fs j m.fs[j].num = true) := hid (by rintro rfl; exact riseAt_zero)
      obtain ⟨_, _, _, _, ee, qk, qv, lk, lv, -⟩ := fld_open he
      simp only [List.cons.injEq, Value.slice.injEq, true_and, and_true] at ee
      obtain ⟨⟨rfl, rfl⟩, rfl, rfl⟩ := ee
      have QK := hid qk
      have QV := hid qv
      have LK := hid lk
      have LV := hid lv
      clear qk qv lk lv
      have HFX := hid fun W hW => HFD.out W m.fs[j].num hW
      have HGX := hid (HGF.out m.fs[j].num)
      generalize m.fs[j] = x at *
      generalize ownF fs x.num = o at *
      generalize hasF fs x.num = ok at *
      generalize riseAt m.fs j x.num = rise at *
      have hbl := hz1.2
      have hsz := hb.out.size
      clear hz1 he
      have HHB := hid hb.out
      go_wp2_with fail
      refine (HFX.out _ (by have := hb.out; exact blBy)).mono ?_
      rintro e u1 ⟨rfl, hbu⟩
      go_upto_region 6 with fail
      have HS4 : Hid (St4 w (u1.alloc (.cells #[.string (strOfNums o.name), .int .i64 o.num, .int .i64 o.kind, .int .i64 o.ref, .int .i64 o.lab, .int .i64 o.one, .int .i64 o.key] 77)) wo.heap.size u1.heap.size #[.slice ta l.length tc] #[.slice (some ⟨b1, o1, none⟩) m.fs.length c1, .slice a2 m.us.length c2] #[.int .i64 x.num, .slice ka x.ks.length kc, .slice va x.vs.length vc] #[.string (strOfNums o.name), .int .i64 o.num, .int .i64 o.kind, .int .i64 o.ref, .int .i64 o.lab, .int .i64 o.one, .int .i64 o.key]) := hid ⟨((BT.out.kept (below_alloc _)).kept hbu).kept (below_alloc _), ((BM.out.kept (below_alloc _)).kept hbu).kept (below_alloc _), ((Blk.new _ _ _).kept hbu).kept (below_alloc _), Blk.new _ _ _, below_trans hb.out (below_trans (below_alloc _) (below_trans hbu (below_alloc _)))⟩
      have HOX := hid fun W hW => HOT.out W hW o
      have HR : Hid (res = (fldD l T fs m.fs j && (allF (fldD l T fs m.fs) (j + 1) m.fs.length && m.us.all entB))) := hid (by rw [HA.out, HAS.out, Bool.and_assoc])
      rw [HST.out] at HR
      generalize m.fs.any (othP fs o) = oth at *
      generalize o.name = fnm at *
      generalize o.num = fnu at *
      generalize o.kind = fk at *
      generalize o.ref = fr at *
      generalize o.lab = lab at *
      generalize o.one = fo at *
      generalize o.key = fkey at *
      generalize (u1.alloc (.cells #[.string (strOfNums fnm), .int .i64 fnu, .int .i64 fk, .int .i64 fr, .int .i64 lab, .int .i64 fo, .int .i64 fkey] 77)) = wx at *
      generalize u1.heap.size = p9 at *
      clear hbu xt zt xm zm HA HAS HFX BT BM HST
      go_cut [53] from 16 to 162 (fun s53 wc => s53 = .bool (!ok || !rise) ∧ Hid (St4 w wc wo.heap.size p9 #[.slice ta l.length tc] #[.slice (some ⟨b1, o1, none⟩) m.fs.length c1, .slice a2 m.us.length c2] #[.int .i64 x.num, .slice ka x.ks.length kc, .slice va x.vs.length vc] #[.string (strOfNums fnm), .int .i64 fnu, .int .i64 fk, .int .i64 fr, .int .i64 lab, .int .i64 fo, .int .i64 fkey]))
      case first =>
        as_aux_lemma =>
          have xt := HS4.out.t.cellF
          have zt := HS4.out.t.lt
          have xm := HS4.out.m.cellF
          have zm := HS4.out.m.lt
          have xx := HS4.out.x.cellF
          have zx := HS4.out.x.lt
          have xf := HS4.out.f.cellF
          have zf := HS4.out.f.lt
          have HBX := hid HS4.out.b
          cases ok with
          | false =>
            clear HPV HPZ d0 d1 d2
            go_quiet (fail)
            go_wp2_with fail
            go_meet
            exact ⟨by simp, hid (HS4.out.kept (by exact blBy))⟩
          | true =>
            rcases Nat.eq_zero_or_pos j with h0 | h0
            · have hri := HPZ.out h0
              subst h0
              subst hri
              clear HPV HPZ d0 d1 d2
              go_quiet (fail)
              go_wp2_with fail
              go_meet
              exact ⟨by simp, hid (HS4.out.kept (by exact blBy))⟩
            · obtain ⟨j', hj'⟩ : ∃ j', j = j' + 1 := ⟨j - 1, by omega⟩
              obtain ⟨n, dn, hri⟩ := HPV.out j' hj'
              replace dn := cell_below dn HBX.out
              subst hj'
              have k3 : ((j' + 1 : Nat) : Int) - 1 = (j' : Int) := by omega
              have k4 : (j' : Int) < (m.fs.length : Int) := by omega
              have k5 : (0 : Int) < ((j' + 1 : Nat) : Int) := by omega
              have k6 : (j' : Int) + 1 - 1 = (j' : Int) := by omega
              have k7 : (0 : Int) < (j' : Int) + 1 := by omega
              clear HPV HPZ d0 d1 d2
              by_cases hq : n < x.num
              · have hq2 : ¬ x.num ≤ n := by omega
                rw [decide_eq_true hq] at hri
                subst hri
                go_quiet (fail)
                go_wp2_with fail
                go_meet
                exact ⟨by simp, hid (HS4.out.kept (by exact blBy))⟩
              · have hq2 : x.num ≤ n := by omega
                rw [decide_eq_false hq] at hri
                subst hri
                go_quiet (fail)
                go_wp2_with fail
                go_meet
                exact ⟨by simp, hid (HS4.out.kept (by exact blBy))⟩
      case rest =>
        obtain ⟨rfl, HS5⟩ := hcut
        clear HS4 HPV HPZ
        have HS4 := HS5
        clear HS5
        cases hq6 : (!ok || !rise) with
        | true =>
          have HF : Hid (res = false) := hid (by rw [HR.out]; revert hq6; cases ok <;> cases rise <;> simp)
          clear HR
          have xt := HS4.out.t.cellF
          have zt := HS4.out.t.lt
          have xm := HS4.out.m.cellF
          have zm := HS4.out.m.lt
          have xx := HS4.out.x.cellF
          have zx := HS4.out.x.lt
          have xf := HS4.out.f.cellF
          have zf := HS4.out.f.lt
          go_wp2
          go_ret
          exact ⟨ret_bool HF.out.symm, HS4.out.b⟩
        | false =>
          have hok : ok = true := by revert hq6; cases ok <;> simp
          have hri : rise = true := by revert hq6; cases ok <;> cases rise <;> simp
          subst hok
          subst hri
          rw [shape_two] at HR
          simp only [Bool.true_and, Bool.and_assoc] at HR
          obtain ⟨hrf, hkk⟩ := HGX.out rfl
          have HRF := hid hrf
          have HKK := hid hkk
          clear hrf hkk HGX hq6
          have xt := HS4.out.t.cellF
          have zt := HS4.out.t.lt
          have xm := HS4.out.m.cellF
          have zm := HS4.out.m.lt
          have xx := HS4.out.x.cellF
          have zx := HS4.out.x.lt
          have xf := HS4.out.f.cellF
          have zf := HS4.out.f.lt
          go_upto_region 8 with fail
          clear xt zt xm zm xx zx xf zf
          go_cut [76] from 16 to 162 (fun s76 wc => s76 = .bool (sh8 lab x) ∧ Hid (St4 w wc wo.heap.size p9 #[.slice ta l.length tc] #[.slice (some ⟨b1, o1, none⟩) m.fs.length c1, .slice a2 m.us.length c2] #[.int .i64 x.num, .slice ka x.ks.length kc, .slice va x.vs.length vc] #[.string (strOfNums fnm), .int .i64 fnu, .int .i64 fk, .int .i64 fr, .int .i64 lab, .int .i64 fo, .int .i64 fkey]))
          case first =>
            as_aux_lemma =>
              clear HR HRF HKK QK QV
              have xt := HS4.out.t.cellF
              have zt := HS4.out.t.lt
              have xm := HS4.out.m.cellF
              have zm := HS4.out.m.lt
              have xx := HS4.out.x.cellF
              have zx := HS4.out.x.lt
              have xf := HS4.out.f.cellF
              have zf := HS4.out.f.lt
              have mk : (x.ks.length : Int) ≤ 4000000 := by have := LK.out; omega
              have mv : (x.vs.length : Int) ≤ 4000000 := by have := LV.out; omega
              by_cases h5 : lab = 5
              · subst h5
                by_cases hl : x.ks.length = x.vs.length
                · have HB8 : Hid (Value.bool false = .bool (sh8 5 x)) := hid (by unfold sh8; simp [hl])
                  have k1 : ((x.ks.length : Int) == (x.vs.length : Int)) = true := by simp [hl]
                  clear hl
                  have hl : (x.ks.length : Int) = (x.vs.length : Int) := by simpa using k1
                  go_wp2_with fail
                  go_meet
                  exact ⟨by first | exact HB8.out | (rw [← HB8.out]; simp; omega), HS4⟩
                · have HB8 : Hid (Value.bool true = .bool (sh8 5 x)) := hid (by unfold sh8; simp [hl])
                  have k1 : ((x.ks.length : Int) == (x.vs.length : Int)) = false := by simpa using (show ¬ (x.ks.length : Int) = (x.vs.length : Int) by omega)
                  have k2 : ¬ (x.ks.length : Int) = (x.vs.length : Int) := by omega
                  go_wp2_with fail
                  go_meet
                  exact ⟨by first | exact HB8.out | (rw [← HB8.out]; simp; omega), HS4⟩
              · have k5 : (lab == 5) = false := by simpa using h5
                by_cases hl : 0 < x.ks.length
                · have HB8 : Hid (Value.bool true = .bool (sh8 lab x)) := hid (by unfold sh8; simp [hl, h5])
                  have k1 : (0 : Int) < (x.ks.length : Int) := by omega
                  go_wp2_with fail
                  go_meet
                  exact ⟨by first | exact HB8.out | (rw [← HB8.out]; simp; omega), HS4⟩
                · have HB8 : Hid (Value.bool false = .bool (sh8 lab x)) := hid (by unfold sh8; simp [hl, h5])
                  have k1 : ¬ (0 : Int) < (x.ks.length : Int) := by omega
                  go_wp2_with fail
                  go_meet
                  exact ⟨by first | exact HB8.out | (rw [← HB8.out]; simp; omega), HS4⟩
          case rest =>
            obtain ⟨rfl, HS5⟩ := hcut
            clear HS4
            have HS4 := HS5
            clear HS5
            cases h8 : sh8 lab x with
            | true =>
              have HF : Hid (res = false) := hid (by rw [HR.out, h8]; rfl)
              clear HR
              have xt := HS4.out.t.cellF
              have zt := HS4.out.t.lt
              have xm := HS4.out.m.cellF
              have zm := HS4.out.m.lt
              have xx := HS4.out.x.cellF
              have zx := HS4.out.x.lt
              have xf := HS4.out.f.cellF
              have zf := HS4.out.f.lt
              go_wp2
              go_ret
              exact ⟨ret_bool HF.out.symm, HS4.out.b⟩
            | false =>
              rw [h8] at HR
              simp only [Bool.not_false, Bool.true_and] at HR
              have HL5 : Hid (0 < x.ks.length → kkey fkey = true) := hid (fun h0 => HKK.out (sh8_keys h8 h0))
              clear HKK h8
              have xt := HS4.out.t.cellF
              have zt := HS4.out.t.lt
              have xm := HS4.out.m.cellF
              have zm := HS4.out.m.lt
              have xx := HS4.out.x.cellF
              have zx := HS4.out.x.lt
              have xf := HS4.out.f.cellF
              have zf := HS4.out.f.lt
              go_upto_region 10 with fail
              clear xt zt xm zm xx zx xf zf
              go_cut [95] from 16 to 162 (fun s95 wc => s95 = .bool (sh10 lab x) ∧ Hid (St4 w wc wo.heap.size p9 #[.slice ta l.length tc] #[.slice (some ⟨b1, o1, none⟩) m.fs.length c1, .slice a2 m.us.length c2] #[.int .i64 x.num, .slice ka x.ks.length kc, .slice va x.vs.length vc] #[.string (strOfNums fnm), .int .i64 fnu, .int .i64 fk, .int .i64 fr, .int .i64 lab, .int .i64 fo, .int .i64 fkey]))
              case first =>
                as_aux_lemma =>
                  clear HR HRF HL5 QK QV
                  have xt := HS4.out.t.cellF
                  have zt := HS4.out.t.lt
                  have xm := HS4.out.m.cellF
                  have zm := HS4.out.m.lt
                  have xx := HS4.out.x.cellF
                  have zx := HS4.out.x.lt
                  have xf := HS4.out.f.cellF
                  have zf := HS4.out.f.lt
                  have mv : (x.vs.length : Int) ≤ 4000000 := by have := LV.out; omega
                  by_cases h0 : lab = 0
                  · subst h0
                    by_cases hl : x.vs.length = 1
                    · have HB8 : Hid (Value.bool false = .bool (sh10 0 x)) := hid (by unfold sh10; simp [hl])
                      have k1 : ((x.vs.length : Int) == 1) = true := by simp [hl]
                      clear hl
                      have hl : (x.vs.length : Int) = 1 := by simpa using k1
                      go_wp2_with fail
                      go_meet
                      exact ⟨by first | exact HB8.out | (rw [← HB8.out]; simp; omega), HS4⟩
                    · have HB8 : Hid (Value.bool true = .bool (sh10 0 x)) := hid (by unfold sh10; simp [hl])
                      have k1 : ((x.vs.length : Int) == 1) = false := by simpa using (show ¬ (x.vs.length : Int) = 1 by omega)
                      have k2 : ¬ (x.vs.length : Int) = 1 := by omega
                      go_wp2_with fail
                      go_meet
                      exact ⟨by first | exact HB8.out | (rw [← HB8.out]; simp; omega), HS4⟩
                  have k0x : (lab == 0) = false := by simpa using h0
                  by_cases h1 : lab = 1
                  · subst h1
                    by_cases hl : x.vs.length = 1
                    · have HB8 : Hid (Value.bool false = .bool (sh10 1 x)) := hid (by unfold sh10; simp [hl])
                      have k1 : ((x.vs.length : Int) == 1) = true := by simp [hl]
                      clear hl
                      have hl : (x.vs.length : Int) = 1 := by simpa using k1
                      go_wp2_with fail
                      go_meet
                      exact ⟨by first | exact HB8.out | (rw [← HB8.out]; simp; omega), HS4⟩
                    · have HB8 : Hid (Value.bool true = .bool (sh10 1 x)) := hid (by unfold sh10; simp [hl])
                      have k1 : ((x.vs.length : Int) == 1) = false := by simpa using (show ¬ (x.vs.length : Int) = 1 by omega)
                      have k2 : ¬ (x.vs.length : Int) = 1 := by omega
                      go_wp2_with fail
                      go_meet
                      exact ⟨by first | exact HB8.out | (rw [← HB8.out]; simp; omega), HS4⟩
                  have k1x : (lab == 1) = false := by simpa using h1
                  by_cases h4 : lab = 4
                  · subst h4
                    by_cases hl : x.vs.length = 1
                    · have HB8 : Hid (Value.bool false = .bool (sh10 4 x)) := hid (by unfold sh10; simp [hl])
                      have k1 : ((x.vs.length : Int) == 1) = true := by simp [hl]
                      clear hl
                      have hl : (x.vs.length : Int) = 1 := by simpa using k1
                      go_wp2_with fail
                      go_meet
                      exact ⟨by first | exact HB8.out | (rw [← HB8.out]; simp; omega), HS4⟩
                    · have HB8 : Hid (Value.bool true = .bool (sh10 4 x)) := hid (by unfold sh10; simp [hl])
                      have k1 : ((x.vs.length : Int) == 1) = false := by simpa using (show ¬ (x.vs.length : Int) = 1 by omega)
                      have k2 : ¬ (x.vs.length : Int) = 1 := by omega
                      go_wp2_with fail
                      go_meet
                      exact ⟨by first | exact HB8.out | (rw [← HB8.out]; simp; omega), HS4⟩
                  have k4x : (lab == 4) = false := by simpa using h4
                  have HB8 : Hid (Value.bool false = .bool (sh10 lab x)) := hid (by unfold sh10; simp [h0, h1, h4])
                  go_wp2_with fail
                  go_meet
                  exact ⟨by first | exact HB8.out | (rw [← HB8.out]; simp; omega), HS4⟩
              case rest =>
                obtain ⟨rfl, HS5⟩ := hcut
                clear HS4
                have HS4 := HS5
                clear HS5
                cases h10 : sh10 lab x with
                | true =>
                  have HF : Hid (res = false) := hid (by rw [HR.out, h10]; rfl)
                  clear HR
                  have xt := HS4.out.t.cellF
                  have zt := HS4.out.t.lt
                  have xm := HS4.out.m.cellF
                  have zm := HS4.out.m.lt
                  have xx := HS4.out.x.cellF
                  have zx := HS4.out.x.lt
                  have xf := HS4.out.f.cellF
                  have zf := HS4.out.f.lt
                  go_wp2
                  go_ret
                  exact ⟨ret_bool HF.out.symm, HS4.out.b⟩
                | false =>
                  rw [h10] at HR
                  simp only [Bool.not_false, Bool.true_and] at HR
                  clear h10
                  have xt := HS4.out.t.cellF
                  have zt := HS4.out.t.lt
                  have xm := HS4.out.m.cellF
                  have zm := HS4.out.m.lt
                  have xx := HS4.out.x.cellF
                  have zx := HS4.out.x.lt
                  have xf := HS4.out.f.cellF
                  have zf := HS4.out.f.lt
                  go_wp2
                  clear xt zt xm zm xx zx xf zf
                  go_loopw [11] (fun s11 wr => ∃ (k : Nat), s11 = .int .i64 k ∧ k ≤ x.vs.length ∧ Hid (x.vs.all (valD l T fk fr) = (x.vs.drop k).all (valD l T fk fr)) ∧ Hid (St4 w wr wo.heap.size p9 #[.slice ta l.length tc] #[.slice (some ⟨b1, o1, none⟩) m.fs.length c1, .slice a2 m.us.length c2] #[.int .i64 x.num, .slice ka x.ks.length kc, .slice va x.vs.length vc] #[.string (strOfNums fnm), .int .i64 fnu, .int .i64 fk, .int .i64 fr, .int .i64 lab, .int .i64 fo, .int .i64 fkey])) (fun s11 wr => x.vs.length - numAt wr s11)
                  case atStart => exact ⟨0, rfl, by omega, hid rfl, HS4⟩
                  case round =>
                    clear HS4
                    obtain ⟨k, rfl, hk, HA, HS4⟩ := hrel
                    have xt := HS4.out.t.cellF
                    have zt := HS4.out.t.lt
                    have xm := HS4.out.m.cellF
                    have zm := HS4.out.m.lt
                    have xx := HS4.out.x.cellF
                    have zx := HS4.out.x.lt
                    have xf := HS4.out.f.cellF
                    have zf := HS4.out.f.lt
                    have lvs := LV.out
                    by_cases hkl : k < x.vs.length
                    · as_aux_lemma =>
                        have k3 : (k : Int) < (x.vs.length : Int) := by omega
                        obtain ⟨b2, o2, ba, bc, ma, mc, rfl, hz2, hb2, e0, e1, e2, hv⟩ := vls_at (QV.out.kept HS4.out.b) hkl
                        have HVX := hid fun W (hW : Below wr.heap.size wr W) => HVL.out W (below_trans HS4.out.b hW) fk fr HRF.out _ _ (hv.kept hW)
                        have HD : Hid ((x.vs.drop k).all (valD l T fk fr) = (valD l T fk fr x.vs[k] && (x.vs.drop (k + 1)).all (valD l T fk fr))) := hid (by rw [List.drop_eq_getElem_cons hkl, List.all_cons])
                        generalize valD l T fk fr x.vs[k] = vb at *
                        generalize x.vs[k] = v at *
                        have HSK : Hid (∀ W, Below wr.heap.size wr W → (fun W => (∀ k, W.cell? ⟨w.heap.size, k, none⟩ = #[.slice ta l.length tc][k]?) ∧ (∀ k, W.cell? ⟨p9, k, none⟩ = #[.string (strOfNums fnm), .int .i64 fnu, .int .i64 fk, .int .i64 fr, .int .i64 lab, .int .i64 fo, .int .i64 fkey][k]?) ∧ (∀ k, W.cell? ⟨wo.heap.size, k, none⟩ = #[.int .i64 x.num, .slice ka x.ks.length kc, .slice (some ⟨b2, o2, none⟩) x.vs.length vc][k]?) ∧ W.cell? ⟨b2, o2 + k * 3, none⟩ = some (.int .u64 v.n) ∧ W.cell? ⟨b2, o2 + k * 3 + 1, none⟩ = some (.slice ba v.b.length bc) ∧ W.cell? ⟨b2, o2 + k * 3 + 2, none⟩ = some (.slice ma v.ms.length mc)) W) := hid fun W hW => ⟨(HS4.out.t.kept hW).cellF, (HS4.out.f.kept hW).cellF, (HS4.out.x.kept hW).cellF, cell_below e0 hW, cell_below e1 hW, cell_below e2 hW⟩
                        clear hv hz2 e0 e1 e2 QK HL5 HOX GU HVL
                        go_upto_region 15 with fail
                        clear xt zt xm zm xx zx xf zf
                        go_region_held3 (fun W => (∀ k, W.cell? ⟨w.heap.size, k, none⟩ = #[.slice ta l.length tc][k]?) ∧ (∀ k, W.cell? ⟨p9, k, none⟩ = #[.string (strOfNums fnm), .int .i64 fnu, .int .i64 fk, .int .i64 fr, .int .i64 lab, .int .i64 fo, .int .i64 fkey][k]?) ∧ (∀ k, W.cell? ⟨wo.heap.size, k, none⟩ = #[.int .i64 x.num, .slice ka x.ks.length kc, .slice (some ⟨b2, o2, none⟩) x.vs.length vc][k]?) ∧ W.cell? ⟨b2, o2 + k * 3, none⟩ = some (.int .u64 v.n) ∧ W.cell? ⟨b2, o2 + k * 3 + 1, none⟩ = some (.slice ba v.b.length bc) ∧ W.cell? ⟨b2, o2 + k * 3 + 2, none⟩ = some (.slice ma v.ms.length mc)) (exact HSK.out _ (by first | exact KU.out | exact below_drew1 _ | exact Below.refl _ _)) ((go_at_call 41; refine (HVX.out _ (below_drew1 _)).mono ?_; rintro e u1 ⟨rfl, hbu⟩; have KU : Hid (Below wr.heap.size wr u1) := hid (bl_then (below_drew1 _) hbu); clear hbu))
                        all_goals (
                          have HS5 := hid (HS4.out.kept KU.out)
                          clear HSK HVX HS4
                          have xt := HS5.out.t.cellF
                          have zt := HS5.out.t.lt
                          have xm := HS5.out.m.cellF
                          have zm := HS5.out.m.lt
                          have xx := HS5.out.x.cellF
                          have zx := HS5.out.x.lt
                          have xf := HS5.out.f.cellF
                          have zf := HS5.out.f.lt
                          cases vb with
                          | false =>
                            have HF : Hid (res = false) := hid (by rw [HR.out, HA.out, HD.out]; rfl)
                            go_wp2
                            go_ret
                            exact ⟨ret_bool HF.out.symm, HS5.out.b⟩
                          | true =>
                            have HA2 : Hid (x.vs.all (valD l T fk fr) = (x.vs.drop (k + 1)).all (valD l T fk fr)) := hid (by rw [HA.out, HD.out]; rfl)
                            go_wp2
                            exact ⟨⟨k + 1, by simp, by omega, HA2, HS5⟩, by simp [numAt]; omega⟩)
                    · have k3 : ¬ (k : Int) < (x.vs.length : Int) := by omega
                      have HV : Hid (x.vs.all (valD l T fk fr) = true) := hid (by rw [HA.out, List.drop_of_length_le (by omega)]; rfl)
                      rw [HV.out, Bool.true_and] at HR
                      clear HV HA QV
                      go_wp2
                      clear xt zt xm zm xx zx xf zf
                      go_loopw [12] (fun s12 wr => ∃ (k : Nat), s12 = .int .i64 k ∧ k ≤ x.ks.length ∧ Hid (allF (keyD l T fkey x.ks) 0 x.ks.length = allF (keyD l T fkey x.ks) k x.ks.length) ∧ Hid (St4 w wr wo.heap.size p9 #[.slice ta l.length tc] #[.slice (some ⟨b1, o1, none⟩) m.fs.length c1, .slice a2 m.us.length c2] #[.int .i64 x.num, .slice ka x.ks.length kc, .slice va x.vs.length vc] #[.string (strOfNums fnm), .int .i64 fnu, .int .i64 fk, .int .i64 fr, .int .i64 lab, .int .i64 fo, .int .i64 fkey])) (fun s12 wr => x.ks.length - numAt wr s12)
                      case atStart => exact ⟨0, rfl, by omega, hid rfl, HS4⟩
                      case round =>
                        clear HS4
                        clear hk k3 hkl
                        obtain ⟨k, rfl, hk, HA, HS4⟩ := hrel
                        have xt := HS4.out.t.cellF
                        have zt := HS4.out.t.lt
                        have xm := HS4.out.m.cellF
                        have zm := HS4.out.m.lt
                        have xx := HS4.out.x.cellF
                        have zx := HS4.out.x.lt
                        have xf := HS4.out.f.cellF
                        have zf := HS4.out.f.lt
                        have lks := LK.out
                        by_cases hkl : k < x.ks.length
                        · have k3 : (k : Int) < (x.ks.length : Int) := by omega
                          obtain ⟨b2, o2, ba, bc, ma, mc, rfl, hz2, hb2, e0, e1, e2, hv⟩ := vls_at (QK.out.kept HS4.out.b) hkl
                          have hky := HL5.out (by omega)
                          have HVX := hid fun W (hW : Below wr.heap.size wr W) => HVL.out W (below_trans HS4.out.b hW) fkey 0 (fun e => absurd e (by have := key_kind hky; omega)) _ _ (hv.kept hW)
                          have HAS := hid (allF_step (P := keyD l T fkey x.ks) hkl)
                          rw [keyD_at hkl] at HAS
                          obtain ⟨_, _, _, _, e5, g1, -, bl1, -, hu⟩ := val_open hv
                          simp only [List.cons.injEq, Value.slice.injEq, true_and, and_true] at e5
                          obtain ⟨⟨rfl, rfl⟩, rfl, rfl⟩ := e5
                          have HPK : Hid (∀ k', k = k' + 1 → ∃ (v' : CV CM) (ba' : Option Addr) (bc' : Nat) (ma' : Option Addr) (mc' : Nat), (wr.cell? ⟨b2, o2 + k' * 3, none⟩ = some (.int .u64 v'.n) ∧ wr.cell? ⟨b2, o2 + k' * 3 + 1, none⟩ = some (.slice ba' v'.b.length bc') ∧ wr.cell? ⟨b2, o2 + k' * 3 + 2, none⟩ = some (.slice ma' v'.ms.length mc')) ∧ keyAt fkey x.ks k x.ks[k] = decide (cmpV fkey v'.n x.ks[k].n v'.b x.ks[k].b < 0) ∧ ∀ W, Below wr.heap.size wr W → Calls Tryz.prog 42 #[.int .i64 fkey, .agg #[.int .u64 v'.n, .slice ba' v'.b.length bc', .slice ma' v'.ms.length mc'], .agg #[.int .u64 x.ks[k].n, .slice ba x.ks[k].b.length bc, .slice ma x.ks[k].ms.length mc]] W fun e w' => e = .returned (.int .i64 (cmpV fkey v'.n x.ks[k].n v'.b x.ks[k].b)) ∧ Below W.heap.size W w') := hid (by
                            rintro k' rfl
                            obtain ⟨b3, o3, ba', bc', ma', mc', e3, -, -, f0, f1, f2, hv'⟩ := vls_at (QK.out.kept HS4.out.b) (show k' < x.ks.length by omega)
                            cases e3
                            obtain ⟨_, _, _, _, e5, g1', -, -, -, hu'⟩ := val_open hv'
                            simp only [List.cons.injEq, Value.slice.injEq, true_and, and_true] at e5
                            obtain ⟨⟨rfl, rfl⟩, rfl, rfl⟩ := e5
                            exact ⟨_, ba', bc', ma', mc', ⟨f0, f1, f2⟩, keyAt_succ (by omega), fun W hW => compareR _ _ _ _ _ _ _ _ _ _ _ _ _ _ _ _ _ _ hky hu'.1 hu'.2 hu.1 hu.2 (ByE.rd (g1'.kept hW)) (ByE.rd (g1.kept hW))⟩)
                          have HPZ : Hid (k = 0 → keyAt fkey x.ks k x.ks[k] = true) := hid (by rintro rfl; exact keyAt_zero)
                          generalize valD l T fkey 0 x.ks[k] = vb at *
                          generalize keyAt fkey x.ks k x.ks[k] = ka1 at *
                          generalize x.ks[k] = v at *
                          clear hv hz2 HOX GU HVL HRF HL5 g1
                          cases vb with
                          | false =>
                            have HSK : Hid (∀ W, Below wr.heap.size wr W → (fun W => (∀ k, W.cell? ⟨w.heap.size, k, none⟩ = #[.slice ta l.length tc][k]?) ∧ (∀ k, W.cell? ⟨p9, k, none⟩ = #[.string (strOfNums fnm), .int .i64 fnu, .int .i64 fk, .int .i64 fr, .int .i64 lab, .int .i64 fo, .int .i64 fkey][k]?) ∧ (∀ k, W.cell? ⟨wo.heap.size, k, none⟩ = #[.int .i64 x.num, .slice (some ⟨b2, o2, none⟩) x.ks.length kc, .slice va x.vs.length vc][k]?) ∧ W.cell? ⟨b2, o2 + k * 3, none⟩ = some (.int .u64 v.n) ∧ W.cell? ⟨b2, o2 + k * 3 + 1, none⟩ = some (.slice ba v.b.length bc) ∧ W.cell? ⟨b2, o2 + k * 3 + 2, none⟩ = some (.slice ma v.ms.length mc)) W) := hid fun W hW => ⟨(HS4.out.t.kept hW).cellF, (HS4.out.f.kept hW).cellF, (HS4.out.x.kept hW).cellF, cell_below e0 hW, cell_below e1 hW, cell_below e2 hW⟩
                            clear e0 e1 e2 HPK HPZ
                            go_upto_region 20 with fail
                            clear xt zt xm zm xx zx xf zf
                            refine wp_region_held_drew (S := (fun W => (∀ k, W.cell? ⟨w.heap.size, k, none⟩ = #[.slice ta l.length tc][k]?) ∧ (∀ k, W.cell? ⟨p9, k, none⟩ = #[.string (strOfNums fnm), .int .i64 fnu, .int .i64 fk, .int .i64 fr, .int .i64 lab, .int .i64 fo, .int .i64 fkey][k]?) ∧ (∀ k, W.cell? ⟨wo.heap.size, k, none⟩ = #[.int .i64 x.num, .slice (some ⟨b2, o2, none⟩) x.ks.length kc, .slice va x.vs.length vc][k]?) ∧ W.cell? ⟨b2, o2 + k * 3, none⟩ = some (.int .u64 v.n) ∧ W.cell? ⟨b2, o2 + k * 3 + 1, none⟩ = some (.slice ba v.b.length bc) ∧ W.cell? ⟨b2, o2 + k * 3 + 2, none⟩ = some (.slice ma v.ms.length mc))) (by kernel_rfl) ?_ (fun hHeld => ?_)
                            · exact HSK.out _ (below_drew1 _)
                            refine wpAnyH_take (i := 0) (v := ?_) rfl (by kernel_rfl) (by kernel_rfl) (by kernel_rfl) (fun _ _ _ h => h) (Or.inl ⟨by rfl, ?_⟩) (by assumption) ?_
                            rotate_left
                            · (intro w hSw; (try dsimp only at hSw); go_simp; (try with_reducible rfl))
                            try simp only [Act.put, List.getElem_toArray, List.getElem_cons_succ, List.getElem_cons_zero, List.setIfInBounds_toArray, List.set_cons_zero, List.set_cons_succ]
                            refine wpAnyH_take (i := 1) (v := ?_) rfl (by kernel_rfl) (by kernel_rfl) (by kernel_rfl) (fun _ _ _ h => h) (Or.inl ⟨by rfl, ?_⟩) (by assumption) ?_
                            rotate_left
                            · (intro w hSw; (try dsimp only at hSw); go_simp; (try with_reducible rfl))
                            try simp only [Act.put, List.getElem_toArray, List.getElem_cons_succ, List.getElem_cons_zero, List.setIfInBounds_toArray, List.set_cons_zero, List.set_cons_succ]
                            refine wpAnyH_take (i := 2) (v := ?_) rfl (by kernel_rfl) (by kernel_rfl) (by kernel_rfl) (fun _ _ _ h => h) (Or.inl ⟨by rfl, ?_⟩) (by assumption) ?_
                            rotate_left
                            · (intro w hSw; (try dsimp only at hSw); go_simp; (try with_reducible rfl))
                            try simp only [Act.put, List.getElem_toArray, List.getElem_cons_succ, List.getElem_cons_zero, List.setIfInBounds_toArray, List.set_cons_zero, List.set_cons_succ]
                            refine wpAnyH_take (i := 3) (v := ?_) rfl (by kernel_rfl) (by kernel_rfl) (by kernel_rfl) (fun _ _ _ h => h) (Or.inl ⟨by rfl, ?_⟩) (by assumption) ?_
                            rotate_left
                            · (intro w hSw; (try dsimp only at hSw); go_simp; (try with_reducible rfl))
                            try simp only [Act.put, List.getElem_toArray, List.getElem_cons_succ, List.getElem_cons_zero, List.setIfInBounds_toArray, List.set_cons_zero, List.set_cons_succ]
                            refine wpAnyH_take (i := 4) (v := ?_) rfl (by kernel_rfl) (by kernel_rfl) (by kernel_rfl) (fun _ _ _ h => h) (Or.inl ⟨by rfl, ?_⟩) (by assumption) ?_
                            rotate_left
                            · (intro w hSw; (try dsimp only at hSw); go_simp; (try with_reducible rfl))
                            try simp only [Act.put, List.getElem_toArray, List.getElem_cons_succ, List.getElem_cons_zero, List.setIfInBounds_toArray, List.set_cons_zero, List.set_cons_succ]
                            refine wpAnyH_take (i := 5) (v := ?_) rfl (by kernel_rfl) (by kernel_rfl) (by kernel_rfl) (fun _ _ _ h => h) (Or.inl ⟨by rfl, ?_⟩) (by assumption) ?_
                            rotate_left
                            · (intro w hSw; (try dsimp only at hSw); go_simp; (try with_reducible rfl))
                            try simp only [Act.put, List.getElem_toArray, List.getElem_cons_succ, List.getElem_cons_zero, List.setIfInBounds_toArray, List.set_cons_zero, List.set_cons_succ]
                            refine wpAnyH_take (i := 6) (v := ?_) rfl (by kernel_rfl) (by kernel_rfl) (by kernel_rfl) (fun _ _ _ h => h) (Or.inl ⟨by rfl, ?_⟩) (by assumption) ?_
                            rotate_left
                            · (intro w hSw; (try dsimp only at hSw); go_simp; (try with_reducible rfl))
                            try simp only [Act.put, List.getElem_toArray, List.getElem_cons_succ, List.getElem_cons_zero, List.setIfInBounds_toArray, List.set_cons_zero, List.set_cons_succ]
                            refine wpAnyH_take (i := 7) (v := ?_) rfl (by kernel_rfl) (by kernel_rfl) (by kernel_rfl) (fun _ _ _ h => h) (Or.inl ⟨by rfl, ?_⟩) (by assumption) ?_
                            rotate_left
                            · (intro w hSw; (try dsimp only at hSw); go_simp; (try with_reducible rfl))
                            try simp only [Act.put, List.getElem_toArray, List.getElem_cons_succ, List.getElem_cons_zero, List.setIfInBounds_toArray, List.set_cons_zero, List.set_cons_succ]
                            refine wpAnyH_ready (rs := [8]) (by kernel_rfl) (by simp) ?_
                            refine AllReadyH.cons rfl (fun K hK => ?_) AllReadyH.nil
                            go_simp
                            go_wp2_with (go_at_call 41; refine (HVX.out _ (below_drew1 _)).mono ?_; rintro e u1 ⟨rfl, hbu⟩; have Ku1 : Hid (Below wr.heap.size wr u1) := hid (bl_then (below_drew1 _) hbu); clear hbu)
                            refine hK.out _ _ ?_ (fun hHeld => ?_)
                            · first | assumption | exact HSK.out _ Ku1.out
                            clear hK K
                            try simp only [Act.put, List.getElem_toArray, List.getElem_cons_succ, List.getElem_cons_zero, List.setIfInBounds_toArray, List.set_cons_zero, List.set_cons_succ]
                            refine wpAnyH_take (i := 9) (v := ?_) rfl (by kernel_rfl) (by kernel_rfl) (by kernel_rfl) (fun _ _ _ h => h) (Or.inl ⟨by rfl, ?_⟩) (by assumption) ?_
                            rotate_left
                            · (intro w hSw; (try dsimp only at hSw); go_simp; (try with_reducible rfl))
                            try simp only [Act.put, List.getElem_toArray, List.getElem_cons_succ, List.getElem_cons_zero, List.setIfInBounds_toArray, List.set_cons_zero, List.set_cons_succ]
                            refine wpAnyH_take (i := 10) (v := ?_) rfl (by kernel_rfl) (by kernel_rfl) (by kernel_rfl) (fun _ _ _ h => h) (Or.inl ⟨by rfl, ?_⟩) (by assumption) ?_
                            rotate_left
                            · (intro w hSw; (try dsimp only at hSw); go_simp; (try with_reducible rfl))
                            try simp only [Act.put, List.getElem_toArray, List.getElem_cons_succ, List.getElem_cons_zero, List.setIfInBounds_toArray, List.set_cons_zero, List.set_cons_succ]
                            refine wpAnyH_take (i := 11) (v := undef) rfl (by kernel_rfl) (by kernel_rfl) (by kernel_rfl) (fun _ _ _ h => h) (Or.inr ⟨by kernel_rfl, rfl⟩) (by assumption) ?_
                            try simp only [Act.put, List.getElem_toArray, List.getElem_cons_succ, List.getElem_cons_zero, List.setIfInBounds_toArray, List.set_cons_zero, List.set_cons_succ]
                            refine wpAnyH_take (i := 12) (v := undef) rfl (by kernel_rfl) (by kernel_rfl) (by kernel_rfl) (fun _ _ _ h => h) (Or.inr ⟨by kernel_rfl, rfl⟩) (by assumption) ?_
                            try simp only [Act.put, List.getElem_toArray, List.getElem_cons_succ, List.getElem_cons_zero, List.setIfInBounds_toArray, List.set_cons_zero, List.set_cons_succ]
                            refine wpAnyH_take (i := 13) (v := undef) rfl (by kernel_rfl) (by kernel_rfl) (by kernel_rfl) (fun _ _ _ h => h) (Or.inr ⟨by kernel_rfl, rfl⟩) (by assumption) ?_
                            try simp only [Act.put, List.getElem_toArray, List.getElem_cons_succ, List.getElem_cons_zero, List.setIfInBounds_toArray, List.set_cons_zero, List.set_cons_succ]
                            refine wpAnyH_take (i := 14) (v := undef) rfl (by kernel_rfl) (by kernel_rfl) (by kernel_rfl) (fun _ _ _ h => h) (Or.inr ⟨by kernel_rfl, rfl⟩) (by assumption) ?_
                            try simp only [Act.put, List.getElem_toArray, List.getElem_cons_succ, List.getElem_cons_zero, List.setIfInBounds_toArray, List.set_cons_zero, List.set_cons_succ]
                            refine wpAnyH_take (i := 15) (v := undef) rfl (by kernel_rfl) (by kernel_rfl) (by kernel_rfl) (fun _ _ _ h => h) (Or.inr ⟨by kernel_rfl, rfl⟩) (by assumption) ?_
                            try simp only [Act.put, List.getElem_toArray, List.getElem_cons_succ, List.getElem_cons_zero, List.setIfInBounds_toArray, List.set_cons_zero, List.set_cons_succ]
                            refine wpAnyH_take (i := 16) (v := undef) rfl (by kernel_rfl) (by kernel_rfl) (by kernel_rfl) (fun _ _ _ h => h) (Or.inr ⟨by kernel_rfl, rfl⟩) (by assumption) ?_
                            try simp only [Act.put, List.getElem_toArray, List.getElem_cons_succ, List.getElem_cons_zero, List.setIfInBounds_toArray, List.set_cons_zero, List.set_cons_succ]
                            refine wpAnyH_take (i := 17) (v := undef) rfl (by kernel_rfl) (by kernel_rfl) (by kernel_rfl) (fun _ _ _ h => h) (Or.inr ⟨by kernel_rfl, rfl⟩) (by assumption) ?_
                            try simp only [Act.put, List.getElem_toArray, List.getElem_cons_succ, List.getElem_cons_zero, List.setIfInBounds_toArray, List.set_cons_zero, List.set_cons_succ]
                            refine wpAnyH_take (i := 18) (v := undef) rfl (by kernel_rfl) (by kernel_rfl) (by kernel_rfl) (fun _ _ _ h => h) (Or.inr ⟨by kernel_rfl, rfl⟩) (by assumption) ?_
                            try simp only [Act.put, List.getElem_toArray, List.getElem_cons_succ, List.getElem_cons_zero, List.setIfInBounds_toArray, List.set_cons_zero, List.set_cons_succ]
                            refine wpAnyH_take (i := 19) (v := undef) rfl (by kernel_rfl) (by kernel_rfl) (by kernel_rfl) (fun _ _ _ h => h) (Or.inr ⟨by kernel_rfl, rfl⟩) (by assumption) ?_
                            try simp only [Act.put, List.getElem_toArray, List.getElem_cons_succ, List.getElem_cons_zero, List.setIfInBounds_toArray, List.set_cons_zero, List.set_cons_succ]
                            refine wpAnyH_take (i := 20) (v := undef) rfl (by kernel_rfl) (by kernel_rfl) (by kernel_rfl) (fun _ _ _ h => h) (Or.inr ⟨by kernel_rfl, rfl⟩) (by assumption) ?_
                            try simp only [Act.put, List.getElem_toArray, List.getElem_cons_succ, List.getElem_cons_zero, List.setIfInBounds_toArray, List.set_cons_zero, List.set_cons_succ]
                            refine wpAnyH_take (i := 21) (v := undef) rfl (by kernel_rfl) (by kernel_rfl) (by kernel_rfl) (fun _ _ _ h => h) (Or.inr ⟨by kernel_rfl, rfl⟩) (by assumption) ?_
                            try simp only [Act.put, List.getElem_toArray, List.getElem_cons_succ, List.getElem_cons_zero, List.setIfInBounds_toArray, List.set_cons_zero, List.set_cons_succ]
                            refine wpAnyH_take (i := 22) (v := undef) rfl (by kernel_rfl) (by kernel_rfl) (by kernel_rfl) (fun _ _ _ h => h) (Or.inr ⟨by kernel_rfl, rfl⟩) (by assumption) ?_
                            try simp only [Act.put, List.getElem_toArray, List.getElem_cons_succ, List.getElem_cons_zero, List.setIfInBounds_toArray, List.set_cons_zero, List.set_cons_succ]
                            refine wpAnyH_take (i := 23) (v := undef) rfl (by kernel_rfl) (by kernel_rfl) (by kernel_rfl) (fun _ _ _ h => h) (Or.inr ⟨by kernel_rfl, rfl⟩) (by assumption) ?_
                            try simp only [Act.put, List.getElem_toArray, List.getElem_cons_succ, List.getElem_cons_zero, List.setIfInBounds_toArray, List.set_cons_zero, List.set_cons_succ]
                            refine wpAnyH_take (i := 24) (v := undef) rfl (by kernel_rfl) (by kernel_rfl) (by kernel_rfl) (fun _ _ _ h => h) (Or.inr ⟨by kernel_rfl, rfl⟩) (by assumption) ?_
                            try simp only [Act.put, List.getElem_toArray, List.getElem_cons_succ, List.getElem_cons_zero, List.setIfInBounds_toArray, List.set_cons_zero, List.set_cons_succ]
                            refine wpAnyH_take (i := 25) (v := undef) rfl (by kernel_rfl) (by kernel_rfl) (by kernel_rfl) (fun _ _ _ h => h) (Or.inr ⟨by kernel_rfl, rfl⟩) (by assumption) ?_
                            try simp only [Act.put, List.getElem_toArray, List.getElem_cons_succ, List.getElem_cons_zero, List.setIfInBounds_toArray, List.set_cons_zero, List.set_cons_succ]
                            refine wpAnyH_take (i := 26) (v := undef) rfl (by kernel_rfl) (by kernel_rfl) (by kernel_rfl) (fun _ _ _ h => h) (Or.inr ⟨by kernel_rfl, rfl⟩) (by assumption) ?_
                            try simp only [Act.put, List.getElem_toArray, List.getElem_cons_succ, List.getElem_cons_zero, List.setIfInBounds_toArray, List.set_cons_zero, List.set_cons_succ]
                            refine wpAnyH_take (i := 27) (v := undef) rfl (by kernel_rfl) (by kernel_rfl) (by kernel_rfl) (fun _ _ _ h => h) (Or.inr ⟨by kernel_rfl, rfl⟩) (by assumption) ?_
                            try simp only [Act.put, List.getElem_toArray, List.getElem_cons_succ, List.getElem_cons_zero, List.setIfInBounds_toArray, List.set_cons_zero, List.set_cons_succ]
                            refine wpAnyH_take (i := 28) (v := undef) rfl (by kernel_rfl) (by kernel_rfl) (by kernel_rfl) (fun _ _ _ h => h) (Or.inr ⟨by kernel_rfl, rfl⟩) (by assumption) ?_
                            try simp only [Act.put, List.getElem_toArray, List.getElem_cons_succ, List.getElem_cons_zero, List.setIfInBounds_toArray, List.set_cons_zero, List.set_cons_succ]
                            refine wpAnyH_take (i := 29) (v := undef) rfl (by kernel_rfl) (by kernel_rfl) (by kernel_rfl) (fun _ _ _ h => h) (Or.inr ⟨by kernel_rfl, rfl⟩) (by assumption) ?_
                            try simp only [Act.put, List.getElem_toArray, List.getElem_cons_succ, List.getElem_cons_zero, List.setIfInBounds_toArray, List.set_cons_zero, List.set_cons_succ]
                            refine wpAnyH_take (i := 30) (v := ?_) rfl (by kernel_rfl) (by kernel_rfl) (by kernel_rfl) (fun _ _ _ h => h) (Or.inl ⟨by rfl, ?_⟩) (by assumption) ?_
                            rotate_left
                            · (intro w hSw; (try dsimp only at hSw); go_simp; (try with_reducible rfl))
                            try simp only [Act.put, List.getElem_toArray, List.getElem_cons_succ, List.getElem_cons_zero, List.setIfInBounds_toArray, List.set_cons_zero, List.set_cons_succ]
                            refine wpAnyH_done (by kernel_rfl) ?_ _
                            have HS5 := hid (HS4.out.kept Ku1.out)
                            clear HSK HVX HS4
                            have xt := HS5.out.t.cellF
                            have zt := HS5.out.t.lt
                            have xm := HS5.out.m.cellF
                            have zm := HS5.out.m.lt
                            have xx := HS5.out.x.cellF
                            have zx := HS5.out.x.lt
                            have xf := HS5.out.f.cellF
                            have zf := HS5.out.f.lt
                            have HF : Hid (res = false) := hid (by rw [HR.out, HA.out, HAS.out]; rfl)
                            go_wp2
                            go_ret
                            exact ⟨ret_bool HF.out.symm, HS5.out.b⟩
                          | true =>
                            rcases Nat.eq_zero_or_pos k with h0 | h0
                            · as_aux_lemma =>
                                have hka := HPZ.out h0
                                subst h0
                                subst hka
                                simp only [Nat.zero_mul, Nat.add_zero] at e0 e1 e2
                                have HSK : Hid (∀ W, Below wr.heap.size wr W → (fun W => (∀ k, W.cell? ⟨w.heap.size, k, none⟩ = #[.slice ta l.length tc][k]?) ∧ (∀ k, W.cell? ⟨p9, k, none⟩ = #[.string (strOfNums fnm), .int .i64 fnu, .int .i64 fk, .int .i64 fr, .int .i64 lab, .int .i64 fo, .int .i64 fkey][k]?) ∧ (∀ k, W.cell? ⟨wo.heap.size, k, none⟩ = #[.int .i64 x.num, .slice (some ⟨b2, o2, none⟩) x.ks.length kc, .slice va x.vs.length vc][k]?) ∧ W.cell? ⟨b2, o2, none⟩ = some (.int .u64 v.n) ∧ W.cell? ⟨b2, o2 + 1, none⟩ = some (.slice ba v.b.length bc) ∧ W.cell? ⟨b2, o2 + 2, none⟩ = some (.slice ma v.ms.length mc)) W) := hid fun W hW => ⟨(HS4.out.t.kept hW).cellF, (HS4.out.f.kept hW).cellF, (HS4.out.x.kept hW).cellF, cell_below e0 hW, cell_below e1 hW, cell_below e2 hW⟩
                                clear e0 e1 e2 HPK HPZ
                                go_upto_region 20 with fail
                                clear xt zt xm zm xx zx xf zf
                                refine wp_region_held_drew (S := (fun W => (∀ k, W.cell? ⟨w.heap.size, k, none⟩ = #[.slice ta l.length tc][k]?) ∧ (∀ k, W.cell? ⟨p9, k, none⟩ = #[.string (strOfNums fnm), .int .i64 fnu, .int .i64 fk, .int .i64 fr, .int .i64 lab, .int .i64 fo, .int .i64 fkey][k]?) ∧ (∀ k, W.cell? ⟨wo.heap.size, k, none⟩ = #[.int .i64 x.num, .slice (some ⟨b2, o2, none⟩) x.ks.length kc, .slice va x.vs.length vc][k]?) ∧ W.cell? ⟨b2, o2, none⟩ = some (.int .u64 v.n) ∧ W.cell? ⟨b2, o2 + 1, none⟩ = some (.slice ba v.b.length bc) ∧ W.cell? ⟨b2, o2 + 2, none⟩ = some (.slice ma v.ms.length mc))) (by kernel_rfl) ?_ (fun hHeld => ?_)
                                · exact HSK.out _ (below_drew1 _)
                                refine wpAnyH_take (i := 0) (v := ?_) rfl (by kernel_rfl) (by kernel_rfl) (by kernel_rfl) (fun _ _ _ h => h) (Or.inl ⟨by rfl, ?_⟩) (by assumption) ?_
                                rotate_left
                                · (intro w hSw; (try dsimp only at hSw); go_simp; (try with_reducible rfl))
                                try simp only [Act.put, List.getElem_toArray, List.getElem_cons_succ, List.getElem_cons_zero, List.setIfInBounds_toArray, List.set_cons_zero, List.set_cons_succ]
                                refine wpAnyH_take (i := 1) (v := ?_) rfl (by kernel_rfl) (by kernel_rfl) (by kernel_rfl) (fun _ _ _ h => h) (Or.inl ⟨by rfl, ?_⟩) (by assumption) ?_
                                rotate_left
                                · (intro w hSw; (try dsimp only at hSw); go_simp; (try with_reducible rfl))
                                try simp only [Act.put, List.getElem_toArray, List.getElem_cons_succ, List.getElem_cons_zero, List.setIfInBounds_toArray, List.set_cons_zero, List.set_cons_succ]
                                refine wpAnyH_take (i := 2) (v := ?_) rfl (by kernel_rfl) (by kernel_rfl) (by kernel_rfl) (fun _ _ _ h => h) (Or.inl ⟨by rfl, ?_⟩) (by assumption) ?_
                                rotate_left
                                · (intro w hSw; (try dsimp only at hSw); go_simp; (try with_reducible rfl))
                                try simp only [Act.put, List.getElem_toArray, List.getElem_cons_succ, List.getElem_cons_zero, List.setIfInBounds_toArray, List.set_cons_zero, List.set_cons_succ]
                                refine wpAnyH_take (i := 3) (v := ?_) rfl (by kernel_rfl) (by kernel_rfl) (by kernel_rfl) (fun _ _ _ h => h) (Or.inl ⟨by rfl, ?_⟩) (by assumption) ?_
                                rotate_left
                                · (intro w hSw; (try dsimp only at hSw); go_simp; (try with_reducible rfl))
                                try simp only [Act.put, List.getElem_toArray, List.getElem_cons_succ, List.getElem_cons_zero, List.setIfInBounds_toArray, List.set_cons_zero, List.set_cons_succ]
                                refine wpAnyH_take (i := 4) (v := ?_) rfl (by kernel_rfl) (by kernel_rfl) (by kernel_rfl) (fun _ _ _ h => h) (Or.inl ⟨by rfl, ?_⟩) (by assumption) ?_
                                rotate_left
                                · (intro w hSw; (try dsimp only at hSw); go_simp; (try with_reducible rfl))
                                try simp only [Act.put, List.getElem_toArray, List.getElem_cons_succ, List.getElem_cons_zero, List.setIfInBounds_toArray, List.set_cons_zero, List.set_cons_succ]
                                refine wpAnyH_take (i := 5) (v := ?_) rfl (by kernel_rfl) (by kernel_rfl) (by kernel_rfl) (fun _ _ _ h => h) (Or.inl ⟨by rfl, ?_⟩) (by assumption) ?_
                                rotate_left
                                · (intro w hSw; (try dsimp only at hSw); go_simp; (try with_reducible rfl))
                                try simp only [Act.put, List.getElem_toArray, List.getElem_cons_succ, List.getElem_cons_zero, List.setIfInBounds_toArray, List.set_cons_zero, List.set_cons_succ]
                                refine wpAnyH_take (i := 6) (v := ?_) rfl (by kernel_rfl) (by kernel_rfl) (by kernel_rfl) (fun _ _ _ h => h) (Or.inl ⟨by rfl, ?_⟩) (by assumption) ?_
                                rotate_left
                                · (intro w hSw; (try dsimp only at hSw); go_simp; (try with_reducible rfl))
                                try simp only [Act.put, List.getElem_toArray, List.getElem_cons_succ, List.getElem_cons_zero, List.setIfInBounds_toArray, List.set_cons_zero, List.set_cons_succ]
                                refine wpAnyH_take (i := 7) (v := ?_) rfl (by kernel_rfl) (by kernel_rfl) (by kernel_rfl) (fun _ _ _ h => h) (Or.inl ⟨by rfl, ?_⟩) (by assumption) ?_
                                rotate_left
                                · (intro w hSw; (try dsimp only at hSw); go_simp; (try with_reducible rfl))
                                try simp only [Act.put, List.getElem_toArray, List.getElem_cons_succ, List.getElem_cons_zero, List.setIfInBounds_toArray, List.set_cons_zero, List.set_cons_succ]
                                refine wpAnyH_ready (rs := [8]) (by kernel_rfl) (by simp) ?_
                                refine AllReadyH.cons rfl (fun K hK => ?_) AllReadyH.nil
                                go_simp
                                go_wp2_with (go_at_call 41; refine (HVX.out _ (below_drew1 _)).mono ?_; rintro e u1 ⟨rfl, hbu⟩; have Ku1 : Hid (Below wr.heap.size wr u1) := hid (bl_then (below_drew1 _) hbu); clear hbu)
                                refine hK.out _ _ ?_ (fun hHeld => ?_)
                                · first | assumption | exact HSK.out _ Ku1.out
                                clear hK K
                                try simp only [Act.put, List.getElem_toArray, List.getElem_cons_succ, List.getElem_cons_zero, List.setIfInBounds_toArray, List.set_cons_zero, List.set_cons_succ]
                                refine wpAnyH_take (i := 9) (v := ?_) rfl (by kernel_rfl) (by kernel_rfl) (by kernel_rfl) (fun _ _ _ h => h) (Or.inl ⟨by rfl, ?_⟩) (by assumption) ?_
                                rotate_left
                                · (intro w hSw; (try dsimp only at hSw); go_simp; (try with_reducible rfl))
                                try simp only [Act.put, List.getElem_toArray, List.getElem_cons_succ, List.getElem_cons_zero, List.setIfInBounds_toArray, List.set_cons_zero, List.set_cons_succ]
                                refine wpAnyH_take (i := 10) (v := ?_) rfl (by kernel_rfl) (by kernel_rfl) (by kernel_rfl) (fun _ _ _ h => h) (Or.inl ⟨by rfl, ?_⟩) (by assumption) ?_
                                rotate_left
                                · (intro w hSw; (try dsimp only at hSw); go_simp; (try with_reducible rfl))
                                try simp only [Act.put, List.getElem_toArray, List.getElem_cons_succ, List.getElem_cons_zero, List.setIfInBounds_toArray, List.set_cons_zero, List.set_cons_succ]
                                refine wpAnyH_take (i := 11) (v := ?_) rfl (by kernel_rfl) (by kernel_rfl) (by kernel_rfl) (fun _ _ _ h => h) (Or.inl ⟨by rfl, ?_⟩) (by assumption) ?_
                                rotate_left
                                · (intro w hSw; (try dsimp only at hSw); go_simp; (try with_reducible rfl))
                                try simp only [Act.put, List.getElem_toArray, List.getElem_cons_succ, List.getElem_cons_zero, List.setIfInBounds_toArray, List.set_cons_zero, List.set_cons_succ]
                                refine wpAnyH_take (i := 12) (v := ?_) rfl (by kernel_rfl) (by kernel_rfl) (by kernel_rfl) (fun _ _ _ h => h) (Or.inl ⟨by rfl, ?_⟩) (by assumption) ?_
                                rotate_left
                                · (intro w hSw; (try dsimp only at hSw); go_simp; (try with_reducible rfl))
                                try simp only [Act.put, List.getElem_toArray, List.getElem_cons_succ, List.getElem_cons_zero, List.setIfInBounds_toArray, List.set_cons_zero, List.set_cons_succ]
                                refine wpAnyH_take (i := 13) (v := ?_) rfl (by kernel_rfl) (by kernel_rfl) (by kernel_rfl) (fun _ _ _ h => h) (Or.inl ⟨by rfl, ?_⟩) (by assumption) ?_
                                rotate_left
                                · (intro w hSw; (try dsimp only at hSw); go_simp; (try with_reducible rfl))
                                try simp only [Act.put, List.getElem_toArray, List.getElem_cons_succ, List.getElem_cons_zero, List.setIfInBounds_toArray, List.set_cons_zero, List.set_cons_succ]
                                refine wpAnyH_take (i := 14) (v := undef) rfl (by kernel_rfl) (by kernel_rfl) (by kernel_rfl) (fun _ _ _ h => h) (Or.inr ⟨by kernel_rfl, rfl⟩) (by assumption) ?_
                                try simp only [Act.put, List.getElem_toArray, List.getElem_cons_succ, List.getElem_cons_zero, List.setIfInBounds_toArray, List.set_cons_zero, List.set_cons_succ]
                                refine wpAnyH_take (i := 15) (v := undef) rfl (by kernel_rfl) (by kernel_rfl) (by kernel_rfl) (fun _ _ _ h => h) (Or.inr ⟨by kernel_rfl, rfl⟩) (by assumption) ?_
                                try simp only [Act.put, List.getElem_toArray, List.getElem_cons_succ, List.getElem_cons_zero, List.setIfInBounds_toArray, List.set_cons_zero, List.set_cons_succ]
                                refine wpAnyH_take (i := 16) (v := undef) rfl (by kernel_rfl) (by kernel_rfl) (by kernel_rfl) (fun _ _ _ h => h) (Or.inr ⟨by kernel_rfl, rfl⟩) (by assumption) ?_
                                try simp only [Act.put, List.getElem_toArray, List.getElem_cons_succ, List.getElem_cons_zero, List.setIfInBounds_toArray, List.set_cons_zero, List.set_cons_succ]
                                refine wpAnyH_take (i := 17) (v := undef) rfl (by kernel_rfl) (by kernel_rfl) (by kernel_rfl) (fun _ _ _ h => h) (Or.inr ⟨by kernel_rfl, rfl⟩) (by assumption) ?_
                                try simp only [Act.put, List.getElem_toArray, List.getElem_cons_succ, List.getElem_cons_zero, List.setIfInBounds_toArray, List.set_cons_zero, List.set_cons_succ]
                                refine wpAnyH_take (i := 18) (v := undef) rfl (by kernel_rfl) (by kernel_rfl) (by kernel_rfl) (fun _ _ _ h => h) (Or.inr ⟨by kernel_rfl, rfl⟩) (by assumption) ?_
                                try simp only [Act.put, List.getElem_toArray, List.getElem_cons_succ, List.getElem_cons_zero, List.setIfInBounds_toArray, List.set_cons_zero, List.set_cons_succ]
                                refine wpAnyH_take (i := 19) (v := undef) rfl (by kernel_rfl) (by kernel_rfl) (by kernel_rfl) (fun _ _ _ h => h) (Or.inr ⟨by kernel_rfl, rfl⟩) (by assumption) ?_
                                try simp only [Act.put, List.getElem_toArray, List.getElem_cons_succ, List.getElem_cons_zero, List.setIfInBounds_toArray, List.set_cons_zero, List.set_cons_succ]
                                refine wpAnyH_take (i := 20) (v := undef) rfl (by kernel_rfl) (by kernel_rfl) (by kernel_rfl) (fun _ _ _ h => h) (Or.inr ⟨by kernel_rfl, rfl⟩) (by assumption) ?_
                                try simp only [Act.put, List.getElem_toArray, List.getElem_cons_succ, List.getElem_cons_zero, List.setIfInBounds_toArray, List.set_cons_zero, List.set_cons_succ]
                                refine wpAnyH_take (i := 21) (v := undef) rfl (by kernel_rfl) (by kernel_rfl) (by kernel_rfl) (fun _ _ _ h => h) (Or.inr ⟨by kernel_rfl, rfl⟩) (by assumption) ?_
                                try simp only [Act.put, List.getElem_toArray, List.getElem_cons_succ, List.getElem_cons_zero, List.setIfInBounds_toArray, List.set_cons_zero, List.set_cons_succ]
                                refine wpAnyH_take (i := 22) (v := undef) rfl (by kernel_rfl) (by kernel_rfl) (by kernel_rfl) (fun _ _ _ h => h) (Or.inr ⟨by kernel_rfl, rfl⟩) (by assumption) ?_
                                try simp only [Act.put, List.getElem_toArray, List.getElem_cons_succ, List.getElem_cons_zero, List.setIfInBounds_toArray, List.set_cons_zero, List.set_cons_succ]
                                refine wpAnyH_take (i := 23) (v := undef) rfl (by kernel_rfl) (by kernel_rfl) (by kernel_rfl) (fun _ _ _ h => h) (Or.inr ⟨by kernel_rfl, rfl⟩) (by assumption) ?_
                                try simp only [Act.put, List.getElem_toArray, List.getElem_cons_succ, List.getElem_cons_zero, List.setIfInBounds_toArray, List.set_cons_zero, List.set_cons_succ]
                                refine wpAnyH_take (i := 24) (v := undef) rfl (by kernel_rfl) (by kernel_rfl) (by kernel_rfl) (fun _ _ _ h => h) (Or.inr ⟨by kernel_rfl, rfl⟩) (by assumption) ?_
                                try simp only [Act.put, List.getElem_toArray, List.getElem_cons_succ, List.getElem_cons_zero, List.setIfInBounds_toArray, List.set_cons_zero, List.set_cons_succ]
                                refine wpAnyH_take (i := 25) (v := undef) rfl (by kernel_rfl) (by kernel_rfl) (by kernel_rfl) (fun _ _ _ h => h) (Or.inr ⟨by kernel_rfl, rfl⟩) (by assumption) ?_
                                try simp only [Act.put, List.getElem_toArray, List.getElem_cons_succ, List.getElem_cons_zero, List.setIfInBounds_toArray, List.set_cons_zero, List.set_cons_succ]
                                refine wpAnyH_take (i := 26) (v := undef) rfl (by kernel_rfl) (by kernel_rfl) (by kernel_rfl) (fun _ _ _ h => h) (Or.inr ⟨by kernel_rfl, rfl⟩) (by assumption) ?_
                                try simp only [Act.put, List.getElem_toArray, List.getElem_cons_succ, List.getElem_cons_zero, List.setIfInBounds_toArray, List.set_cons_zero, List.set_cons_succ]
                                refine wpAnyH_take (i := 27) (v := undef) rfl (by kernel_rfl) (by kernel_rfl) (by kernel_rfl) (fun _ _ _ h => h) (Or.inr ⟨by kernel_rfl, rfl⟩) (by assumption) ?_
                                try simp only [Act.put, List.getElem_toArray, List.getElem_cons_succ, List.getElem_cons_zero, List.setIfInBounds_toArray, List.set_cons_zero, List.set_cons_succ]
                                refine wpAnyH_take (i := 28) (v := undef) rfl (by kernel_rfl) (by kernel_rfl) (by kernel_rfl) (fun _ _ _ h => h) (Or.inr ⟨by kernel_rfl, rfl⟩) (by assumption) ?_
                                try simp only [Act.put, List.getElem_toArray, List.getElem_cons_succ, List.getElem_cons_zero, List.setIfInBounds_toArray, List.set_cons_zero, List.set_cons_succ]
                                refine wpAnyH_take (i := 29) (v := ?_) rfl (by kernel_rfl) (by kernel_rfl) (by kernel_rfl) (fun _ _ _ h => h) (Or.inl ⟨by rfl, ?_⟩) (by assumption) ?_
                                rotate_left
                                · (intro w hSw; (try dsimp only at hSw); go_simp; (try with_reducible rfl))
                                try simp only [Act.put, List.getElem_toArray, List.getElem_cons_succ, List.getElem_cons_zero, List.setIfInBounds_toArray, List.set_cons_zero, List.set_cons_succ]
                                refine wpAnyH_take (i := 30) (v := ?_) rfl (by kernel_rfl) (by kernel_rfl) (by kernel_rfl) (fun _ _ _ h => h) (Or.inl ⟨by rfl, ?_⟩) (by assumption) ?_
                                rotate_left
                                · (intro w hSw; (try dsimp only at hSw); go_simp; (try with_reducible rfl))
                                try simp only [Act.put, List.getElem_toArray, List.getElem_cons_succ, List.getElem_cons_zero, List.setIfInBounds_toArray, List.set_cons_zero, List.set_cons_succ]
                                refine wpAnyH_done (by kernel_rfl) ?_ _
                                have HS5 := hid (HS4.out.kept Ku1.out)
                                clear HSK HVX HS4
                                have xt := HS5.out.t.cellF
                                have zt := HS5.out.t.lt
                                have xm := HS5.out.m.cellF
                                have zm := HS5.out.m.lt
                                have xx := HS5.out.x.cellF
                                have zx := HS5.out.x.lt
                                have xf := HS5.out.f.cellF
                                have zf := HS5.out.f.lt
                                have HA2 : Hid (allF (keyD l T fkey x.ks) 0 x.ks.length = allF (keyD l T fkey x.ks) (0 + 1) x.ks.length) := hid (by rw [HAS.out]; rfl)
                                go_wp2
                                exact ⟨⟨0 + 1, by simp, by omega, HA2, HS5⟩, by simp [numAt]; omega⟩
                            · as_aux_lemma =>
                                obtain ⟨k', hk'⟩ : ∃ k', k = k' + 1 := ⟨k - 1, by omega⟩
                                obtain ⟨v', ba', bc', ma', mc', ⟨f0, f1, f2⟩, hka, hcmp⟩ := HPK.out k' hk'
                                have HCM := hid hcmp
                                clear hcmp
                                have j3 : (k : Int) - 1 = (k' : Int) := by omega
                                have j4 : (k' : Int) < (x.ks.length : Int) := by omega
                                have j5 : (0 : Int) < (k : Int) := by omega
                                have j7 : (0 < k) = True := eq_true h0
                                have j8 : IntKind.i64.wrap (k' : Int) = (k' : Int) := by rw [IntKind.wrap_i64]; omega
                                have HK2 := hid hk'
                                clear hk'
                                generalize cmpV fkey v'.n v.n v'.b v.b = cv at *
                                have HSK : Hid (∀ W, Below wr.heap.size wr W → (fun W => (∀ k, W.cell? ⟨w.heap.size, k, none⟩ = #[.slice ta l.length tc][k]?) ∧ (∀ k, W.cell? ⟨p9, k, none⟩ = #[.string (strOfNums fnm), .int .i64 fnu, .int .i64 fk, .int .i64 fr, .int .i64 lab, .int .i64 fo, .int .i64 fkey][k]?) ∧ (∀ k, W.cell? ⟨wo.heap.size, k, none⟩ = #[.int .i64 x.num, .slice (some ⟨b2, o2, none⟩) x.ks.length kc, .slice va x.vs.length vc][k]?) ∧ W.cell? ⟨b2, o2 + k * 3, none⟩ = some (.int .u64 v.n) ∧ W.cell? ⟨b2, o2 + k * 3 + 1, none⟩ = some (.slice ba v.b.length bc) ∧ W.cell? ⟨b2, o2 + k * 3 + 2, none⟩ = some (.slice ma v.ms.length mc) ∧ W.cell? ⟨b2, o2 + k' * 3, none⟩ = some (.int .u64 v'.n) ∧ W.cell? ⟨b2, o2 + k' * 3 + 1, none⟩ = some (.slice ba' v'.b.length bc') ∧ W.cell? ⟨b2, o2 + k' * 3 + 2, none⟩ = some (.slice ma' v'.ms.length mc')) W) := hid fun W hW => ⟨(HS4.out.t.kept hW).cellF, (HS4.out.f.kept hW).cellF, (HS4.out.x.kept hW).cellF, cell_below e0 hW, cell_below e1 hW, cell_below e2 hW, cell_below f0 hW, cell_below f1 hW, cell_below f2 hW⟩
                                clear e0 e1 e2 f0 f1 f2 HPK HPZ
                                go_upto_region 20 with fail
                                clear xt zt xm zm xx zx xf zf
                                refine wp_region_held_drew (S := (fun W => (∀ k, W.cell? ⟨w.heap.size, k, none⟩ = #[.slice ta l.length tc][k]?) ∧ (∀ k, W.cell? ⟨p9, k, none⟩ = #[.string (strOfNums fnm), .int .i64 fnu, .int .i64 fk, .int .i64 fr, .int .i64 lab, .int .i64 fo, .int .i64 fkey][k]?) ∧ (∀ k, W.cell? ⟨wo.heap.size, k, none⟩ = #[.int .i64 x.num, .slice (some ⟨b2, o2, none⟩) x.ks.length kc, .slice va x.vs.length vc][k]?) ∧ W.cell? ⟨b2, o2 + k * 3, none⟩ = some (.int .u64 v.n) ∧ W.cell? ⟨b2, o2 + k * 3 + 1, none⟩ = some (.slice ba v.b.length bc) ∧ W.cell? ⟨b2, o2 + k * 3 + 2, none⟩ = some (.slice ma v.ms.length mc) ∧ W.cell? ⟨b2, o2 + k' * 3, none⟩ = some (.int .u64 v'.n) ∧ W.cell? ⟨b2, o2 + k' * 3 + 1, none⟩ = some (.slice ba' v'.b.length bc') ∧ W.cell? ⟨b2, o2 + k' * 3 + 2, none⟩ = some (.slice ma' v'.ms.length mc'))) (by kernel_rfl) ?_ (fun hHeld => ?_)
                                · exact HSK.out _ (below_drew1 _)
                                refine wpAnyH_take (i := 0) (v := ?_) rfl (by kernel_rfl) (by kernel_rfl) (by kernel_rfl) (fun _ _ _ h => h) (Or.inl ⟨by rfl, ?_⟩) (by assumption) ?_
                                rotate_left
                                · (intro w hSw; (try dsimp only at hSw); go_simp; (try with_reducible rfl))
                                try simp only [Act.put, List.getElem_toArray, List.getElem_cons_succ, List.getElem_cons_zero, List.setIfInBounds_toArray, List.set_cons_zero, List.set_cons_succ]
                                refine wpAnyH_take (i := 1) (v := ?_) rfl (by kernel_rfl) (by kernel_rfl) (by kernel_rfl) (fun _ _ _ h => h) (Or.inl ⟨by rfl, ?_⟩) (by assumption) ?_
                                rotate_left
                                · (intro w hSw; (try dsimp only at hSw); go_simp; (try with_reducible rfl))
                                try simp only [Act.put, List.getElem_toArray, List.getElem_cons_succ, List.getElem_cons_zero, List.setIfInBounds_toArray, List.set_cons_zero, List.set_cons_succ]
                                refine wpAnyH_take (i := 2) (v := ?_) rfl (by kernel_rfl) (by kernel_rfl) (by kernel_rfl) (fun _ _ _ h => h) (Or.inl ⟨by rfl, ?_⟩) (by assumption) ?_
                                rotate_left
                                · (intro w hSw; (try dsimp only at hSw); go_simp; (try with_reducible rfl))
                                try simp only [Act.put, List.getElem_toArray, List.getElem_cons_succ, List.getElem_cons_zero, List.setIfInBounds_toArray, List.set_cons_zero, List.set_cons_succ]
                                refine wpAnyH_take (i := 3) (v := ?_) rfl (by kernel_rfl) (by kernel_rfl) (by kernel_rfl) (fun _ _ _ h => h) (Or.inl ⟨by rfl, ?_⟩) (by assumption) ?_
                                rotate_left
                                · (intro w hSw; (try dsimp only at hSw); go_simp; (try with_reducible rfl))
                                try simp only [Act.put, List.getElem_toArray, List.getElem_cons_succ, List.getElem_cons_zero, List.setIfInBounds_toArray, List.set_cons_zero, List.set_cons_succ]
                                refine wpAnyH_take (i := 4) (v := ?_) rfl (by kernel_rfl) (by kernel_rfl) (by kernel_rfl) (fun _ _ _ h => h) (Or.inl ⟨by rfl, ?_⟩) (by assumption) ?_
                                rotate_left
                                · (intro w hSw; (try dsimp only at hSw); go_simp; (try with_reducible rfl))
                                try simp only [Act.put, List.getElem_toArray, List.getElem_cons_succ, List.getElem_cons_zero, List.setIfInBounds_toArray, List.set_cons_zero, List.set_cons_succ]
                                refine wpAnyH_take (i := 5) (v := ?_) rfl (by kernel_rfl) (by kernel_rfl) (by kernel_rfl) (fun _ _ _ h => h) (Or.inl ⟨by rfl, ?_⟩) (by assumption) ?_
                                rotate_left
                                · (intro w hSw; (try dsimp only at hSw); go_simp; (try with_reducible rfl))
                                try simp only [Act.put, List.getElem_toArray, List.getElem_cons_succ, List.getElem_cons_zero, List.setIfInBounds_toArray, List.set_cons_zero, List.set_cons_succ]
                                refine wpAnyH_take (i := 6) (v := ?_) rfl (by kernel_rfl) (by kernel_rfl) (by kernel_rfl) (fun _ _ _ h => h) (Or.inl ⟨by rfl, ?_⟩) (by assumption) ?_
                                rotate_left
                                · (intro w hSw; (try dsimp only at hSw); go_simp; (try with_reducible rfl))
                                try simp only [Act.put, List.getElem_toArray, List.getElem_cons_succ, List.getElem_cons_zero, List.setIfInBounds_toArray, List.set_cons_zero, List.set_cons_succ]
                                refine wpAnyH_take (i := 7) (v := ?_) rfl (by kernel_rfl) (by kernel_rfl) (by kernel_rfl) (fun _ _ _ h => h) (Or.inl ⟨by rfl, ?_⟩) (by assumption) ?_
                                rotate_left
                                · (intro w hSw; (try dsimp only at hSw); go_simp; (try with_reducible rfl))
                                try simp only [Act.put, List.getElem_toArray, List.getElem_cons_succ, List.getElem_cons_zero, List.setIfInBounds_toArray, List.set_cons_zero, List.set_cons_succ]
                                refine wpAnyH_ready (rs := [8]) (by kernel_rfl) (by simp) ?_
                                refine AllReadyH.cons rfl (fun K hK => ?_) AllReadyH.nil
                                go_simp
                                go_wp2_with (go_at_call 41; refine (HVX.out _ (below_drew1 _)).mono ?_; rintro e u1 ⟨rfl, hbu⟩; have Ku1 : Hid (Below wr.heap.size wr u1) := hid (bl_then (below_drew1 _) hbu); clear hbu)
                                refine hK.out _ _ ?_ (fun hHeld => ?_)
                                · first | assumption | exact HSK.out _ Ku1.out
                                clear hK K
                                try simp only [Act.put, List.getElem_toArray, List.getElem_cons_succ, List.getElem_cons_zero, List.setIfInBounds_toArray, List.set_cons_zero, List.set_cons_succ]
                                refine wpAnyH_take (i := 9) (v := ?_) rfl (by kernel_rfl) (by kernel_rfl) (by kernel_rfl) (fun _ _ _ h => h) (Or.inl ⟨by rfl, ?_⟩) (by assumption) ?_
                                rotate_left
                                · (intro w hSw; (try dsimp only at hSw); go_simp; (try with_reducible rfl))
                                try simp only [Act.put, List.getElem_toArray, List.getElem_cons_succ, List.getElem_cons_zero, List.setIfInBounds_toArray, List.set_cons_zero, List.set_cons_succ]
                                refine wpAnyH_take (i := 10) (v := ?_) rfl (by kernel_rfl) (by kernel_rfl) (by kernel_rfl) (fun _ _ _ h => h) (Or.inl ⟨by rfl, ?_⟩) (by assumption) ?_
                                rotate_left
                                · (intro w hSw; (try dsimp only at hSw); go_simp; (try with_reducible rfl))
                                try simp only [Act.put, List.getElem_toArray, List.getElem_cons_succ, List.getElem_cons_zero, List.setIfInBounds_toArray, List.set_cons_zero, List.set_cons_succ]
                                refine wpAnyH_take (i := 11) (v := ?_) rfl (by kernel_rfl) (by kernel_rfl) (by kernel_rfl) (fun _ _ _ h => h) (Or.inl ⟨by rfl, ?_⟩) (by assumption) ?_
                                rotate_left
                                · (intro w hSw; (try dsimp only at hSw); go_simp; (try with_reducible rfl))
                                try simp only [Act.put, List.getElem_toArray, List.getElem_cons_succ, List.getElem_cons_zero, List.setIfInBounds_toArray, List.set_cons_zero, List.set_cons_succ]
                                refine wpAnyH_take (i := 12) (v := ?_) rfl (by kernel_rfl) (by kernel_rfl) (by kernel_rfl) (fun _ _ _ h => h) (Or.inl ⟨by rfl, ?_⟩) (by assumption) ?_
                                rotate_left
                                · (intro w hSw; (try dsimp only at hSw); go_simp; (try with_reducible rfl))
                                try simp only [Act.put, List.getElem_toArray, List.getElem_cons_succ, List.getElem_cons_zero, List.setIfInBounds_toArray, List.set_cons_zero, List.set_cons_succ]
                                refine wpAnyH_take (i := 13) (v := ?_) rfl (by kernel_rfl) (by kernel_rfl) (by kernel_rfl) (fun _ _ _ h => h) (Or.inl ⟨by rfl, ?_⟩) (by assumption) ?_
                                rotate_left
                                · (intro w hSw; (try dsimp only at hSw); go_simp; (try with_reducible rfl))
                                try simp only [Act.put, List.getElem_toArray, List.getElem_cons_succ, List.getElem_cons_zero, List.setIfInBounds_toArray, List.set_cons_zero, List.set_cons_succ]
                                refine wpAnyH_take (i := 14) (v := ?_) rfl (by kernel_rfl) (by kernel_rfl) (by kernel_rfl) (fun _ _ _ h => h) (Or.inl ⟨by rfl, ?_⟩) (by assumption) ?_
                                rotate_left
                                · (intro w hSw; (try dsimp only at hSw); go_simp; (try with_reducible rfl))
                                try simp only [Act.put, List.getElem_toArray, List.getElem_cons_succ, List.getElem_cons_zero, List.setIfInBounds_toArray, List.set_cons_zero, List.set_cons_succ]
                                refine wpAnyH_take (i := 15) (v := ?_) rfl (by kernel_rfl) (by kernel_rfl) (by kernel_rfl) (fun _ _ _ h => h) (Or.inl ⟨by rfl, ?_⟩) (by assumption) ?_
                                rotate_left
                                · (intro w hSw; (try dsimp only at hSw); go_simp; (try with_reducible rfl))
                                try simp only [Act.put, List.getElem_toArray, List.getElem_cons_succ, List.getElem_cons_zero, List.setIfInBounds_toArray, List.set_cons_zero, List.set_cons_succ]
                                refine wpAnyH_take (i := 16) (v := ?_) rfl (by kernel_rfl) (by kernel_rfl) (by kernel_rfl) (fun _ _ _ h => h) (Or.inl ⟨by rfl, ?_⟩) (by assumption) ?_
                                rotate_left
                                · (intro w hSw; (try dsimp only at hSw); go_simp; (try with_reducible rfl))
                                try simp only [Act.put, List.getElem_toArray, List.getElem_cons_succ, List.getElem_cons_zero, List.setIfInBounds_toArray, List.set_cons_zero, List.set_cons_succ]
                                refine wpAnyH_take (i := 17) (v := ?_) rfl (by kernel_rfl) (by kernel_rfl) (by kernel_rfl) (fun _ _ _ h => h) (Or.inl ⟨by rfl, ?_⟩) (by assumption) ?_
                                rotate_left
                                · (intro w hSw; (try dsimp only at hSw); go_simp; (try with_reducible rfl))
                                try simp only [Act.put, List.getElem_toArray, List.getElem_cons_succ, List.getElem_cons_zero, List.setIfInBounds_toArray, List.set_cons_zero, List.set_cons_succ]
                                refine wpAnyH_take (i := 18) (v := ?_) rfl (by kernel_rfl) (by kernel_rfl) (by kernel_rfl) (fun _ _ _ h => h) (Or.inl ⟨by rfl, ?_⟩) (by assumption) ?_
                                rotate_left
                                · (intro w hSw; (try dsimp only at hSw); go_simp; (try with_reducible rfl))
                                try simp only [Act.put, List.getElem_toArray, List.getElem_cons_succ, List.getElem_cons_zero, List.setIfInBounds_toArray, List.set_cons_zero, List.set_cons_succ]
                                refine wpAnyH_take (i := 19) (v := ?_) rfl (by kernel_rfl) (by kernel_rfl) (by kernel_rfl) (fun _ _ _ h => h) (Or.inl ⟨by rfl, ?_⟩) (by assumption) ?_
                                rotate_left
                                · (intro w hSw; (try dsimp only at hSw); go_simp; (try with_reducible rfl))
                                try simp only [Act.put, List.getElem_toArray, List.getElem_cons_succ, List.getElem_cons_zero, List.setIfInBounds_toArray, List.set_cons_zero, List.set_cons_succ]
                                refine wpAnyH_take (i := 20) (v := ?_) rfl (by kernel_rfl) (by kernel_rfl) (by kernel_rfl) (fun _ _ _ h => h) (Or.inl ⟨by rfl, ?_⟩) (by assumption) ?_
                                rotate_left
                                · (intro w hSw; (try dsimp only at hSw); go_simp; (try with_reducible rfl))
                                try simp only [Act.put, List.getElem_toArray, List.getElem_cons_succ, List.getElem_cons_zero, List.setIfInBounds_toArray, List.set_cons_zero, List.set_cons_succ]
                                refine wpAnyH_take (i := 21) (v := ?_) rfl (by kernel_rfl) (by kernel_rfl) (by kernel_rfl) (fun _ _ _ h => h) (Or.inl ⟨by rfl, ?_⟩) (by assumption) ?_
                                rotate_left
                                · (intro w hSw; (try dsimp only at hSw); go_simp; (try with_reducible rfl))
                                try simp only [Act.put, List.getElem_toArray, List.getElem_cons_succ, List.getElem_cons_zero, List.setIfInBounds_toArray, List.set_cons_zero, List.set_cons_succ]
                                refine wpAnyH_take (i := 22) (v := ?_) rfl (by kernel_rfl) (by kernel_rfl) (by kernel_rfl) (fun _ _ _ h => h) (Or.inl ⟨by rfl, ?_⟩) (by assumption) ?_
                                rotate_left
                                · (intro w hSw; (try dsimp only at hSw); go_simp; (try with_reducible rfl))
                                try simp only [Act.put, List.getElem_toArray, List.getElem_cons_succ, List.getElem_cons_zero, List.setIfInBounds_toArray, List.set_cons_zero, List.set_cons_succ]
                                refine wpAnyH_take (i := 23) (v := ?_) rfl (by kernel_rfl) (by kernel_rfl) (by kernel_rfl) (fun _ _ _ h => h) (Or.inl ⟨by rfl, ?_⟩) (by assumption) ?_
                                rotate_left
                                · (intro w hSw; (try dsimp only at hSw); go_simp; (try with_reducible rfl))
                                try simp only [Act.put, List.getElem_toArray, List.getElem_cons_succ, List.getElem_cons_zero, List.setIfInBounds_toArray, List.set_cons_zero, List.set_cons_succ]
                                refine wpAnyH_take (i := 24) (v := ?_) rfl (by kernel_rfl) (by kernel_rfl) (by kernel_rfl) (fun _ _ _ h => h) (Or.inl ⟨by rfl, ?_⟩) (by assumption) ?_
                                rotate_left
                                · (intro w hSw; (try dsimp only at hSw); go_simp; (try with_reducible rfl))
                                try simp only [Act.put, List.getElem_toArray, List.getElem_cons_succ, List.getElem_cons_zero, List.setIfInBounds_toArray, List.set_cons_zero, List.set_cons_succ]
                                refine wpAnyH_take (i := 25) (v := ?_) rfl (by kernel_rfl) (by kernel_rfl) (by kernel_rfl) (fun _ _ _ h => h) (Or.inl ⟨by rfl, ?_⟩) (by assumption) ?_
                                rotate_left
                                · (intro w hSw; (try dsimp only at hSw); go_simp; (try with_reducible rfl))
                                try simp only [Act.put, List.getElem_toArray, List.getElem_cons_succ, List.getElem_cons_zero, List.setIfInBounds_toArray, List.set_cons_zero, List.set_cons_succ]
                                refine wpAnyH_take (i := 26) (v := ?_) rfl (by kernel_rfl) (by kernel_rfl) (by kernel_rfl) (fun _ _ _ h => h) (Or.inl ⟨by rfl, ?_⟩) (by assumption) ?_
                                rotate_left
                                · (intro w hSw; (try dsimp only at hSw); go_simp; (try with_reducible rfl))
                                try simp only [Act.put, List.getElem_toArray, List.getElem_cons_succ, List.getElem_cons_zero, List.setIfInBounds_toArray, List.set_cons_zero, List.set_cons_succ]
                                refine wpAnyH_ready (rs := [27]) (by kernel_rfl) (by simp) ?_
                                refine AllReadyH.cons rfl (fun K hK => ?_) AllReadyH.nil
                                go_simp
                                go_wp2_with (go_at_call 42; refine (HCM.out _ (Ku1.out)).mono ?_; rintro e u2 ⟨rfl, hbu⟩; have Ku2 : Hid (Below wr.heap.size wr u2) := hid (bl_then (Ku1.out) hbu); clear hbu)
                                refine hK.out _ _ ?_ (fun hHeld => ?_)
                                · first | assumption | exact HSK.out _ Ku2.out
                                clear hK K
                                try simp only [Act.put, List.getElem_toArray, List.getElem_cons_succ, List.getElem_cons_zero, List.setIfInBounds_toArray, List.set_cons_zero, List.set_cons_succ]
                                refine wpAnyH_take (i := 28) (v := ?_) rfl (by kernel_rfl) (by kernel_rfl) (by kernel_rfl) (fun _ _ _ h => h) (Or.inl ⟨by rfl, ?_⟩) (by assumption) ?_
                                rotate_left
                                · (intro w hSw; (try dsimp only at hSw); go_simp; (try with_reducible rfl))
                                try simp only [Act.put, List.getElem_toArray, List.getElem_cons_succ, List.getElem_cons_zero, List.setIfInBounds_toArray, List.set_cons_zero, List.set_cons_succ]
                                refine wpAnyH_take (i := 29) (v := ?_) rfl (by kernel_rfl) (by kernel_rfl) (by kernel_rfl) (fun _ _ _ h => h) (Or.inl ⟨by rfl, ?_⟩) (by assumption) ?_
                                rotate_left
                                · (intro w hSw; (try dsimp only at hSw); go_simp; (try with_reducible rfl))
                                try simp only [Act.put, List.getElem_toArray, List.getElem_cons_succ, List.getElem_cons_zero, List.setIfInBounds_toArray, List.set_cons_zero, List.set_cons_succ]
                                refine wpAnyH_take (i := 30) (v := ?_) rfl (by kernel_rfl) (by kernel_rfl) (by kernel_rfl) (fun _ _ _ h => h) (Or.inl ⟨by rfl, ?_⟩) (by assumption) ?_
                                rotate_left
                                · (intro w hSw; (try dsimp only at hSw); go_simp; (try with_reducible rfl))
                                try simp only [Act.put, List.getElem_toArray, List.getElem_cons_succ, List.getElem_cons_zero, List.setIfInBounds_toArray, List.set_cons_zero, List.set_cons_succ]
                                refine wpAnyH_done (by kernel_rfl) ?_ _
                                have HS5 := hid (HS4.out.kept Ku2.out)
                                clear HSK HVX HS4
                                have xt := HS5.out.t.cellF
                                have zt := HS5.out.t.lt
                                have xm := HS5.out.m.cellF
                                have zm := HS5.out.m.lt
                                have xx := HS5.out.x.cellF
                                have zx := HS5.out.x.lt
                                have xf := HS5.out.f.cellF
                                have zf := HS5.out.f.lt
                                by_cases hcv : cv < 0
                                · rw [decide_eq_true hcv] at hka
                                  subst hka
                                  have hcv2 : ¬ (0 : Int) ≤ cv := by omega
                                  have hcv3 : decide ((0 : Int) ≤ cv) = false := decide_eq_false hcv2
                                  have HA2 : Hid (allF (keyD l T fkey x.ks) 0 x.ks.length = allF (keyD l T fkey x.ks) (k + 1) x.ks.length) := hid (by rw [HA.out, HAS.out]; rfl)
                                  go_wp2
                                  exact ⟨⟨k + 1, by simp, by omega, HA2, HS5⟩, by simp [numAt]; omega⟩
                                · rw [decide_eq_false hcv] at hka
                                  subst hka
                                  have hcv2 : (0 : Int) ≤ cv := by omega
                                  have hcv3 : decide ((0 : Int) ≤ cv) = true := decide_eq_true hcv2
                                  have HF : Hid (res = false) := hid (by rw [HR.out, HA.out, HAS.out]; rfl)
                                  go_wp2
                                  go_ret
                                  exact ⟨ret_bool HF.out.symm, HS5.out.b⟩
                        · as_aux_lemma =>
                            have k3 : ¬ (k : Int) < (x.ks.length : Int) := by omega
                            have HV : Hid (allF (keyD l T fkey x.ks) 0 x.ks.length = true) := hid (by rw [HA.out, allF_end (by omega)])
                            rw [HV.out, Bool.true_and] at HR
                            clear HV HA QK HVL GU HL5 HRF
                            by_cases h4 : lab = 4
                            · subst h4
                              go_wp2_with fail
                              refine (HOX.out _ HS4.out.b).mono ?_
                              rintro e u1 ⟨rfl, hbu⟩
                              have HS5 := hid (HS4.out.kept hbu)
                              clear xt zt xm zm xx zx xf zf
                              clear hbu HS4 HOX
                              have xt := HS5.out.t.cellF
                              have zt := HS5.out.t.lt
                              have xm := HS5.out.m.cellF
                              have zm := HS5.out.m.lt
                              have xx := HS5.out.x.cellF
                              have zx := HS5.out.x.lt
                              have xf := HS5.out.f.cellF
                              have zf := HS5.out.f.lt
                              cases oth with
                              | true =>
                                have HF : Hid (res = false) := hid (by rw [HR.out]; rfl)
                                go_wp2
                                go_ret
                                exact ⟨ret_bool HF.out.symm, HS5.out.b⟩
                              | false =>
                                have HN : Hid (res = (allF (fldD l T fs m.fs) (j + 1) m.fs.length && m.us.all entB)) := hid (by rw [HR.out]; rfl)
                                go_wp2
                                exact ⟨⟨j + 1, by simp, by omega, HN, hid HS5.out.t, hid HS5.out.m, hid HS5.out.b⟩, by simp [numAt]; omega⟩
                            · have k4 : (lab == 4) = false := by simpa using h4
                              have HN : Hid (res = (allF (fldD l T fs m.fs) (j + 1) m.fs.length && m.us.all entB)) := hid (by rw [HR.out, decide_eq_false h4]; rfl)
                              go_wp2
                              exact ⟨⟨j + 1, by simp, by omega, HN, hid HS4.out.t, hid HS4.out.m, hid HS4.out.b⟩, by simp [numAt]; omega⟩
    · as_aux_lemma =>
        have k2 : ¬ (j : Int) < (m.fs.length : Int) := by omega
        have HE : Hid (res = m.us.all entB) := hid (by rw [HA.out, allF_end (by omega), Bool.true_and])
        clear HA HVL HGF HFD HOT G
        go_wp2
        clear xt zt xm zm
        go_loopw [13] (fun s13 wr => ∃ (k : Nat), s13 = .int .i64 k ∧ k ≤ m.us.length ∧ Hid (m.us.all entB = (m.us.drop k).all entB) ∧ Hid (Blk wr (w.heap.size + 1) 35 #[.slice a1 m.fs.length c1, .slice a2 m.us.length c2]) ∧ Hid (Below w.heap.size w wr)) (fun s13 wr => m.us.length - numAt wr s13)
        case atStart => exact ⟨0, rfl, by omega, hid rfl, BM, hb⟩
        case round =>
          clear BM hb
          obtain ⟨k, rfl, hk, HA, BM, hb⟩ := hrel
          have xm := BM.out.cellF
          have zm := BM.out.lt
          by_cases hkl : k < m.us.length
          · have k3 : (k : Int) < (m.us.length : Int) := by omega
            obtain ⟨b2, o2, ba, bc, rfl, hz2, hb2, e0, e1, e2, e3, hv⟩ := ens_at (GU.out.kept hb.out) hkl
            obtain ⟨_, _, e5, g1, bl1, -, -, hu⟩ := ent_open hv
            simp only [List.cons.injEq, Value.slice.injEq, true_and, and_true] at e5
            obtain ⟨rfl, rfl⟩ := e5
            have HD : Hid ((m.us.drop k).all entB = (entB m.us[k] && (m.us.drop (k + 1)).all entB)) := hid (by rw [List.drop_eq_getElem_cons hkl, List.all_cons])
            have HPE := hid fun V (hV : Below wr.heap.size wr V) => W.refPutEntryAny m.us[k].num m.us[k].kind m.us[k].n ba m.us[k].b.length bc m.us[k].b V (Reads.old (ByE.rd (g1.kept hV))) hu.1 hu.2 (by omega)
            have HEB : Hid (entB m.us[k] = (W.ef m.us[k].num m.us[k].kind m.us[k].n m.us[k].b.length == 0)) := hid rfl
            generalize W.ef m.us[k].num m.us[k].kind m.us[k].n m.us[k].b.length = ev at *
            generalize entB m.us[k] = eb at *
            generalize m.us[k] = y at *
            clear hv hz2 g1
            go_wp2_with fail
            refine (HPE.out _ (Below.refl _ _)).mono ?_
            rintro e u1 ⟨b', c', rfl, -, hbu⟩
            have BM2 := hid (BM.out.kept hbu)
            have hb3 := hid (below_trans hb.out hbu)
            clear xm zm hbu e0 e1 e2 e3 HPE
            have xm := BM2.out.cellF
            have zm := BM2.out.lt
            by_cases hev : ev = 0
            · subst hev
              have HA2 : Hid (m.us.all entB = (m.us.drop (k + 1)).all entB) := hid (by rw [HA.out, HD.out, HEB.out]; rfl)
              go_wp2
              exact ⟨⟨k + 1, by simp, by omega, HA2, BM2, hb3⟩, by simp [numAt]; omega⟩
            · have k4 : (ev == 0) = false := by simpa using hev
              have HF : Hid (res = false) := hid (by rw [HE.out, HA.out, HD.out, HEB.out, k4]; rfl)
              go_wp2
              go_ret
              exact ⟨ret_bool HF.out.symm, hb3.out⟩
          · have k3 : ¬ (k : Int) < (m.us.length : Int) := by omega
            have HF : Hid (res = true) := hid (by rw [HE.out, HA.out, List.drop_of_length_le (by omega)]; rfl)
            go_wp2
            go_ret
            exact ⟨ret_bool HF.out.symm, hb.out⟩
end Go.Proofs.YtnfdlnelfnigdaaGreatDoor
