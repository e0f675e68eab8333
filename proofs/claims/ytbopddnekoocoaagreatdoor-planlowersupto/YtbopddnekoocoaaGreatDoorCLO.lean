/-
  The document's: a good table's program.
  The document's: are two programs the same?
  A name's names (the document's).
  A type's name by what stands ahead (the document's).
-/
import Derived.Test.YtbopddnekoocoaaGreatDoorLK
import Derived.Test.YtbopddnekoocoaaGreatDoorCLE
import Derived.Test.YtbopddnekoocoaaGreatDoorCTX
import Derived.Test.YtbopddnekoocoaaGreatDoorCKO
import Derived.Deep.CutRange
namespace Go.Proofs.YtbopddnekoocoaaGreatDoor
open Go.RowKit
set_option maxRecDepth 1000000
set_option linter.unusedVariables false
set_option linter.unusedSimpArgs false
set_option maxHeartbeats 1000000
theorem lowTypeR (w : World) (l : List TV) (ta : Option Addr) (tc : Nat) (h : TbR w (.slice ta l.length tc) l) (hg : goodB l = true) (k : Nat) (hk : k < l.length) : Calls Tryz.prog 11 #[.agg #[.slice ta l.length tc], .int .i64 (k : Int)] w (BlkA w (loBK l[k].t)) := by
  cases he : l[k].t.enum with
  | true => exact lowER w l ta tc h hg k hk he
  | false =>
    have e : loBK l[k].t = ⟨decL l[k].t.fs, encL l[k].t.fs, []⟩ := by unfold loBK; rw [if_neg (by rw [he]; simp)]
    rw [e]
    obtain ⟨h1, h2, h3⟩ := goodP_msg hg hk he
    exact lowMsgR w l ta tc h k hk he h1 h3
def ProgD (w : World) (ks : List BK) (e : Ending) (w' : World) : Prop := ∃ a c xs, e = .returned (.agg #[.slice a xs.length c]) ∧ xs.map BV.k = ks ∧ LwO w' w.heap.size (.slice a xs.length c) xs ∧ Below w.heap.size w w'
theorem lowerDR (w : World) (l : List TV) (ta : Option Addr) (tc : Nat) (h : TbR w (.slice ta l.length tc) l) (hg : goodB l = true) : Calls Tryz.prog 13 #[.agg #[.slice ta l.length tc]] w (ProgD w (l.map (fun x => loBK x.t))) := by
  obtain ⟨_, _, e, hn⟩ := rowS_sl h.row
  clear e
  have h63 : (l.length : Int) ≤ 9223372036854775807 := by omega
  have HL := hid (goodP_len hg)
  have HBO : Hid (∀ j (hj : j < l.length) W, Below w.heap.size w W → Calls Tryz.prog 11 #[.agg #[.slice ta l.length tc], .int .i64 (j : Int)] W (BlkA W (loBK l[j].t))) := hid fun j hj W hW => lowTypeR W l ta tc (h.kept hW) hg j hj
  clear h hg
  go_enter Tryz.func13, Tryz.ntmps13
  go_wp2_with fail
  have HBT : Hid (Blk (((w.alloc (.cells #[.slice ta l.length tc] 24)).alloc (.cells #[.slice none 0 0] 34)).alloc (.cells #[.slice none 0 0] 34)) w.heap.size 24 #[.slice ta l.length tc]) := hid (((Blk.new _ _ _).kept (below_alloc _)).kept (below_alloc _))
  have HBR : Hid (Blk (((w.alloc (.cells #[.slice ta l.length tc] 24)).alloc (.cells #[.slice none 0 0] 34)).alloc (.cells #[.slice none 0 0] 34)) (w.heap.size + 1) 34 #[.slice none 0 0]) := hid ((Blk.newAt (by simp)).kept (below_alloc _))
  have HBP : Hid (Blk (((w.alloc (.cells #[.slice ta l.length tc] 24)).alloc (.cells #[.slice none 0 0] 34)).alloc (.cells #[.slice none 0 0] 34)) (w.heap.size + 1 + 1) 34 #[.slice none 0 0]) := hid (Blk.newAt (by simp))
  have HBW : Hid (Below w.heap.size w (((w.alloc (.cells #[.slice ta l.length tc] 24)).alloc (.cells #[.slice none 0 0] 34)).alloc (.cells #[.slice none 0 0] 34))) := hid (by exact blBy)
  generalize (((w.alloc (.cells #[.slice ta l.length tc] 24)).alloc (.cells #[.slice none 0 0] 34)).alloc (.cells #[.slice none 0 0] 34)) = V at *
  generalize eq : w.heap.size + 1 + 1 = q at *
  replace eq := hid eq
  go_loopw [4] (fun r wr => ∃ (j : Nat) (a : Option Addr) (c : Nat) (xs : List BV), r = .int .i64 j ∧ j ≤ l.length ∧ Hid (xs.length = j) ∧ Hid (xs.map BV.k = (l.take j).map (fun x => loBK x.t)) ∧ Hid (LwO wr (w.heap.size + 2) (.slice a j c) xs) ∧ Hid (Blk wr q 34 #[.slice a j c]) ∧ Hid (Blk wr (w.heap.size + 1) 34 #[.slice none 0 0]) ∧ Hid (Blk wr w.heap.size 24 #[.slice ta l.length tc]) ∧ Hid (Below w.heap.size w wr)) (fun r wr => l.length - numAt wr r)
  case atStart => exact ⟨0, none, 0, [], rfl, by omega, hid rfl, hid rfl, hid ⟨World.ownsRow_nil _ _ _ _, by simp⟩, HBP, HBR, HBT, HBW⟩
  case round =>
    clear HBP HBR HBW HBT
    obtain ⟨j, a, c, xs, rfl, hj, hxl, hmap, HL1, HP1, HR1, HT1, HB1⟩ := hrel
    have xt := HT1.out.cellF
    have zt := HT1.out.lt
    by_cases hlt : j < l.length
    · have h3 : (j : Int) < (l.length : Int) := by omega
      have HBJ := hid (HBO.out j hlt)
      have HTK : Hid ((l.take (j + 1)).map (fun x => loBK x.t) = (l.take j).map (fun x => loBK x.t) ++ [loBK l[j].t]) := hid (by rw [List.take_succ_eq_append_getElem hlt, List.map_append]; rfl)
      generalize l[j].t = t at *
      have HAP : Hid (∀ W, Below wr.heap.size wr W → ∀ da dc ea ec ra' rc', BkO W wr.heap.size (loBK t) (.slice da (loBK t).dec.length dc) (.slice ea (loBK t).enc.length ec) (.slice ra' (loBK t).rows.length rc') → ∃ a2 c2 w', Hid ((Builtin.append_ #[32, 32] 32 #[.slice a j c, .slice (some ⟨W.heap.size, 0, none⟩) 1 1]).run Tryz.prog (W.alloc (.cells #[.slice da (loBK t).dec.length dc, .slice ea (loBK t).enc.length ec, .slice ra' (loBK t).rows.length rc'] 28)) = .ok (.slice a2 (j + 1) c2) w') ∧ Hid (Blk w' q 34 #[.slice a j c]) ∧ Hid (∃ xs', xs'.length = j + 1 ∧ xs'.map BV.k = (l.take (j + 1)).map (fun x => loBK x.t) ∧ LwO (w'.setCell ⟨q, 0, none⟩ (.slice a2 (j + 1) c2)) (w.heap.size + 2) (.slice a2 (j + 1) c2) xs' ∧ Blk (w'.setCell ⟨q, 0, none⟩ (.slice a2 (j + 1) c2)) q 34 #[.slice a2 (j + 1) c2] ∧ Blk (w'.setCell ⟨q, 0, none⟩ (.slice a2 (j + 1) c2)) (w.heap.size + 1) 34 #[.slice none 0 0] ∧ Blk (w'.setCell ⟨q, 0, none⟩ (.slice a2 (j + 1) c2)) w.heap.size 24 #[.slice ta l.length tc] ∧ Below w.heap.size w (w'.setCell ⟨q, 0, none⟩ (.slice a2 (j + 1) c2)))) := hid fun W hW da dc ea ec ra' rc' ho => by
        have heq := eq.out
        have hUs : w.heap.size + 2 ≤ wr.heap.size := by have := HP1.out.lt; omega
        have hlw := HL1.out.kept hW
        have hl128 := HL.out
        obtain ⟨a2, c2, w', r1, r2, r3⟩ := hlw.push (by have := hW.size; omega) (by have := hxl.out; omega) (loBK t) da ea ra' (loBK t).dec.length dc (loBK t).enc.length ec (loBK t).rows.length rc' (ho.mono hUs)
        rw [hxl.out] at r1 r2 r3
        have hrow : W.ownsRow (w.heap.size + 2) 28 3 (.slice a j c) xs.length (xs.flatMap cBV) := hlw.row
        have b1 := grow_blk r3.out hrow (HP1.out.kept hW) (by decide)
        have b2 := grow_blk r3.out hrow (HR1.out.kept hW) (by decide)
        have b3 := grow_blk r3.out hrow (HT1.out.kept hW) (by decide)
        have ne1 : q ≠ w.heap.size + 1 := by omega
        have ne2 : q ≠ w.heap.size := by omega
        have hkk : ∀ {k : BK} {d e r : Value}, BkO w' (w.heap.size + 2) k d e r → BkO (w'.setCell ⟨q, 0, none⟩ (.slice a2 (j + 1) c2)) (w.heap.size + 2) k d e r := fun z => ⟨own_othP z.hd b1 (by decide), own_othP z.he b1 (by decide), own_othP z.hr b1 (by decide), z.ap⟩
        refine ⟨a2, c2, w', r1, hid b1, hid ⟨_, ?_, ?_, ⟨own_othP r2.out.row b1 (by decide), fun x hx => hkk (r2.out.el x hx)⟩, (b1.set 0 _).is (by simp), b2.other (a := ⟨q, 0, none⟩) (fun e => ne1 e.symm) _, b3.other (a := ⟨q, 0, none⟩) (fun e => ne2 e.symm) _, ?_⟩⟩
        · simp [hxl.out]
        · rw [HTK.out, List.map_append, hmap.out]; rfl
        · refine Below.setCell ((HB1.out.trans (hW.mono (by omega))).trans (r3.out.below (by have := hW.size; omega) (fun k hk => ?_))) (by show w.heap.size ≤ q; omega) _
          have := (own_type hrow hk).1
          omega
      go_wp2_with fail
      have xp := HP1.out.cellF
      have yp := HP1.out.frz
      have zp := HP1.out.lt
      go_region_law (first | (refine step_append_ran rfl _ _ 32 32 rfl rfl _ _ _ _ rfl rfl HRUN.out ?_) | (go_simp; go_wp2_with (go_at_call 11; refine (HBJ.out _ (by have := HB1.out; first | exact this | exact bl_drew this)).mono ?_; rintro e u1 ⟨da, dc, ea, ec, ra', rc', rfl, ho, hbx⟩; have HU1 : Hid (Below wr.heap.size wr u1) := hid (bl_then (below_drew1 _) hbx); obtain ⟨a3, c3, w3, HRUN, HB3, HE⟩ := HAP.out u1 HU1.out da dc ea ec ra' rc' ho; have xp1 := (HP1.out.kept HU1.out).cellF; have zp1 := (HP1.out.kept HU1.out).lt; have xp3 := HB3.out.cellF; have yp3 := HB3.out.frz; have zp3 := HB3.out.lt)))
      all_goals
        obtain ⟨xs', g1, g2, g3, g4, g5, g6, g7⟩ := HE.out
        replace g3 := hid g3
        replace g4 := hid g4
        replace g5 := hid g5
        replace g6 := hid g6
        replace g7 := hid g7
        go_wp2
        exact ⟨⟨j + 1, a3, c3, xs', by simp, by omega, hid g1, hid g2, g3, g4, g5, g6, g7⟩, by simp [numAt]; omega⟩
    · have h3 : ¬ (j : Int) < (l.length : Int) := by omega
      have ej : l.take j = l := List.take_of_length_le (by omega)
      rw [ej] at hmap
      have xr := HR1.out.cellF
      have yr := HR1.out.frz
      have zr := HR1.out.lt
      have xp := HP1.out.cellF
      have zp := HP1.out.lt
      go_wp2
      refine bodyPost_ret (v := .agg #[.slice a j c]) (by simp [results, Tryz.results13, go_sem, xr, zr, yr]) rfl ?_
      have hx := hxl.out
      subst hx
      have hk2 : ∀ {k : BK} {d e r : Value}, BkO wr (w.heap.size + 2) k d e r → BkO (wr.setCell ⟨w.heap.size + 1, 0, none⟩ (.slice a xs.length c)) w.heap.size k d e r := fun z => BkO.mono ⟨own_othP z.hd HR1.out (by decide), own_othP z.he HR1.out (by decide), own_othP z.hr HR1.out (by decide), z.ap⟩ (by omega)
      exact ⟨a, c, xs, rfl, hmap.out, ⟨own_mono (own_othP HL1.out.row HR1.out (by decide)) (by omega), fun x hx => hk2 (HL1.out.el x hx)⟩, Below.setCell HB1.out (by show w.heap.size ≤ w.heap.size + 1; omega) _⟩
theorem map_take_eq {xs ys : List BV} {j : Nat} (h1 : j < xs.length) (h2 : j < ys.length) : (xs.take (j + 1)).map BV.k = (ys.take (j + 1)).map BV.k ↔ ((xs.take j).map BV.k = (ys.take j).map BV.k ∧ xs[j].k = ys[j].k) := by
  rw [List.take_succ_eq_append_getElem h1, List.take_succ_eq_append_getElem h2, List.map_append, List.map_append]
  constructor
  · intro h
    have := List.append_inj h (by simp; omega)
    exact ⟨this.1, by simpa using this.2⟩
  · rintro ⟨h, g⟩
    rw [h]
    simp [g]
theorem map_ne_at {xs ys : List BV} {j : Nat} (h1 : j < xs.length) (h2 : j < ys.length) (h : xs[j].k ≠ ys[j].k) : xs.map BV.k ≠ ys.map BV.k := fun e => h (by
  have := congrArg (fun l => l[j]?) e
  simpa [h1, h2] using this)
theorem sameD (w : World) (xs ys : List BV) (xa ya : Option Addr) (xc yc : Nat) (hx : PgR w (.slice xa xs.length xc) xs) (hy : PgR w (.slice ya ys.length yc) ys) : Calls Tryz.prog 12 #[.agg #[.slice xa xs.length xc], .agg #[.slice ya ys.length yc]] w (EqA w (xs.map BV.k = ys.map BV.k)) := by
  obtain ⟨_, _, e, hn1⟩ := rowS_sl hx.row
  clear e
  obtain ⟨_, _, e, hn2⟩ := rowS_sl hy.row
  clear e
  have h631 : (xs.length : Int) ≤ 9223372036854775807 := by omega
  have h632 : (ys.length : Int) ≤ 9223372036854775807 := by omega
  have HX := hid hx
  have HY := hid hy
  clear hx hy
  by_cases hne : xs.length = ys.length
  case neg =>
    have q1 : ((xs.length : Int) != (ys.length : Int)) = true := by simp; omega
    have HF : Hid (¬ xs.map BV.k = ys.map BV.k) := hid fun e => hne (by simpa using congrArg List.length e)
    clear hne
    go_enter Tryz.func12, Tryz.ntmps12
    go_wp2
    go_ret
    exact EqA.no HF.out (by exact blBy)
  have q1 : ((xs.length : Int) != (ys.length : Int)) = false := by simp; omega
  replace hne := hid hne
  generalize en : xs.length = n at *
  generalize em : ys.length = m at *
  replace en := hid en
  replace em := hid em
  go_enter Tryz.func12, Tryz.ntmps12
  go_wp2
  have BX : Hid (Blk ((w.alloc (.cells #[.slice xa n xc] 34)).alloc (.cells #[.slice ya m yc] 34)) w.heap.size 34 #[.slice xa n xc]) := hid ((Blk.new _ _ _).kept (below_alloc _))
  have BY : Hid (Blk ((w.alloc (.cells #[.slice xa n xc] 34)).alloc (.cells #[.slice ya m yc] 34)) (w.heap.size + 1) 34 #[.slice ya m yc]) := hid (Blk.newAt (by simp))
  have HB : Hid (Below w.heap.size w ((w.alloc (.cells #[.slice xa n xc] 34)).alloc (.cells #[.slice ya m yc] 34))) := hid (by exact blBy)
  generalize (w.alloc (.cells #[.slice xa n xc] 34)).alloc (.cells #[.slice ya m yc] 34) = W at *
  replace HX := hid (HX.out.kept HB.out)
  replace HY := hid (HY.out.kept HB.out)
  go_loopw [5] (fun r wr => ∃ j : Nat, r = .int .i64 j ∧ j ≤ n ∧ Hid ((xs.take j).map BV.k = (ys.take j).map BV.k) ∧ Hid (Below W.heap.size W wr)) (fun r wr => n - numAt wr r)
  case atStart => exact ⟨0, rfl, by omega, hid (by simp), hid (Below.refl _ _)⟩
  case round =>
    obtain ⟨j, rfl, hj, HS, hb⟩ := hrel
    have e0 := (BX.out.kept hb.out).cell 0 _ rfl
    have e1 := (BY.out.kept hb.out).cell 0 _ rfl
    simp only [List.getElem_toArray, List.getElem_cons_succ, List.getElem_cons_zero] at e0 e1
    have z0 := (BX.out.kept hb.out).lt
    have z1 := (BY.out.kept hb.out).lt
    by_cases hlt : j < n
    · have j1 : (j : Int) < (n : Int) := by omega
      have j2 : (j : Int) < (m : Int) := by have := hne.out; omega
      have hx1 : j < xs.length := by have := en.out; omega
      have hy1 : j < ys.length := by have := em.out; have := hne.out; omega
      have HR := HX.out.row.kept hb.out
      have HQ := HY.out.row.kept hb.out
      obtain ⟨pb, po, epb, hc⟩ := rowAt (g := cBV) (fun _ => rfl) HR (i := j) (x := xs[j]) (by simp [hx1])
      obtain ⟨rb, ro, erb, hd⟩ := rowAt (g := cBV) (fun _ => rfl) HQ (i := j) (x := ys[j]) (by simp [hy1])
      clear HR HQ
      cases epb
      cases erb
      have c0 := hc 0 _ rfl
      have c1 := hc 1 _ rfl
      have c2 := hc 2 _ rfl
      have d0 := hd 0 _ rfl
      have d1 := hd 1 _ rfl
      have d2 := hd 2 _ rfl
      clear hc hd
      simp only [Nat.add_zero] at c0 d0
      have HST := hid (fun h => (map_take_eq hx1 hy1).2 ⟨HS.out, h⟩)
      have HNE := hid (map_ne_at hx1 hy1)
      have HEX := hid (HX.out.el _ (List.getElem_mem hx1))
      have HEY := hid (HY.out.el _ (List.getElem_mem hy1))
      generalize xs[j] = X at *
      generalize ys[j] = Y at *
      obtain ⟨A, xd, xe, xr⟩ := X
      obtain ⟨B, yd, ye, yr⟩ := Y
      dsimp only at c0 c1 c2 d0 d1 d2 HEX HEY HST HNE
      obtain ⟨a1, k1, rfl, -⟩ := rowS_sl HEX.out.hd
      obtain ⟨a2, k2, rfl, -⟩ := rowS_sl HEX.out.he
      obtain ⟨a3, k3, rfl, -⟩ := rowS_sl HEX.out.hr
      obtain ⟨b1, l1, rfl, -⟩ := rowS_sl HEY.out.hd
      obtain ⟨b2, l2, rfl, -⟩ := rowS_sl HEY.out.he
      obtain ⟨b3, l3, rfl, -⟩ := rowS_sl HEY.out.hr
      have HC : Hid (∀ V, Below W.heap.size W V → Calls Tryz.prog 10 #[.agg #[.slice a1 A.dec.length k1, .slice a2 A.enc.length k2, .slice a3 A.rows.length k3], .agg #[.slice b1 B.dec.length l1, .slice b2 B.enc.length l2, .slice b3 B.rows.length l3]] V (EqA V (A = B))) := hid fun V hV => sameBlockD V A B a1 a2 a3 b1 b2 b3 k1 k2 k3 l1 l2 l3 (HEX.out.kept hV) (HEY.out.kept hV)
      clear HEX HEY HX HY BX BY
      generalize A.dec.length = n1 at *
      generalize A.enc.length = n2 at *
      generalize A.rows.length = n3 at *
      generalize B.dec.length = m1 at *
      generalize B.enc.length = m2 at *
      generalize B.rows.length = m3 at *
      have hpb : pb < wr.heap.size := World.block_lt_of_cell? _ _ c0
      have hrb : rb < wr.heap.size := World.block_lt_of_cell? _ _ d0
      go_upto_region 6 with fail
      go_region_held3 (fun V => V.cell? ⟨w.heap.size, 0, none⟩ = some (.slice (some ⟨pb, po, none⟩) n xc) ∧ V.cell? ⟨w.heap.size + 1, 0, none⟩ = some (.slice (some ⟨rb, ro, none⟩) m yc) ∧ V.cell? ⟨pb, po + j * 3, none⟩ = some (.slice a1 n1 k1) ∧ V.cell? ⟨pb, po + j * 3 + 1, none⟩ = some (.slice a2 n2 k2) ∧ V.cell? ⟨pb, po + j * 3 + 2, none⟩ = some (.slice a3 n3 k3) ∧ V.cell? ⟨rb, ro + j * 3, none⟩ = some (.slice b1 m1 l1) ∧ V.cell? ⟨rb, ro + j * 3 + 1, none⟩ = some (.slice b2 m2 l2) ∧ V.cell? ⟨rb, ro + j * 3 + 2, none⟩ = some (.slice b3 m3 l3)) (first | exact ⟨e0, e1, c0, c1, c2, d0, d1, d2⟩) (first | (go_at_call 10; refine (HC.out _ (by have := hb.out; exact blBy)).mono ?_; rintro e w4 ⟨r, rfl, hr, hbx⟩; replace e0 := cell_below e0 (below_trans (by first | exact Below.refl _ _ | exact below_drew1 _ | exact below_drewN _ _) hbx); replace e1 := cell_below e1 (below_trans (by first | exact Below.refl _ _ | exact below_drew1 _ | exact below_drewN _ _) hbx); replace c0 := cell_below c0 (below_trans (by first | exact Below.refl _ _ | exact below_drew1 _ | exact below_drewN _ _) hbx); replace c1 := cell_below c1 (below_trans (by first | exact Below.refl _ _ | exact below_drew1 _ | exact below_drewN _ _) hbx); replace c2 := cell_below c2 (below_trans (by first | exact Below.refl _ _ | exact below_drew1 _ | exact below_drewN _ _) hbx); replace d0 := cell_below d0 (below_trans (by first | exact Below.refl _ _ | exact below_drew1 _ | exact below_drewN _ _) hbx); replace d1 := cell_below d1 (below_trans (by first | exact Below.refl _ _ | exact below_drew1 _ | exact below_drewN _ _) hbx); replace d2 := cell_below d2 (below_trans (by first | exact Below.refl _ _ | exact below_drew1 _ | exact below_drewN _ _) hbx); replace hb := hid (below_trans hb.out (below_trans (by first | exact Below.refl _ _ | exact below_drew1 _ | exact below_drewN _ _) hbx)); clear hbx))
      all_goals
        cases r with
        | true =>
          have hAB : A = B := hr.1 rfl
          have HS2 := hid (HST.out hAB)
          clear hAB hr HST HNE HC
          go_wp2
          exact ⟨⟨j + 1, by simp, by omega, HS2, hb⟩, by simp [numAt]; omega⟩
        | false =>
          have HF := hid (HNE.out (fun e => by have := hr.2 e; cases this))
          clear hr HST HNE HC
          go_wp2
          go_ret
          exact EqA.no HF.out (bl_then HB.out hb.out)
    · have j1 : ¬ (j : Int) < (n : Int) := by omega
      have HE : Hid (xs.map BV.k = ys.map BV.k) := hid (by
        have h := HS.out
        rw [List.take_of_length_le (by have := en.out; omega), List.take_of_length_le (by have := em.out; have := hne.out; omega)] at h
        exact h)
      go_wp2
      go_ret
      exact EqA.yes HE.out (bl_then HB.out hb.out)
theorem cutI_none : ∀ (l : List Int), (∀ c ∈ l, c ≠ 46) → cutI l = [l]
  | [], _ => rfl
  | c :: r, h => by
    rw [cutI, if_neg (h c (by simp)), cutI_none r (fun c hc => h c (by simp [hc]))]
    rfl
theorem cutI_at : ∀ (a b : List Int), (∀ c ∈ a, c ≠ 46) → cutI (a ++ 46 :: b) = a :: cutI b
  | [], b, _ => by simp [cutI]
  | c :: r, b, h => by
    rw [List.cons_append, cutI, if_neg (h c (by simp)), cutI_at r b (fun c hc => h c (by simp [hc]))]
    rfl
/-- While it is cut: P stands, from fr on there is no dot up to i. -/
structure Cut (xs : List Int) (P : List (List Int)) (fr i : Nat) : Prop where
  is : cutI xs = P ++ cutI (xs.drop fr)
  le : fr ≤ i
  no : ∀ c ∈ (xs.take i).drop fr, c ≠ 46
  few : P.length ≤ i
theorem Cut.start (xs : List Int) : Cut xs [] 0 0 := ⟨by simp, by omega, by simp, by simp⟩
theorem Cut.step {xs : List Int} {P : List (List Int)} {fr i : Nat} (h : Cut xs P fr i) (hi : i < xs.length) (hx : xs[i] ≠ 46) : Cut xs P fr (i + 1) := by
  refine ⟨h.is, by have := h.le; omega, fun c hc => ?_, by have := h.few; omega⟩
  rw [List.take_succ_eq_append_getElem hi, List.drop_append_of_le_length (by simp; have := h.le; omega)] at hc
  rcases List.mem_append.1 hc with q | q
  · exact h.no c q
  · simp at q; subst q; exact hx
theorem Cut.dot {xs : List Int} {P : List (List Int)} {fr i : Nat} (h : Cut xs P fr i) (hi : i < xs.length) (hx : xs[i] = 46) : Cut xs (P ++ [(xs.take i).drop fr]) (i + 1) (i + 1) := by
  refine ⟨?_, by omega, by simp, by have := h.few; simp; omega⟩
  have e : xs.drop fr = (xs.take i).drop fr ++ 46 :: xs.drop (i + 1) := by
    have e1 : xs = xs.take i ++ 46 :: xs.drop (i + 1) := by rw [← hx, List.getElem_cons_drop, List.take_append_drop]
    conv => lhs; rw [e1]
    rw [List.drop_append_of_le_length (by simp; have := h.le; omega)]
  rw [h.is, e, cutI_at _ _ h.no, List.append_assoc]
  rfl
theorem Cut.fin {xs : List Int} {P : List (List Int)} {fr : Nat} (h : Cut xs P fr xs.length) : P ++ [(xs.take xs.length).drop fr] = cutI xs := by
  rw [h.is, List.take_length, cutI_none]
  have := h.no
  rw [List.take_length] at this
  exact this
theorem partsR (xs : List Int) (w : World) (hb : ∀ c ∈ xs, 0 ≤ c ∧ c ≤ 255) (hl : xs.length < 4000000) : Calls Tryz.prog 42 #[.string (strOfNums xs)] w fun e w' => (∃ a c, e = .returned (.slice a (cutI xs).length c) ∧ Hid (RowS w' AnyZ 1 (.slice a (cutI xs).length c) (cutI xs).length ((cutI xs).flatMap cN))) ∧ Below w.heap.size w w' := by
  have HB := hid hb
  have HSZ : (strOfNums xs).size = xs.length := strOfNums_size xs
  have h63 : (xs.length : Int) ≤ 9223372036854775807 := by omega
  clear hb
  go_enter Tryz.func42, Tryz.ntmps42
  go_wp2
  go_loopw [3, 4, 5] (fun v f r wr => ∃ (i fr : Nat) (P : List (List Int)) (va : Option Addr) (vc : Nat), v = .slice va P.length vc ∧ f = .int .i64 fr ∧ r = .int .i64 i ∧ i ≤ xs.length + 1 ∧ Hid ((i ≤ xs.length ∧ Cut xs P fr i) ∨ (i = xs.length + 1 ∧ P = cutI xs)) ∧ Hid (wr.ownsRow w.heap.size 9 1 (.slice va P.length vc) P.length (P.flatMap cN)) ∧ Hid (Below w.heap.size w wr)) (fun _ _ r wr => xs.length + 1 - numAt wr r)
  case atStart => exact ⟨0, 0, [], none, 0, rfl, rfl, rfl, by omega, hid (.inl ⟨by omega, Cut.start xs⟩), hid (World.ownsRow_nil _ _ _ _), hid (Below.refl _ _)⟩
  case round =>
    obtain ⟨i, fr, P, va, vc, rfl, rfl, rfl, hi, HC, HV, hb⟩ := hrel
    rcases HC.out with ⟨hil, hc⟩ | ⟨he, hp⟩
    case inr =>
      subst hp
      have h2 : ¬ (i : Int) ≤ (xs.length : Int) := by omega
      have h3 : ((i : Int) ≤ (xs.length : Int)) = False := eq_false h2
      clear he HC
      go_wp2
      go_ret
      exact ⟨⟨va, vc, rfl, hid (own_row HV.out (fun _ _ => trivial))⟩, hb.out⟩
    have h2 : (i : Int) ≤ (xs.length : Int) := by omega
    have hfr : fr ≤ i := hc.le
    have hfew : P.length ≤ i := hc.few
    have hfr2 : (fr : Int) ≤ (i : Int) := by omega
    have HS : Hid ((strOfNums xs).extract fr i = strOfNums ((xs.take i).drop fr)) := hid (str_cut xs fr i)
    obtain ⟨la, lc, x1, HRUN, HV1, HG1⟩ := appendSt w.heap.size (.slice va P.length vc) P ((xs.take i).drop fr) wr HV.out hb.out.size (by omega)
    rw [← HS.out] at HRUN
    have hb1 : Hid (Below w.heap.size w x1) := hid (hb.out.trans (grow_bel HG1.out HV.out (Nat.le_refl _) hb.out.size))
    have HL : Hid ((P ++ [(xs.take i).drop fr]).length = P.length + 1) := hid (by simp)
    have HC1 := hid hc
    clear hc HC HG1 HS
    by_cases hlt : i < xs.length
    case neg =>
      have ei : i = xs.length := by omega
      have k1 : ((i : Int) == (xs.length : Int)) = true := by simp [ei]
      have HE : Hid (P ++ [(xs.take i).drop fr] = cutI xs) := hid (by subst ei; exact HC1.out.fin)
      have hi2 : i + 1 = xs.length + 1 := by omega
      replace hi2 := hid hi2
      clear hlt ei
      go_wp2_with (first | (at_builtin; refine wpList_append_ran rfl _ _ 46 46 rfl rfl _ _ (.slice la (P.length + 1) lc) x1 rfl rfl HRUN.out ?_))
      exact ⟨⟨i + 1, i + 1, P ++ [(xs.take i).drop fr], la, lc, by rw [HL.out], by simp, by simp, by omega, hid (.inr ⟨hi2.out, HE.out⟩), hid (by have := HV1.out; rw [← HL.out] at this; exact this), hb1⟩, by simp [numAt]; omega⟩
    have hlt2 : (i : Int) < (xs.length : Int) := by omega
    have k1 : ((i : Int) == (xs.length : Int)) = false := by rw [beq_eq_false_iff_ne]; omega
    have hix := index_str HB.out i hlt .i64
    have e1 : xs[i]?.getD 0 = xs[i] := by simp [hlt]
    rw [e1] at hix
    by_cases hd : xs[i] = 46
    · have HN := hid (HC1.out.dot hlt hd)
      rw [hd] at hix
      clear e1 hd
      go_wp2_with (first | (at_builtin; refine wpList_append_ran rfl _ _ 46 46 rfl rfl _ _ (.slice la (P.length + 1) lc) x1 rfl rfl HRUN.out ?_))
      exact ⟨⟨i + 1, i + 1, P ++ [(xs.take i).drop fr], la, lc, by rw [HL.out], by simp, by simp, by omega, hid (.inl ⟨by omega, HN.out⟩), hid (by have := HV1.out; rw [← HL.out] at this; exact this), hb1⟩, by simp [numAt]; omega⟩
    · have HN := hid (HC1.out.step hlt hd)
      have k2 : (xs[i] == 46) = false := by simpa using hd
      clear e1 hd HRUN
      generalize xs[i] = d at hix k2
      go_wp2
      exact ⟨⟨i + 1, fr, P, va, vc, rfl, rfl, by simp, by omega, hid (.inl ⟨by omega, HN.out⟩), HV, hb⟩, by simp [numAt]; omega⟩
def lastP (nm : List Int) : List Int := ((cutI nm)[(cutI nm).length - 1]?).getD []
def hdN (nm : List Int) : Nat := nm.length - (lastP nm).length - 1
def headA (hd : List Int) : List TV → Bool
  | [] => false
  | v :: r => if nameP hd v = true then !v.t.enum else headA hd r
def nmdB (l : List TV) (i : Nat) (t : TT) : Bool := !(l.take i).any (nameP t.name) && (decide ((cutI t.name).length ≤ if t.enum = true then 9 else 8) && ((cutI t.name).all nmB && (decide ((cutI t.name).length = 1) || headA (t.name.take (hdN t.name)) (l.take i))))
theorem cutI_last : ∀ (l : List Int), 1 < (cutI l).length → (((cutI l)[(cutI l).length - 1]?).getD []).length + 1 ≤ l.length
  | [], h => by simp [cutI] at h
  | c :: r, h => by
    obtain ⟨p, q, e⟩ := cutI_ne r
    rw [cutI, e] at h ⊢
    by_cases hc : c = 46
    · rw [if_pos hc] at h ⊢
      by_cases hq : q = []
      · subst hq
        have := (cutI_mem r p (by rw [e]; simp)).2
        simp
        omega
      · have hl : 0 < q.length := List.length_pos_iff.2 hq
        have ih := cutI_last r (by rw [e]; simp; omega)
        rw [e] at ih
        simp only [List.length_cons] at ih ⊢
        rw [show q.length + 1 + 1 - 1 = (q.length + 1 - 1) + 1 by omega, List.getElem?_cons_succ]
        omega
    · rw [if_neg hc] at h ⊢
      simp only [List.headD_cons, List.tail_cons] at h ⊢
      have hl : 0 < q.length := by simp at h; omega
      have ih := cutI_last r (by rw [e]; simp; omega)
      rw [e] at ih
      simp only [List.length_cons] at ih ⊢
      rw [show q.length + 1 - 1 = (q.length - 1) + 1 by omega, List.getElem?_cons_succ] at ih ⊢
      omega
theorem take_any {l : List TV} {p : TV → Bool} {j : Nat} (h : j < l.length) : (l.take (j + 1)).any p = ((l.take j).any p || p l[j]) := by
  rw [List.take_succ_eq_append_getElem h, List.any_append]; simp
theorem any_mono {l : List TV} {p : TV → Bool} {j i : Nat} (h : j < i) (hj : j < l.length) (hp : p l[j] = true) : (l.take i).any p = true := by
  rw [List.any_eq_true]
  exact ⟨l[j], List.mem_take_iff_getElem.2 ⟨j, by omega, rfl⟩, hp⟩
theorem namedR (w : World) (l : List TV) (ta : Option Addr) (tc i : Nat) (h : TbR w (.slice ta l.length tc) l) (hk : ∀ x ∈ l, TxA x.t.name) (hz : ∀ x ∈ l, x.t.name.length < 4000000) (hi : i < l.length) : Calls Tryz.prog 21 #[.agg #[.slice ta l.length tc], .int .i64 (i : Int)] w fun e w' => e = .returned (.bool (nmdB l i l[i].t)) ∧ Below w.heap.size w w' := by
  obtain ⟨_, _, e, hn⟩ := rowS_sl h.row
  clear e
  have h63 : (l.length : Int) ≤ 9223372036854775807 := by omega
  have hil : (i : Int) < (l.length : Int) := by omega
  have HT := hid h
  have HK := hid hk
  have HX : Hid (nmdB l i l[i].t = (!(l.take i).any (nameP l[i].t.name) && (decide ((cutI l[i].t.name).length ≤ if l[i].t.enum = true then 9 else 8) && ((cutI l[i].t.name).all nmB && (decide ((cutI l[i].t.name).length = 1) || headA (l[i].t.name.take (hdN l[i].t.name)) (l.take i)))))) := hid rfl
  have HN := hk _ (List.getElem_mem hi)
  have HZ := hz _ (List.getElem_mem hi)
  have HTY := hid (h.ty _ (List.getElem_mem hi))
  obtain ⟨tb, tof, rfl, hbl, c0, c1, c2, c3, c4, c5⟩ := row6 h.row hi
  clear h hk hz
  generalize nmdB l i l[i].t = res at *
  generalize l[i] = x at *
  obtain ⟨t, vf, vo, vs, vr⟩ := x
  obtain ⟨fa, fc, ef, -⟩ := rowS_sl HTY.out.f
  obtain ⟨oa, oc, eo, -⟩ := rowS_sl HTY.out.o
  obtain ⟨sa, sc, es, -⟩ := rowS_sl HTY.out.s
  obtain ⟨ra, rc, er, -⟩ := rowS_sl HTY.out.r
  dsimp only at ef eo es er
  subst ef eo es er
  clear HTY
  dsimp only at HX HN HZ c0 c1 c2 c3 c4 c5
  go_enter Tryz.func21, Tryz.ntmps21
  go_wp2
  have Ba : Blk ((w.alloc (.cells #[.slice (some ⟨tb, tof, none⟩) l.length tc] 24)).alloc (.cells #[.string (strOfNums t.name), .bool t.enum, .slice fa t.fs.length fc, .slice oa t.os.length oc, .slice sa t.ss.length sc, .slice ra t.rs.length rc] 50)) w.heap.size 24 #[.slice (some ⟨tb, tof, none⟩) l.length tc] := ((Blk.new _ _ _).kept (below_alloc _))
  have Bb : Blk ((w.alloc (.cells #[.slice (some ⟨tb, tof, none⟩) l.length tc] 24)).alloc (.cells #[.string (strOfNums t.name), .bool t.enum, .slice fa t.fs.length fc, .slice oa t.os.length oc, .slice sa t.ss.length sc, .slice ra t.rs.length rc] 50)) (w.heap.size + 1) 50 #[.string (strOfNums t.name), .bool t.enum, .slice fa t.fs.length fc, .slice oa t.os.length oc, .slice sa t.ss.length sc, .slice ra t.rs.length rc] := (Blk.newAt (by simp))
  have hb0 : Hid (Below w.heap.size w ((w.alloc (.cells #[.slice (some ⟨tb, tof, none⟩) l.length tc] 24)).alloc (.cells #[.string (strOfNums t.name), .bool t.enum, .slice fa t.fs.length fc, .slice oa t.os.length oc, .slice sa t.ss.length sc, .slice ra t.rs.length rc] 50))) := hid (by exact blBy)
  generalize ((w.alloc (.cells #[.slice (some ⟨tb, tof, none⟩) l.length tc] 24)).alloc (.cells #[.string (strOfNums t.name), .bool t.enum, .slice fa t.fs.length fc, .slice oa t.os.length oc, .slice sa t.ss.length sc, .slice ra t.rs.length rc] 50)) = W at *
  clear c0 c1 c2 c3 c4 c5 hbl
  go_loopw [6] (fun r wr => ∃ j : Nat, r = .int .i64 j ∧ j ≤ i ∧ Hid ((l.take j).any (nameP t.name) = false) ∧ Hid (Blk wr w.heap.size 24 #[.slice (some ⟨tb, tof, none⟩) l.length tc]) ∧ Hid (Blk wr (w.heap.size + 1) 50 #[.string (strOfNums t.name), .bool t.enum, .slice fa t.fs.length fc, .slice oa t.os.length oc, .slice sa t.ss.length sc, .slice ra t.rs.length rc]) ∧ Hid (Below w.heap.size w wr)) (fun r wr => i - numAt wr r)
  case atStart => exact ⟨0, rfl, by omega, hid rfl, hid Ba, hid Bb, hb0⟩
  case round =>
    clear Ba Bb hb0
    obtain ⟨j, rfl, hj, hany, Ba, Bb, hb⟩ := hrel
    have xa := Ba.out.cellF
    have za := Ba.out.lt
    have xb := Bb.out.cellF
    have zb := Bb.out.lt
    by_cases hlt : j < i
    · have h2 : (j : Int) < (i : Int) := by omega
      have h3 : (j : Int) < (l.length : Int) := by omega
      obtain ⟨b', o', e, hbl, c0, -⟩ := row6 (HT.out.row.kept hb.out) (show j < l.length by omega)
      cases e
      have hs := str_eq (HK.out _ (List.getElem_mem (show j < l.length by omega))).1 HN.1
      have HA := hid (take_any (p := nameP t.name) (show j < l.length by omega))
      have HM : Hid (nameP t.name l[j] = true → (l.take i).any (nameP t.name) = true) := hid (any_mono hlt (by omega))
      generalize l[j] = y at *
      by_cases hq : y.t.name = t.name
      · rw [decide_eq_true hq] at hs
        have HF : Hid (res = false) := hid (by rw [HX.out, HM.out (decide_eq_true hq)]; rfl)
        replace hq := hid hq
        go_wp2
        go_region
        go_wp2
        go_ret
        exact ⟨ret_bool HF.out.symm, by have := hb.out; exact blBy⟩
      · rw [decide_eq_false hq] at hs
        have HA2 : Hid ((l.take (j + 1)).any (nameP t.name) = false) := hid (by rw [HA.out, hany.out, show nameP t.name y = false from decide_eq_false hq]; rfl)
        replace hq := hid hq
        go_wp2
        go_region
        go_wp2
        exact ⟨⟨j + 1, by simp, by omega, HA2, hid (Ba.out.kept (by exact blBy)), hid (Bb.out.kept (by exact blBy)), hid (by have := hb.out; exact blBy)⟩, by simp [numAt]; omega⟩
    · have h2 : ¬ (j : Int) < (i : Int) := by omega
      have ej : j = i := by omega
      subst ej
      replace HX := hid (show res = (decide ((cutI t.name).length ≤ if t.enum = true then 9 else 8) && ((cutI t.name).all nmB && (decide ((cutI t.name).length = 1) || headA (t.name.take (hdN t.name)) (l.take j)))) by rw [HX.out, hany.out]; rfl)
      clear hany
      go_wp2_with fail
      refine (partsR t.name _ HN.1 HZ).mono ?_
      rintro e w1 ⟨⟨pa, pc, rfl, HP⟩, hb1⟩
      have Ca := hid (Ba.out.kept hb1)
      have Cb := hid (Bb.out.kept hb1)
      clear Ba Bb xa xb za zb
      have xa := Ca.out.cellF
      have za := Ca.out.lt
      have xb := Cb.out.cellF
      have zb := Cb.out.lt
      replace hb1 : Hid (Below w.heap.size w w1) := hid (bl_then hb.out hb1)
      clear hb
      have hcl := cutI_len t.name
      have hcc := List.count_le_length (a := (46 : Int)) (l := t.name)
      have HPT : Hid (∀ x ∈ cutI t.name, TxA x) := hid fun x hx => ⟨fun c hc => HN.1 c ((cutI_mem _ _ hx).1 c hc), by have := (cutI_mem _ _ hx).2; omega⟩
      have HH : Hid (1 < (cutI t.name).length → ∃ lp, (cutI t.name)[(cutI t.name).length - 1]? = some lp ∧ t.name.length = hdN t.name + lp.length + 1) := hid fun q => by
        have h1 := cutI_last t.name q
        have h2 : (cutI t.name)[(cutI t.name).length - 1]? = some ((cutI t.name)[(cutI t.name).length - 1]) := by simp
        refine ⟨_, h2, ?_⟩
        unfold hdN lastP
        rw [h2] at h1 ⊢
        simp only [Option.getD_some] at h1 ⊢
        omega
      have hlen1 : 1 ≤ (cutI t.name).length := by omega
      have hlen2 : (cutI t.name).length ≤ 4000000 := by omega
      clear hcl hcc
      generalize cutI t.name = ps at *
      have hps : (ps.length : Int) ≤ 9223372036854775807 := by omega
      have HSZ : (strOfNums t.name).size = t.name.length := strOfNums_size _
      cases q0 : t.enum with
      | true =>
        replace HX := hid (show res = (decide (ps.length ≤ 9) && (ps.all nmB && (decide (ps.length = 1) || headA (t.name.take (hdN t.name)) (l.take j)))) by rw [HX.out, q0]; rfl)
        by_cases hbig : 9 < ps.length
        case pos =>
          have k1 : (9 : Int) < (ps.length : Int) := by omega
          have HF : Hid (res = false) := hid (by rw [HX.out, decide_eq_false (by omega)]; rfl)
          go_wp2
          go_ret
          exact ⟨ret_bool HF.out.symm, by have := hb1.out; exact blBy⟩
        have k1 : ¬ (9 : Int) < (ps.length : Int) := by omega
        replace HX := hid (show res = (ps.all nmB && (decide (ps.length = 1) || headA (t.name.take (hdN t.name)) (l.take j))) by rw [HX.out, decide_eq_true (by omega)]; rfl)
        go_wp2
        go_loopw [9] (fun r wr => ∃ k : Nat, r = .int .i64 k ∧ k ≤ ps.length ∧ Hid ((ps.take k).all nmB = true) ∧ Hid (RowS wr AnyZ 1 (.slice pa ps.length pc) ps.length (ps.flatMap cN)) ∧ Hid (Blk wr w.heap.size 24 #[.slice (some ⟨tb, tof, none⟩) l.length tc]) ∧ Hid (Blk wr (w.heap.size + 1) 50 #[.string (strOfNums t.name), .bool t.enum, .slice fa t.fs.length fc, .slice oa t.os.length oc, .slice sa t.ss.length sc, .slice ra t.rs.length rc]) ∧ Hid (Below w.heap.size w wr)) (fun r wr => ps.length - numAt wr r)
        case atStart => exact ⟨0, rfl, by omega, hid rfl, HP, Ca, Cb, hb1⟩
        case round =>
          clear Ca Cb xa za xb zb hb1 HP
          obtain ⟨k, rfl, hk, hall, HP, Ca, Cb, hb1⟩ := hrel
          by_cases hlt : k < ps.length
          · have h4 : (k : Int) < (ps.length : Int) := by omega
            obtain ⟨b, o, rfl, hc⟩ := rowAt (g := cN) (fun _ => rfl) HP.out (i := k) (x := ps[k]) (by simp [hlt])
            have c0 : wr.cell? ⟨b, o + k, none⟩ = some (.string (strOfNums ps[k])) := by have := hc 0 _ rfl; simpa using this
            have hbl : b < wr.heap.size := World.block_lt_of_cell? _ _ c0
            have HTY := HPT.out _ (List.getElem_mem hlt)
            have HTK : Hid ((ps.take (k + 1)).all nmB = nmB ps[k]) := hid (by rw [List.take_succ_eq_append_getElem hlt, List.all_append, hall.out]; simp)
            have HAL : Hid (ps.all nmB = true → nmB ps[k] = true) := hid (fun q => List.all_eq_true.1 q _ (List.getElem_mem hlt))
            generalize ps[k] = y at *
            go_wp2_with fail
            refine (isNameR y _ HTY.1 HTY.2).mono ?_
            rintro e w2 ⟨rfl, rfl⟩
            cases hq : nmB y with
            | true =>
              go_wp2
              exact ⟨⟨k + 1, by simp, by omega, hid (by rw [HTK.out, hq]), HP, Ca, Cb, hb1⟩, by simp [numAt]; omega⟩
            | false =>
              have HF : Hid (res = false) := hid (by rw [HX.out]; cases qq : ps.all nmB with | false => rfl | true => rw [HAL.out qq] at hq; cases hq)
              go_wp2
              go_ret
              exact ⟨ret_bool HF.out.symm, hb1.out⟩
          have h4 : ¬ (k : Int) < (ps.length : Int) := by omega
          have ek : ps.take k = ps := List.take_of_length_le (by omega)
          rw [ek] at hall
          replace HX := hid (show res = (decide (ps.length = 1) || headA (t.name.take (hdN t.name)) (l.take j)) by rw [HX.out, hall.out]; rfl)
          clear hall ek
          have xa := Ca.out.cellF
          have za := Ca.out.lt
          have xb := Cb.out.cellF
          have zb := Cb.out.lt
          by_cases h1 : ps.length = 1
          case pos =>
            have k2 : ((ps.length : Int) == 1) = true := by rw [beq_iff_eq]; omega
            have HF : Hid (res = true) := hid (by rw [HX.out, decide_eq_true h1]; rfl)
            replace h1 := hid h1
            go_wp2
            go_ret
            exact ⟨ret_bool HF.out.symm, hb1.out⟩
          have k2 : ((ps.length : Int) == 1) = false := by rw [beq_eq_false_iff_ne]; omega
          replace HX := hid (show res = headA (t.name.take (hdN t.name)) (l.take j) by rw [HX.out, decide_eq_false h1]; rfl)
          obtain ⟨lp, hlp, hsum⟩ := HH.out (by omega)
          obtain ⟨b, o, rfl, hc⟩ := rowAt (g := cN) (fun _ => rfl) HP.out (i := ps.length - 1) (x := lp) hlp
          have c0 : wr.cell? ⟨b, o + (ps.length - 1), none⟩ = some (.string (strOfNums lp)) := by have := hc 0 _ rfl; simpa using this
          have hbl : b < wr.heap.size := World.block_lt_of_cell? _ _ c0
          obtain ⟨n, hn2⟩ : ∃ n, ps.length = n + 1 := ⟨ps.length - 1, by omega⟩
          rw [hn2, Nat.add_sub_cancel] at c0
          have HSL : (strOfNums lp).size = lp.length := strOfNums_size _
          have HS : Hid ((strOfNums t.name).extract 0 (hdN t.name) = strOfNums (t.name.take (hdN t.name))) := hid (by rw [str_cut]; rfl)
          have HHD : TxA (t.name.take (hdN t.name)) := ⟨fun c hc => HN.1 c (List.mem_of_mem_take hc), by have := HN.2; simp; omega⟩
          have hhd : hdN t.name < t.name.length := by omega
          generalize hdN t.name = hd at *
          have hs1 : (t.name.length : Int) - (lp.length : Int) - 1 = (hd : Int) := by omega
          have hs2 : (t.name.length : Int) - (lp.length : Int) = (hd : Int) + 1 := by omega
          have hn1 : 1 ≤ n := by omega
          have hhd' : (hd : Int) ≤ (t.name.length : Int) := by omega
          clear h1 hlp hc HH HPT HP hsum
          generalize ps.length = pl at *
          subst hn2
          have k4 : ((n : Int) + 1 == 1) = false := by rw [beq_eq_false_iff_ne]; omega
          have n1 : (n : Int) ≤ 4000000 := by omega
          have n2 : (n : Int) < (n : Int) + 1 := by omega
          clear hlen1 hlen2 hps k1 k2
          go_wp2
          go_region
          have Ca1 := hid (Ca.out.kept (show Below wr.heap.size wr wr.drew by exact blBy))
          have Cb1 := hid (Cb.out.kept (show Below wr.heap.size wr wr.drew by exact blBy))
          have hb2 : Hid (Below w.heap.size w wr.drew) := hid (by have := hb1.out; exact blBy)
          clear Ca Cb xa za xb zb hb1 c0 hbl
          generalize wr.drew = W2 at *
          go_wp2
          go_loopw [11] (fun r wr => ∃ k : Nat, r = .int .i64 k ∧ k ≤ j ∧ Hid (headA (t.name.take hd) (l.take j) = headA (t.name.take hd) ((l.take j).drop k)) ∧ Hid (Blk wr w.heap.size 24 #[.slice (some ⟨tb, tof, none⟩) l.length tc]) ∧ Hid (Blk wr (w.heap.size + 1) 50 #[.string (strOfNums t.name), .bool t.enum, .slice fa t.fs.length fc, .slice oa t.os.length oc, .slice sa t.ss.length sc, .slice ra t.rs.length rc]) ∧ Hid (Below w.heap.size w wr)) (fun r wr => j - numAt wr r)
          case atStart => exact ⟨0, rfl, by omega, hid rfl, Ca1, Cb1, hb2⟩
          case round =>
            clear Ca1 Cb1 hb2
            obtain ⟨k, rfl, hk2, hh, Ca, Cb, hb1⟩ := hrel
            have xa := Ca.out.cellF
            have za := Ca.out.lt
            have xb := Cb.out.cellF
            have zb := Cb.out.lt
            by_cases hlt : k < j
            · have h6 : (k : Int) < (j : Int) := by omega
              have h7 : (k : Int) < (l.length : Int) := by omega
              obtain ⟨b', o', e, hbl, c0, c1, -⟩ := row6 (HT.out.row.kept hb1.out) (show k < l.length by omega)
              cases e
              have hs := str_eq (HK.out _ (List.getElem_mem (show k < l.length by omega))).1 HHD.1
              rw [← HS.out] at hs
              have HST : Hid (headA (t.name.take hd) ((l.take j).drop k) = if nameP (t.name.take hd) l[k] = true then !l[k].t.enum else headA (t.name.take hd) ((l.take j).drop (k + 1))) := hid (by rw [List.drop_eq_getElem_cons (by simp; omega), headA, List.getElem_take])
              generalize l[k] = y at *
              by_cases hq : y.t.name = t.name.take hd
              · rw [decide_eq_true hq] at hs
                have HF : Hid (res = !y.t.enum) := hid (by rw [HX.out, hh.out, HST.out, if_pos (show nameP _ y = true from decide_eq_true hq)])
                replace hq := hid hq
                go_wp2
                go_ret
                exact ⟨ret_bool HF.out.symm, by have := hb1.out; exact blBy⟩
              · rw [decide_eq_false hq] at hs
                have HF : Hid (headA (t.name.take hd) (l.take j) = headA (t.name.take hd) ((l.take j).drop (k + 1))) := hid (by rw [hh.out, HST.out, if_neg (by rw [show nameP _ y = false from decide_eq_false hq]; simp)])
                replace hq := hid hq
                go_wp2
                exact ⟨⟨k + 1, by simp, by omega, HF, Ca, Cb, hb1⟩, by simp [numAt]; omega⟩
            · have h6 : ¬ (k : Int) < (j : Int) := by omega
              have HF : Hid (res = false) := hid (by rw [HX.out, hh.out, List.drop_of_length_le (by simp; omega)]; rfl)
              go_wp2
              go_ret
              exact ⟨ret_bool HF.out.symm, by have := hb1.out; exact blBy⟩
      | false =>
        replace HX := hid (show res = (decide (ps.length ≤ 8) && (ps.all nmB && (decide (ps.length = 1) || headA (t.name.take (hdN t.name)) (l.take j)))) by rw [HX.out, q0]; rfl)
        by_cases hbig : 8 < ps.length
        case pos =>
          have k1 : (8 : Int) < (ps.length : Int) := by omega
          have HF : Hid (res = false) := hid (by rw [HX.out, decide_eq_false (by omega)]; rfl)
          go_wp2
          go_ret
          exact ⟨ret_bool HF.out.symm, by have := hb1.out; exact blBy⟩
        have k1 : ¬ (8 : Int) < (ps.length : Int) := by omega
        replace HX := hid (show res = (ps.all nmB && (decide (ps.length = 1) || headA (t.name.take (hdN t.name)) (l.take j))) by rw [HX.out, decide_eq_true (by omega)]; rfl)
        go_wp2
        go_loopw [9] (fun r wr => ∃ k : Nat, r = .int .i64 k ∧ k ≤ ps.length ∧ Hid ((ps.take k).all nmB = true) ∧ Hid (RowS wr AnyZ 1 (.slice pa ps.length pc) ps.length (ps.flatMap cN)) ∧ Hid (Blk wr w.heap.size 24 #[.slice (some ⟨tb, tof, none⟩) l.length tc]) ∧ Hid (Blk wr (w.heap.size + 1) 50 #[.string (strOfNums t.name), .bool t.enum, .slice fa t.fs.length fc, .slice oa t.os.length oc, .slice sa t.ss.length sc, .slice ra t.rs.length rc]) ∧ Hid (Below w.heap.size w wr)) (fun r wr => ps.length - numAt wr r)
        case atStart => exact ⟨0, rfl, by omega, hid rfl, HP, Ca, Cb, hb1⟩
        case round =>
          clear Ca Cb xa za xb zb hb1 HP
          obtain ⟨k, rfl, hk, hall, HP, Ca, Cb, hb1⟩ := hrel
          by_cases hlt : k < ps.length
          · have h4 : (k : Int) < (ps.length : Int) := by omega
            obtain ⟨b, o, rfl, hc⟩ := rowAt (g := cN) (fun _ => rfl) HP.out (i := k) (x := ps[k]) (by simp [hlt])
            have c0 : wr.cell? ⟨b, o + k, none⟩ = some (.string (strOfNums ps[k])) := by have := hc 0 _ rfl; simpa using this
            have hbl : b < wr.heap.size := World.block_lt_of_cell? _ _ c0
            have HTY := HPT.out _ (List.getElem_mem hlt)
            have HTK : Hid ((ps.take (k + 1)).all nmB = nmB ps[k]) := hid (by rw [List.take_succ_eq_append_getElem hlt, List.all_append, hall.out]; simp)
            have HAL : Hid (ps.all nmB = true → nmB ps[k] = true) := hid (fun q => List.all_eq_true.1 q _ (List.getElem_mem hlt))
            generalize ps[k] = y at *
            go_wp2_with fail
            refine (isNameR y _ HTY.1 HTY.2).mono ?_
            rintro e w2 ⟨rfl, rfl⟩
            cases hq : nmB y with
            | true =>
              go_wp2
              exact ⟨⟨k + 1, by simp, by omega, hid (by rw [HTK.out, hq]), HP, Ca, Cb, hb1⟩, by simp [numAt]; omega⟩
            | false =>
              have HF : Hid (res = false) := hid (by rw [HX.out]; cases qq : ps.all nmB with | false => rfl | true => rw [HAL.out qq] at hq; cases hq)
              go_wp2
              go_ret
              exact ⟨ret_bool HF.out.symm, hb1.out⟩
          have h4 : ¬ (k : Int) < (ps.length : Int) := by omega
          have ek : ps.take k = ps := List.take_of_length_le (by omega)
          rw [ek] at hall
          replace HX := hid (show res = (decide (ps.length = 1) || headA (t.name.take (hdN t.name)) (l.take j)) by rw [HX.out, hall.out]; rfl)
          clear hall ek
          have xa := Ca.out.cellF
          have za := Ca.out.lt
          have xb := Cb.out.cellF
          have zb := Cb.out.lt
          by_cases h1 : ps.length = 1
          case pos =>
            have k2 : ((ps.length : Int) == 1) = true := by rw [beq_iff_eq]; omega
            have HF : Hid (res = true) := hid (by rw [HX.out, decide_eq_true h1]; rfl)
            replace h1 := hid h1
            go_wp2
            go_ret
            exact ⟨ret_bool HF.out.symm, hb1.out⟩
          have k2 : ((ps.length : Int) == 1) = false := by rw [beq_eq_false_iff_ne]; omega
          replace HX := hid (show res = headA (t.name.take (hdN t.name)) (l.take j) by rw [HX.out, decide_eq_false h1]; rfl)
          obtain ⟨lp, hlp, hsum⟩ := HH.out (by omega)
          obtain ⟨b, o, rfl, hc⟩ := rowAt (g := cN) (fun _ => rfl) HP.out (i := ps.length - 1) (x := lp) hlp
          have c0 : wr.cell? ⟨b, o + (ps.length - 1), none⟩ = some (.string (strOfNums lp)) := by have := hc 0 _ rfl; simpa using this
          have hbl : b < wr.heap.size := World.block_lt_of_cell? _ _ c0
          obtain ⟨n, hn2⟩ : ∃ n, ps.length = n + 1 := ⟨ps.length - 1, by omega⟩
          rw [hn2, Nat.add_sub_cancel] at c0
          have HSL : (strOfNums lp).size = lp.length := strOfNums_size _
          have HS : Hid ((strOfNums t.name).extract 0 (hdN t.name) = strOfNums (t.name.take (hdN t.name))) := hid (by rw [str_cut]; rfl)
          have HHD : TxA (t.name.take (hdN t.name)) := ⟨fun c hc => HN.1 c (List.mem_of_mem_take hc), by have := HN.2; simp; omega⟩
          have hhd : hdN t.name < t.name.length := by omega
          generalize hdN t.name = hd at *
          have hs1 : (t.name.length : Int) - (lp.length : Int) - 1 = (hd : Int) := by omega
          have hs2 : (t.name.length : Int) - (lp.length : Int) = (hd : Int) + 1 := by omega
          have hn1 : 1 ≤ n := by omega
          have hhd' : (hd : Int) ≤ (t.name.length : Int) := by omega
          clear h1 hlp hc HH HPT HP hsum
          generalize ps.length = pl at *
          subst hn2
          have k4 : ((n : Int) + 1 == 1) = false := by rw [beq_eq_false_iff_ne]; omega
          have n1 : (n : Int) ≤ 4000000 := by omega
          have n2 : (n : Int) < (n : Int) + 1 := by omega
          clear hlen1 hlen2 hps k1 k2
          go_wp2
          go_region
          have Ca1 := hid (Ca.out.kept (show Below wr.heap.size wr wr.drew by exact blBy))
          have Cb1 := hid (Cb.out.kept (show Below wr.heap.size wr wr.drew by exact blBy))
          have hb2 : Hid (Below w.heap.size w wr.drew) := hid (by have := hb1.out; exact blBy)
          clear Ca Cb xa za xb zb hb1 c0 hbl
          generalize wr.drew = W2 at *
          go_wp2
          go_loopw [11] (fun r wr => ∃ k : Nat, r = .int .i64 k ∧ k ≤ j ∧ Hid (headA (t.name.take hd) (l.take j) = headA (t.name.take hd) ((l.take j).drop k)) ∧ Hid (Blk wr w.heap.size 24 #[.slice (some ⟨tb, tof, none⟩) l.length tc]) ∧ Hid (Blk wr (w.heap.size + 1) 50 #[.string (strOfNums t.name), .bool t.enum, .slice fa t.fs.length fc, .slice oa t.os.length oc, .slice sa t.ss.length sc, .slice ra t.rs.length rc]) ∧ Hid (Below w.heap.size w wr)) (fun r wr => j - numAt wr r)
          case atStart => exact ⟨0, rfl, by omega, hid rfl, Ca1, Cb1, hb2⟩
          case round =>
            clear Ca1 Cb1 hb2
            obtain ⟨k, rfl, hk2, hh, Ca, Cb, hb1⟩ := hrel
            have xa := Ca.out.cellF
            have za := Ca.out.lt
            have xb := Cb.out.cellF
            have zb := Cb.out.lt
            by_cases hlt : k < j
            · have h6 : (k : Int) < (j : Int) := by omega
              have h7 : (k : Int) < (l.length : Int) := by omega
              obtain ⟨b', o', e, hbl, c0, c1, -⟩ := row6 (HT.out.row.kept hb1.out) (show k < l.length by omega)
              cases e
              have hs := str_eq (HK.out _ (List.getElem_mem (show k < l.length by omega))).1 HHD.1
              rw [← HS.out] at hs
              have HST : Hid (headA (t.name.take hd) ((l.take j).drop k) = if nameP (t.name.take hd) l[k] = true then !l[k].t.enum else headA (t.name.take hd) ((l.take j).drop (k + 1))) := hid (by rw [List.drop_eq_getElem_cons (by simp; omega), headA, List.getElem_take])
              generalize l[k] = y at *
              by_cases hq : y.t.name = t.name.take hd
              · rw [decide_eq_true hq] at hs
                have HF : Hid (res = !y.t.enum) := hid (by rw [HX.out, hh.out, HST.out, if_pos (show nameP _ y = true from decide_eq_true hq)])
                replace hq := hid hq
                go_wp2
                go_ret
                exact ⟨ret_bool HF.out.symm, by have := hb1.out; exact blBy⟩
              · rw [decide_eq_false hq] at hs
                have HF : Hid (headA (t.name.take hd) (l.take j) = headA (t.name.take hd) ((l.take j).drop (k + 1))) := hid (by rw [hh.out, HST.out, if_neg (by rw [show nameP _ y = false from decide_eq_false hq]; simp)])
                replace hq := hid hq
                go_wp2
                exact ⟨⟨k + 1, by simp, by omega, HF, Ca, Cb, hb1⟩, by simp [numAt]; omega⟩
            · have h6 : ¬ (k : Int) < (j : Int) := by omega
              have HF : Hid (res = false) := hid (by rw [HX.out, hh.out, List.drop_of_length_le (by simp; omega)]; rfl)
              go_wp2
              go_ret
              exact ⟨ret_bool HF.out.symm, by have := hb1.out; exact blBy⟩
end Go.Proofs.YtbopddnekoocoaaGreatDoor
