/-
  Lower.
  Steps and rows compared.
  Blocks that are the same: the document's question.
  What a valid program's steps are asked: where all is well.
  Rows of steps and of lines, held against one another by the library's Equal.
  Programs, held against one another: where they are the same.
-/
import Derived.Test.YtbopddnekoocoaaGreatDoorCTX
import Derived.Test.YtbopddnekoocoaaGreatDoorCTA
import Derived.Laws.StructEq
namespace Go.Proofs.YtbopddnekoocoaaGreatDoor
open Go.RowKit
set_option maxRecDepth 1000000
set_option linter.unusedVariables false
set_option linter.unusedSimpArgs false
set_option maxHeartbeats 1000000
/-- A block and the values of its three lists. -/
structure BV where
  k : BK
  d : Value
  e : Value
  r : Value
def cBV (x : BV) : List Value := [x.d, x.e, x.r]
structure LwO (w : World) (base : Nat) (v : Value) (xs : List BV) : Prop where
  row : w.ownsRow base 28 3 v xs.length (xs.flatMap cBV)
  el : ∀ x ∈ xs, BkO w base x.k x.d x.e x.r
theorem LwO.kept {w w' : World} {base : Nat} {v : Value} {xs : List BV} (h : LwO w base v xs) (g : Below w.heap.size w w') : LwO w' base v xs := ⟨own_kept h.row g, fun x hx => (h.el x hx).kept g⟩
def ProgA (w : World) (ks : List BK) (er : Int) (e : Ending) (w' : World) : Prop := ∃ a c xs, e = .returned (.tuple #[.agg #[.slice a xs.length c], .int .i64 er]) ∧ xs.map BV.k = ks ∧ LwO w' w.heap.size (.slice a xs.length c) xs ∧ Below w.heap.size w w'
def lowP (l : List TV) : List BK := if goodB l = true then l.map (fun x => loBK x.t) else []
def lowPE (l : List TV) : Int := if goodB l = true then 0 else 18
theorem Tryz.infoPB : (Tryz.prog.info? 28).map (fun i => (i.zero, i.size, i.bytes)) = some (some (.agg #[.slice none 0 0, .slice none 0 0, .slice none 0 0]), 3, 72) := by kernel_rfl
/-- One block more. -/
theorem LwO.push {w : World} {base : Nat} {v : Value} {xs : List BV} (h : LwO w base v xs) (hb : base ≤ w.heap.size) (hn : xs.length ≤ 4000000) (k : BK) (da ea ra : Option Addr) (n1 dc n2 ec n3 rc : Nat) (ho : BkO w base k (.slice da n1 dc) (.slice ea n2 ec) (.slice ra n3 rc)) :
    ∃ a c w', Hid ((Builtin.append_ #[32, 32] 32 #[v, .slice (some ⟨w.heap.size, 0, none⟩) 1 1]).run Tryz.prog (w.alloc (.cells #[.slice da n1 dc, .slice ea n2 ec, .slice ra n3 rc] 28)) = .ok (.slice a (xs.length + 1) c) w') ∧ Hid (LwO w' base (.slice a (xs.length + 1) c) (xs ++ [⟨k, .slice da n1 dc, .slice ea n2 ec, .slice ra n3 rc⟩])) ∧ Hid (Grow w w' v (.slice a (xs.length + 1) c)) := by
  obtain ⟨v', w', h1, h2, h3⟩ := append_st 28 32 3 72 (.agg #[.slice none 0 0, .slice none 0 0, .slice none 0 0]) Tryz.underlying32 Tryz.infoPB rfl (by decide) (by decide) base v xs.length (xs.flatMap cBV) w #[.slice da n1 dc, .slice ea n2 ec, .slice ra n3 rc] rfl (fun u hu => by simp at hu; rcases hu with rfl | rfl | rfl <;> rfl) h.row hb hn
  obtain ⟨a, c, rfl⟩ := own_shape h2
  have hk : ∀ {k : BK} {d e r : Value}, BkO w base k d e r → BkO w' base k d e r := fun q => ⟨grow_own h3 h.row q.hd (by decide), grow_own h3 h.row q.he (by decide), grow_own h3 h.row q.hr (by decide), q.ap⟩
  refine ⟨a, c, w', hid h1, hid ⟨by rw [List.flatMap_append, List.length_append]; exact h2, fun x hx => ?_⟩, hid h3⟩
  rcases List.mem_append.1 hx with hx | hx
  · exact hk (h.el x hx)
  · simp at hx
    subst hx
    exact hk ho
theorem own_othP {w : World} {base e size n q j : Nat} {v u : Value} {fl : List Value} (h : w.ownsRow base e size v n fl) {t : TypeId} {cs : Array Value} (hq : Blk w q t cs) (ht : t ≠ e) : (w.setCell ⟨q, j, none⟩ u).ownsRow base e size v n fl :=
  own_keep (f := (· ≠ q)) h (fun k hk e => by
    obtain ⟨_, _, cur, h3⟩ := own_type h hk
    rw [e, show w.heap[q]? = _ from hq] at h3
    cases h3
    exact ht rfl) (Keep.setCell _ _ _ (fun h => h rfl))
theorem lowerT (w : World) (l : List TV) (ta : Option Addr) (tc : Nat) (h : TbR w (.slice ta l.length tc) l) (hk : ∀ x ∈ l, OkV x) (m : Int) (hm : w.cell? ⟨0, 0, none⟩ = some (.int .i64 m)) : Calls Tryz.prog 7 #[.agg #[.slice ta l.length tc]] w (ProgA w (lowP l) (lowPE l)) := by
  obtain ⟨_, _, e, hn⟩ := rowS_sl h.row
  clear e
  have h63 : (l.length : Int) ≤ 9223372036854775807 := by omega
  have HGC : Hid (∀ W, Below w.heap.size w W → Calls Tryz.prog 17 #[.agg #[.slice ta l.length tc]] W fun e w' => e = .returned (.bool (goodB l)) ∧ Below W.heap.size W w') := hid fun W hW => goodT W l ta tc (h.kept hW) hk m (cell_below hm hW)
  cases hg : goodB l with
  | false =>
    have HX : Hid (lowP l = [] ∧ lowPE l = 18) := hid ⟨by unfold lowP; rw [hg]; rfl, by unfold lowPE; rw [hg]; rfl⟩
    rw [HX.out.1, HX.out.2]
    rw [hg] at HGC
    clear h hk hm
    go_enter Tryz.func7, Tryz.ntmps7
    go_wp2_with fail
    refine (HGC.out _ (by exact blBy)).mono ?_
    rintro e w1 ⟨rfl, hb1⟩
    have Br : Blk w1 (w.heap.size + 1) 34 #[.slice none 0 0] := (Blk.newAt (by simp)).kept hb1
    replace hb1 : Hid (Below w.heap.size w w1) := hid (bl_then (by exact blBy) hb1)
    have xr := Br.cellF
    have yr := Br.frz
    have zr := Br.lt
    go_wp2
    refine bodyPost_ret (v := .tuple #[.agg #[.slice none 0 0], .int .i64 18]) (by simp [results, Tryz.results7, go_sem, xr, zr, yr]) rfl ?_
    exact ⟨none, 0, [], rfl, rfl, ⟨World.ownsRow_nil _ _ _ _, by simp⟩, by have := hb1.out; exact blBy⟩
  | true =>
  have HX : Hid (lowP l = l.map (fun x => loBK x.t) ∧ lowPE l = 0) := hid ⟨by unfold lowP; rw [hg]; rfl, by unfold lowPE; rw [hg]; rfl⟩
  rw [HX.out.1, HX.out.2]
  rw [hg] at HGC
  have HL := goodP_len hg
  have HBO : Hid (∀ j (hj : j < l.length) W t fa oa sa ra fc oc sc rc, l[j].t = t → TyR W ⟨t, .slice fa t.fs.length fc, .slice oa t.os.length oc, .slice sa t.ss.length sc, .slice ra t.rs.length rc⟩ → Calls Tryz.prog 18 #[.agg #[.string (strOfNums t.name), .bool t.enum, .slice fa t.fs.length fc, .slice oa t.os.length oc, .slice sa t.ss.length sc, .slice ra t.rs.length rc]] W (BlkA W (loBK t))) := hid fun j hj W t fa oa sa ra fc oc sc rc et ht => blockOfT W l j hg hj t et fa oa sa ra fc oc sc rc ht
  have HT := hid h
  clear h hk hm
  go_enter Tryz.func7, Tryz.ntmps7
  go_wp2_with fail
  refine (HGC.out _ (by exact blBy)).mono ?_
  rintro e w1 ⟨rfl, hb1⟩
  have Ba : Blk w1 w.heap.size 24 #[.slice ta l.length tc] := ((Blk.new _ _ _).kept (below_alloc _)).kept hb1
  have Br : Blk w1 (w.heap.size + 1) 34 #[.slice none 0 0] := (Blk.newAt (by simp)).kept hb1
  replace hb1 : Hid (Below w.heap.size w w1) := hid (bl_then (by exact blBy) hb1)
  have xa := Ba.cellF
  have za := Ba.lt
  go_wp2_with fail
  have HBW : Hid (Below w.heap.size w (w1.alloc (.cells #[.slice none 0 0] 34))) := hid (by have := hb1.out; exact blBy)
  have HBP : Hid (Blk (w1.alloc (.cells #[.slice none 0 0] 34)) w1.heap.size 34 #[.slice none 0 0]) := hid (Blk.new _ _ _)
  have HBR : Hid (Blk (w1.alloc (.cells #[.slice none 0 0] 34)) (w.heap.size + 1) 34 #[.slice none 0 0]) := hid (Br.kept (below_alloc _))
  have hqq : w.heap.size + 1 < w1.heap.size := Br.lt
  clear xa za Ba Br
  generalize w1.alloc (.cells #[.slice none 0 0] 34) = V at *
  generalize w1.heap.size = q at *
  go_loopw [14] (fun r wr => ∃ (j : Nat) (a : Option Addr) (c : Nat) (xs : List BV), r = .int .i64 j ∧ j ≤ l.length ∧ Hid (xs.length = j) ∧ Hid (xs.map BV.k = (l.take j).map (fun x => loBK x.t)) ∧ Hid (LwO wr (w.heap.size + 2) (.slice a j c) xs) ∧ Hid (Blk wr q 34 #[.slice a j c]) ∧ Hid (Blk wr (w.heap.size + 1) 34 #[.slice none 0 0]) ∧ Hid (Below w.heap.size w wr)) (fun r wr => l.length - numAt wr r)
  case atStart => exact ⟨0, none, 0, [], rfl, by omega, hid rfl, hid rfl, hid ⟨World.ownsRow_nil _ _ _ _, by simp⟩, HBP, HBR, HBW⟩
  case round =>
    clear HBP HBR HBW
    obtain ⟨j, a, c, xs, rfl, hj, hxl, hmap, HLW, HBP, HBR, hb⟩ := hrel
    by_cases hlt : j < l.length
    · have h3 : (j : Int) < (l.length : Int) := by omega
      have HTY := hid (HT.out.ty _ (List.getElem_mem hlt))
      have HBJ := hid (HBO.out j hlt)
      have HTK : Hid ((l.take (j + 1)).map (fun x => loBK x.t) = (l.take j).map (fun x => loBK x.t) ++ [loBK l[j].t]) := hid (by rw [List.take_succ_eq_append_getElem hlt, List.map_append]; rfl)
      obtain ⟨tb, tof, etb, hbl, c0, c1, c2, c3, c4, c5⟩ := row6 (HT.out.row.kept hb.out) hlt
      subst etb
      generalize l[j] = x at *
      obtain ⟨t, f, o, s, r⟩ := x
      obtain ⟨fa, fc, ef, -⟩ := rowS_sl HTY.out.f
      obtain ⟨oa, oc, eo, -⟩ := rowS_sl HTY.out.o
      obtain ⟨sa, sc, es, -⟩ := rowS_sl HTY.out.s
      obtain ⟨ra, rc, er, -⟩ := rowS_sl HTY.out.r
      dsimp only at ef eo es er
      subst ef eo es er
      dsimp only at c0 c1 c2 c3 c4 c5 HBJ HTK
      have HBX : Hid (Blk (wr.alloc (.cells #[.string (strOfNums t.name), .bool t.enum, .slice fa t.fs.length fc, .slice oa t.os.length oc, .slice sa t.ss.length sc, .slice ra t.rs.length rc] 50)) wr.heap.size 50 #[.string (strOfNums t.name), .bool t.enum, .slice fa t.fs.length fc, .slice oa t.os.length oc, .slice sa t.ss.length sc, .slice ra t.rs.length rc]) := hid (Blk.new _ _ _)
      have HP1 : Hid (Blk (wr.alloc (.cells #[.string (strOfNums t.name), .bool t.enum, .slice fa t.fs.length fc, .slice oa t.os.length oc, .slice sa t.ss.length sc, .slice ra t.rs.length rc] 50)) q 34 #[.slice a j c]) := hid (HBP.out.kept (below_alloc _))
      have HR1 : Hid (Blk (wr.alloc (.cells #[.string (strOfNums t.name), .bool t.enum, .slice fa t.fs.length fc, .slice oa t.os.length oc, .slice sa t.ss.length sc, .slice ra t.rs.length rc] 50)) (w.heap.size + 1) 34 #[.slice none 0 0]) := hid (HBR.out.kept (below_alloc _))
      have HB1 : Hid (Below w.heap.size w (wr.alloc (.cells #[.string (strOfNums t.name), .bool t.enum, .slice fa t.fs.length fc, .slice oa t.os.length oc, .slice sa t.ss.length sc, .slice ra t.rs.length rc] 50))) := hid (bl_alloc hb.out _)
      have HL1 : Hid (LwO (wr.alloc (.cells #[.string (strOfNums t.name), .bool t.enum, .slice fa t.fs.length fc, .slice oa t.os.length oc, .slice sa t.ss.length sc, .slice ra t.rs.length rc] 50)) (w.heap.size + 2) (.slice a j c) xs) := hid (HLW.out.kept (below_alloc _))
      go_upto_region 7 with fail
      clear c0 c1 c2 c3 c4 c5 HBP HBR hb HLW
      generalize wr.alloc (.cells #[.string (strOfNums t.name), .bool t.enum, .slice fa t.fs.length fc, .slice oa t.os.length oc, .slice sa t.ss.length sc, .slice ra t.rs.length rc] 50) = U at *
      generalize wr.heap.size = qx at *
      have HAP : Hid (∀ W, Below U.heap.size U W → ∀ da dc ea ec ra' rc', BkO W U.heap.size (loBK t) (.slice da (loBK t).dec.length dc) (.slice ea (loBK t).enc.length ec) (.slice ra' (loBK t).rows.length rc') → ∃ a2 c2 w', Hid ((Builtin.append_ #[32, 32] 32 #[.slice a j c, .slice (some ⟨W.heap.size, 0, none⟩) 1 1]).run Tryz.prog (W.alloc (.cells #[.slice da (loBK t).dec.length dc, .slice ea (loBK t).enc.length ec, .slice ra' (loBK t).rows.length rc'] 28)) = .ok (.slice a2 (j + 1) c2) w') ∧ Hid (Blk w' q 34 #[.slice a j c]) ∧ Hid (∃ xs', xs'.length = j + 1 ∧ xs'.map BV.k = (l.take (j + 1)).map (fun x => loBK x.t) ∧ LwO (w'.setCell ⟨q, 0, none⟩ (.slice a2 (j + 1) c2)) (w.heap.size + 2) (.slice a2 (j + 1) c2) xs' ∧ Blk (w'.setCell ⟨q, 0, none⟩ (.slice a2 (j + 1) c2)) q 34 #[.slice a2 (j + 1) c2] ∧ Blk (w'.setCell ⟨q, 0, none⟩ (.slice a2 (j + 1) c2)) (w.heap.size + 1) 34 #[.slice none 0 0] ∧ Below w.heap.size w (w'.setCell ⟨q, 0, none⟩ (.slice a2 (j + 1) c2)))) := hid fun W hW da dc ea ec ra' rc' ho => by
        have hUs : w.heap.size + 2 ≤ U.heap.size := by have := HP1.out.lt; omega
        have hlw := HL1.out.kept hW
        obtain ⟨a2, c2, w', r1, r2, r3⟩ := hlw.push (by have := hW.size; omega) (by have := hxl.out; omega) (loBK t) da ea ra' (loBK t).dec.length dc (loBK t).enc.length ec (loBK t).rows.length rc' (ho.mono hUs)
        rw [hxl.out] at r1 r2 r3
        have hrow : W.ownsRow (w.heap.size + 2) 28 3 (.slice a j c) xs.length (xs.flatMap cBV) := hlw.row
        have b1 := grow_blk r3.out hrow (HP1.out.kept hW) (by decide)
        have b2 := grow_blk r3.out hrow (HR1.out.kept hW) (by decide)
        have ne1 : q ≠ w.heap.size + 1 := by omega
        have hkk : ∀ {k : BK} {d e r : Value}, BkO w' (w.heap.size + 2) k d e r → BkO (w'.setCell ⟨q, 0, none⟩ (.slice a2 (j + 1) c2)) (w.heap.size + 2) k d e r := fun z => ⟨own_othP z.hd b1 (by decide), own_othP z.he b1 (by decide), own_othP z.hr b1 (by decide), z.ap⟩
        refine ⟨a2, c2, w', r1, hid b1, hid ⟨_, ?_, ?_, ⟨own_othP r2.out.row b1 (by decide), fun x hx => hkk (r2.out.el x hx)⟩, (b1.set 0 _).is (by simp), b2.other (a := ⟨q, 0, none⟩) (fun e => ne1 e.symm) _, ?_⟩⟩
        · simp [hxl.out]
        · rw [HTK.out, List.map_append, hmap.out]; rfl
        · refine Below.setCell ((HB1.out.trans (hW.mono (by omega))).trans (r3.out.below (by have := hW.size; omega) (fun k hk => ?_))) (by show w.heap.size ≤ q; omega) _
          have := (own_type hrow hk).1
          omega
      have xb := HBX.out.cellF
      have zb := HBX.out.lt
      have xp := HP1.out.cellF
      have yp := HP1.out.frz
      have zp := HP1.out.lt
      go_region_law (first | (refine step_append_ran rfl _ _ 32 32 rfl rfl _ _ _ _ rfl rfl HRUN.out ?_) | (go_simp; go_wp2_with (go_at_call 18; refine (HBJ.out _ t fa oa sa ra fc oc sc rc rfl (HTY.out.kept (by have := HB1.out; first | exact this | exact bl_drew this))).mono ?_; rintro e u1 ⟨da, dc, ea, ec, ra', rc', rfl, ho, hbx⟩; have HU1 : Hid (Below U.heap.size U u1) := hid (bl_then (below_drew1 _) hbx); obtain ⟨a3, c3, w3, HRUN, HB3, HE⟩ := HAP.out u1 HU1.out da dc ea ec ra' rc' ho; have xp1 := (HP1.out.kept HU1.out).cellF; have zp1 := (HP1.out.kept HU1.out).lt; have xp3 := HB3.out.cellF; have yp3 := HB3.out.frz; have zp3 := HB3.out.lt)))
      all_goals
        obtain ⟨xs', g1, g2, g3, g4, g5, g6⟩ := HE.out
        replace g3 := hid g3
        replace g4 := hid g4
        replace g5 := hid g5
        replace g6 := hid g6
        go_wp2
        exact ⟨⟨j + 1, a3, c3, xs', by simp, by omega, hid g1, hid g2, g3, g4, g5, g6⟩, by simp [numAt]; omega⟩
    · have h3 : ¬ (j : Int) < (l.length : Int) := by omega
      have ej : l.take j = l := List.take_of_length_le (by omega)
      rw [ej] at hmap
      have xr := HBR.out.cellF
      have yr := HBR.out.frz
      have zr := HBR.out.lt
      have xp := HBP.out.cellF
      have zp := HBP.out.lt
      go_wp2
      refine bodyPost_ret (v := .tuple #[.agg #[.slice a j c], .int .i64 0]) (by simp [results, Tryz.results7, go_sem, xr, zr, yr]) rfl ?_
      have hx := hxl.out
      subst hx
      have hk2 : ∀ {k : BK} {d e r : Value}, BkO wr (w.heap.size + 2) k d e r → BkO (wr.setCell ⟨w.heap.size + 1, 0, none⟩ (.slice a xs.length c)) w.heap.size k d e r := fun z => BkO.mono ⟨own_othP z.hd HBR.out (by decide), own_othP z.he HBR.out (by decide), own_othP z.hr HBR.out (by decide), z.ap⟩ (by omega)
      exact ⟨a, c, xs, rfl, hmap.out, ⟨own_mono (own_othP HLW.out.row HBR.out (by decide)) (by omega), fun x hx => hk2 (HLW.out.el x hx)⟩, Below.setCell hb.out (by show w.heap.size ≤ w.heap.size + 1; omega) _⟩
def inB (x y : IN) : Bool := (x.op == y.op) && ((x.a == y.a) && ((x.b == y.b) && ((x.c == y.c) && (x.d == y.d))))
def lnB (x y : LN) : Bool := (x.tag == y.tag) && (x.pl == y.pl)
theorem inB_iff (x y : IN) : inB x y = true ↔ x = y := by
  cases x
  cases y
  simp [inB]
theorem lnB_iff (x y : LN) : lnB x y = true ↔ x = y := by
  cases x
  cases y
  simp [lnB]
theorem eqIN (x y : IN) (w : World) : (Op.equalIn 10000 59 (.agg #[.int .i64 x.op, .int .i64 x.a, .int .i64 x.b, .int .i64 x.c, .int .i64 x.d]) (.agg #[.int .i64 y.op, .int .i64 y.a, .int .i64 y.b, .int .i64 y.c, .int .i64 y.d])).run Tryz.prog w = .ok (inB x y) w := by
  have u3 := Tryz.underlying3
  have a3 := Tryz.isAgg3
  have z3 := Tryz.sizeOf3
  have hS : Tryz.prog.underlying 59 = some (.struct (Tryz.prog.fieldsOf 59)) := by kernel_rfl
  have hp : Tryz.prog.stoodInHeld 59 = false := by kernel_rfl
  unfold inB
  rw [show (10000 : Nat) = 9999 + 1 from rfl, run_equalIn_agg w 9999 59 _ _ hS hp]
  simp only [Program.fieldsOf, Tryz.underlying59]
  go_simp
  by_cases h1 : x.op = y.op <;> by_cases h2 : x.a = y.a <;> by_cases h3 : x.b = y.b <;> by_cases h4 : x.c = y.c <;> by_cases h5 : x.d = y.d <;> simp [h1, h2, h3, h4, h5]
theorem eqLN (x y : LN) (w : World) : (Op.equalIn 10000 61 (.agg #[.int .i64 x.tag, .int .i64 x.pl]) (.agg #[.int .i64 y.tag, .int .i64 y.pl])).run Tryz.prog w = .ok (lnB x y) w := by
  have u3 := Tryz.underlying3
  have a3 := Tryz.isAgg3
  have z3 := Tryz.sizeOf3
  have hS : Tryz.prog.underlying 61 = some (.struct (Tryz.prog.fieldsOf 61)) := by kernel_rfl
  have hp : Tryz.prog.stoodInHeld 61 = false := by kernel_rfl
  unfold lnB
  rw [show (10000 : Nat) = 9999 + 1 from rfl, run_equalIn_agg w 9999 61 _ _ hS hp]
  simp only [Program.fieldsOf, Tryz.underlying61]
  go_simp
  by_cases h1 : x.tag = y.tag <;> by_cases h2 : x.pl = y.pl <;> simp [h1, h2]
theorem gdIN : Tryz.prog.eqGuardType Tryz.prog.depth 59 = false := by kernel_rfl
theorem gdLN : Tryz.prog.eqGuardType Tryz.prog.depth 61 = false := by kernel_rfl
/-- A block, in memory. -/
structure BkR (w : World) (k : BK) (d e r : Value) : Prop where
  hd : RowS w AnyZ 5 d k.dec.length (k.dec.flatMap cIN)
  he : RowS w AnyZ 5 e k.enc.length (k.enc.flatMap cIN)
  hr : RowS w AnyZ 2 r k.rows.length (k.rows.flatMap cLN)
theorem BkR.kept {w w' : World} {k : BK} {d e r : Value} (h : BkR w k d e r) (g : Below w.heap.size w w') : BkR w' k d e r := ⟨h.hd.kept g, h.he.kept g, h.hr.kept g⟩
theorem BkO.row {w : World} {base : Nat} {k : BK} {d e r : Value} (h : BkO w base k d e r) : BkR w k d e r := ⟨own_row h.hd (fun _ _ => trivial), own_row h.he (fun _ _ => trivial), own_row h.hr (fun _ _ => trivial)⟩
/-- A bool that says P. -/
def EqA (w : World) (P : Prop) (e : Ending) (w' : World) : Prop := ∃ r : Bool, e = .returned (.bool r) ∧ (r = true ↔ P) ∧ Below w.heap.size w w'
theorem EqA.yes {w w' : World} {P : Prop} (h : P) (hb : Below w.heap.size w w') : EqA w P (.returned (.bool true)) w' := ⟨true, rfl, ⟨fun _ => h, fun _ => rfl⟩, hb⟩
theorem EqA.no {w w' : World} {P : Prop} (h : ¬ P) (hb : Below w.heap.size w w') : EqA w P (.returned (.bool false)) w' := ⟨false, rfl, ⟨fun q => (by cases q), fun q => absurd q h⟩, hb⟩
theorem bk_eq {A B : BK} (h1 : A.dec = B.dec) (h2 : A.enc = B.enc) (h3 : A.rows = B.rows) : A = B := by
  cases A
  cases B
  simp only [BK.mk.injEq]
  exact ⟨h1, h2, h3⟩
theorem sameBlockD (w : World) (A B : BK) (aa ba ca da ea fa : Option Addr) (ac bc cc dc ec fc : Nat) (hA : BkR w A (.slice aa A.dec.length ac) (.slice ba A.enc.length bc) (.slice ca A.rows.length cc)) (hB : BkR w B (.slice da B.dec.length dc) (.slice ea B.enc.length ec) (.slice fa B.rows.length fc)) : Calls Tryz.prog 10 #[.agg #[.slice aa A.dec.length ac, .slice ba A.enc.length bc, .slice ca A.rows.length cc], .agg #[.slice da B.dec.length dc, .slice ea B.enc.length ec, .slice fa B.rows.length fc]] w (EqA w (A = B)) := by
  have HA := hid hA
  have HB := hid hB
  obtain ⟨_, _, e, hn1⟩ := rowS_sl hA.hd
  clear e
  obtain ⟨_, _, e, hn2⟩ := rowS_sl hA.he
  clear e
  obtain ⟨_, _, e, hn3⟩ := rowS_sl hA.hr
  clear e
  obtain ⟨_, _, e, hm1⟩ := rowS_sl hB.hd
  clear e
  obtain ⟨_, _, e, hm2⟩ := rowS_sl hB.he
  clear e
  obtain ⟨_, _, e, hm3⟩ := rowS_sl hB.hr
  clear e
  clear hA hB
  by_cases h1 : A.dec.length = B.dec.length
  case neg =>
    have q1 : ((A.dec.length : Int) == (B.dec.length : Int)) = false := by rw [beq_eq_false_iff_ne]; omega
    go_enter Tryz.func10, Tryz.ntmps10
    go_wp2
    go_ret
    exact ⟨false, rfl, ⟨fun q => (by cases q), fun q => absurd (by rw [q]) h1⟩, by exact blBy⟩
  by_cases h2 : A.enc.length = B.enc.length
  case neg =>
    have q1 : ((A.dec.length : Int) == (B.dec.length : Int)) = true := by simp [h1]
    have q2 : ((A.enc.length : Int) == (B.enc.length : Int)) = false := by rw [beq_eq_false_iff_ne]; omega
    go_enter Tryz.func10, Tryz.ntmps10
    go_wp2
    go_ret
    exact ⟨false, rfl, ⟨fun q => (by cases q), fun q => absurd (by rw [q]) h2⟩, by exact blBy⟩
  by_cases h3 : A.rows.length = B.rows.length
  case neg =>
    have q1 : ((A.dec.length : Int) == (B.dec.length : Int)) = true := by simp [h1]
    have q2 : ((A.enc.length : Int) == (B.enc.length : Int)) = true := by simp [h2]
    have q3 : ((A.rows.length : Int) == (B.rows.length : Int)) = false := by rw [beq_eq_false_iff_ne]; omega
    go_enter Tryz.func10, Tryz.ntmps10
    go_wp2
    go_ret
    exact ⟨false, rfl, ⟨fun q => (by cases q), fun q => absurd (by rw [q]) h3⟩, by exact blBy⟩
  rw [← h1, ← h2, ← h3] at HB ⊢
  have z1 : (A.dec.length : Int) ≤ 9223372036854775807 := by omega
  have z2 : (A.enc.length : Int) ≤ 9223372036854775807 := by omega
  have z3 : (A.rows.length : Int) ≤ 9223372036854775807 := by omega
  clear hn1 hn2 hn3 hm1 hm2 hm3
  replace h1 := hid h1
  replace h2 := hid h2
  replace h3 := hid h3
  go_enter Tryz.func10, Tryz.ntmps10
  go_wp2
  go_loopw [5] (fun r wr => ∃ j : Nat, r = .int .i64 j ∧ j ≤ A.dec.length ∧ Hid (A.dec.take j = B.dec.take j) ∧ Hid (Blk wr w.heap.size 28 #[.slice aa A.dec.length ac, .slice ba A.enc.length bc, .slice ca A.rows.length cc]) ∧ Hid (Blk wr (w.heap.size + 1) 28 #[.slice da A.dec.length dc, .slice ea A.enc.length ec, .slice fa A.rows.length fc]) ∧ Hid (Below w.heap.size w wr)) (fun r wr => A.dec.length - numAt wr r)
  case atStart => exact ⟨0, rfl, by omega, hid (by simp), hid ((Blk.new _ _ _).kept (below_alloc _)), hid (Blk.newAt (by simp)), hid (by exact blBy)⟩
  case round =>
    obtain ⟨j, rfl, hj, HT, Ba, Bb, hb⟩ := hrel
    have xa := Ba.out.cellF
    have za := Ba.out.lt
    have xb := Bb.out.cellF
    have zb := Bb.out.lt
    by_cases hlt : j < A.dec.length
    · have k1 : (j : Int) < (A.dec.length : Int) := by omega
      have hlt2 : j < B.dec.length := by have := h1.out; omega
      have HTS : Hid (A.dec.take (j + 1) = A.dec.take j ++ [A.dec[j]] ∧ B.dec.take (j + 1) = B.dec.take j ++ [B.dec[j]]) := hid ⟨List.take_succ_eq_append_getElem hlt, List.take_succ_eq_append_getElem hlt2⟩
      have HNE : Hid (A.dec[j] ≠ B.dec[j] → A ≠ B) := hid (fun q e => q (by subst e; rfl))
      obtain ⟨pb, po, epb, hc⟩ := rowAt (g := cIN) (fun _ => rfl) (HA.out.hd.kept hb.out) (i := j) (x := A.dec[j]) (by simp [hlt])
      obtain ⟨qb, qo, eqb, hd⟩ := rowAt (g := cIN) (fun _ => rfl) (HB.out.hd.kept hb.out) (i := j) (x := B.dec[j]) (by simp [hlt2])
      subst epb eqb
      have c0 := hc 0 _ rfl
      have d0 := hd 0 _ rfl
      have c1 := hc 1 _ rfl
      have d1 := hd 1 _ rfl
      have c2 := hc 2 _ rfl
      have d2 := hd 2 _ rfl
      have c3 := hc 3 _ rfl
      have d3 := hd 3 _ rfl
      have c4 := hc 4 _ rfl
      have d4 := hd 4 _ rfl
      clear hc hd
      simp only [Nat.add_zero] at c0 d0
      have hpb : pb < wr.heap.size := World.block_lt_of_cell? _ _ c0
      have hqb : qb < wr.heap.size := World.block_lt_of_cell? _ _ d0
      generalize A.dec[j] = x at *
      generalize B.dec[j] = y at *
      have hgd := gdIN
      have heq := fun W => eqIN x y W
      cases hq : inB x y with
      | false =>
        rw [hq] at heq
        go_wp2
        go_quiet (fail)
        go_wp2
        go_ret
        exact EqA.no (HNE.out (fun e => by rw [(inB_iff x y).2 e] at hq; cases hq)) (by have := hb.out; first | exact this | exact bl_drewN this _ | exact blBy)
      | true =>
        rw [hq] at heq
        have exy := hid ((inB_iff x y).1 hq)
        go_wp2
        go_quiet (fail)
        go_wp2
        exact ⟨⟨j + 1, by simp, by omega, hid (by rw [HTS.out.1, HTS.out.2, HT.out, exy.out]), hid (Ba.out.kept (below_drewN _ _)), hid (Bb.out.kept (below_drewN _ _)), hid (bl_drewN hb.out _)⟩, by simp [numAt]; omega⟩
    · have k1 : ¬ (j : Int) < (A.dec.length : Int) := by omega
      have Edec : Hid (A.dec = B.dec) := hid (by have := HT.out; rwa [List.take_of_length_le (by omega), List.take_of_length_le (by have := h1.out; omega)] at this)
      go_wp2
      clear hj HT xa za xb zb k1
      go_loopw [6] (fun r wr => ∃ j : Nat, r = .int .i64 j ∧ j ≤ A.enc.length ∧ Hid (A.enc.take j = B.enc.take j) ∧ Hid (Blk wr w.heap.size 28 #[.slice aa A.dec.length ac, .slice ba A.enc.length bc, .slice ca A.rows.length cc]) ∧ Hid (Blk wr (w.heap.size + 1) 28 #[.slice da A.dec.length dc, .slice ea A.enc.length ec, .slice fa A.rows.length fc]) ∧ Hid (Below w.heap.size w wr)) (fun r wr => A.enc.length - numAt wr r)
      case atStart => exact ⟨0, rfl, by omega, hid (by simp), Ba, Bb, hb⟩
      case round =>
        obtain ⟨j, rfl, hj, HT, Ba, Bb, hb⟩ := hrel
        have xa := Ba.out.cellF
        have za := Ba.out.lt
        have xb := Bb.out.cellF
        have zb := Bb.out.lt
        by_cases hlt : j < A.enc.length
        · have k1 : (j : Int) < (A.enc.length : Int) := by omega
          have hlt2 : j < B.enc.length := by have := h2.out; omega
          have HTS : Hid (A.enc.take (j + 1) = A.enc.take j ++ [A.enc[j]] ∧ B.enc.take (j + 1) = B.enc.take j ++ [B.enc[j]]) := hid ⟨List.take_succ_eq_append_getElem hlt, List.take_succ_eq_append_getElem hlt2⟩
          have HNE : Hid (A.enc[j] ≠ B.enc[j] → A ≠ B) := hid (fun q e => q (by subst e; rfl))
          obtain ⟨pb, po, epb, hc⟩ := rowAt (g := cIN) (fun _ => rfl) (HA.out.he.kept hb.out) (i := j) (x := A.enc[j]) (by simp [hlt])
          obtain ⟨qb, qo, eqb, hd⟩ := rowAt (g := cIN) (fun _ => rfl) (HB.out.he.kept hb.out) (i := j) (x := B.enc[j]) (by simp [hlt2])
          subst epb eqb
          have c0 := hc 0 _ rfl
          have d0 := hd 0 _ rfl
          have c1 := hc 1 _ rfl
          have d1 := hd 1 _ rfl
          have c2 := hc 2 _ rfl
          have d2 := hd 2 _ rfl
          have c3 := hc 3 _ rfl
          have d3 := hd 3 _ rfl
          have c4 := hc 4 _ rfl
          have d4 := hd 4 _ rfl
          clear hc hd
          simp only [Nat.add_zero] at c0 d0
          have hpb : pb < wr.heap.size := World.block_lt_of_cell? _ _ c0
          have hqb : qb < wr.heap.size := World.block_lt_of_cell? _ _ d0
          generalize A.enc[j] = x at *
          generalize B.enc[j] = y at *
          have hgd := gdIN
          have heq := fun W => eqIN x y W
          cases hq : inB x y with
          | false =>
            rw [hq] at heq
            go_wp2
            go_quiet (fail)
            go_wp2
            go_ret
            exact EqA.no (HNE.out (fun e => by rw [(inB_iff x y).2 e] at hq; cases hq)) (by have := hb.out; first | exact this | exact bl_drewN this _ | exact blBy)
          | true =>
            rw [hq] at heq
            have exy := hid ((inB_iff x y).1 hq)
            go_wp2
            go_quiet (fail)
            go_wp2
            exact ⟨⟨j + 1, by simp, by omega, hid (by rw [HTS.out.1, HTS.out.2, HT.out, exy.out]), hid (Ba.out.kept (below_drewN _ _)), hid (Bb.out.kept (below_drewN _ _)), hid (bl_drewN hb.out _)⟩, by simp [numAt]; omega⟩
        · have k1 : ¬ (j : Int) < (A.enc.length : Int) := by omega
          have Eenc : Hid (A.enc = B.enc) := hid (by have := HT.out; rwa [List.take_of_length_le (by omega), List.take_of_length_le (by have := h2.out; omega)] at this)
          go_wp2
          clear hj HT xa za xb zb k1
          go_loopw [7] (fun r wr => ∃ j : Nat, r = .int .i64 j ∧ j ≤ A.rows.length ∧ Hid (A.rows.take j = B.rows.take j) ∧ Hid (Blk wr w.heap.size 28 #[.slice aa A.dec.length ac, .slice ba A.enc.length bc, .slice ca A.rows.length cc]) ∧ Hid (Blk wr (w.heap.size + 1) 28 #[.slice da A.dec.length dc, .slice ea A.enc.length ec, .slice fa A.rows.length fc]) ∧ Hid (Below w.heap.size w wr)) (fun r wr => A.rows.length - numAt wr r)
          case atStart => exact ⟨0, rfl, by omega, hid (by simp), Ba, Bb, hb⟩
          case round =>
            obtain ⟨j, rfl, hj, HT, Ba, Bb, hb⟩ := hrel
            have xa := Ba.out.cellF
            have za := Ba.out.lt
            have xb := Bb.out.cellF
            have zb := Bb.out.lt
            by_cases hlt : j < A.rows.length
            · have k1 : (j : Int) < (A.rows.length : Int) := by omega
              have hlt2 : j < B.rows.length := by have := h3.out; omega
              have HTS : Hid (A.rows.take (j + 1) = A.rows.take j ++ [A.rows[j]] ∧ B.rows.take (j + 1) = B.rows.take j ++ [B.rows[j]]) := hid ⟨List.take_succ_eq_append_getElem hlt, List.take_succ_eq_append_getElem hlt2⟩
              have HNE : Hid (A.rows[j] ≠ B.rows[j] → A ≠ B) := hid (fun q e => q (by subst e; rfl))
              obtain ⟨pb, po, epb, hc⟩ := rowAt (g := cLN) (fun _ => rfl) (HA.out.hr.kept hb.out) (i := j) (x := A.rows[j]) (by simp [hlt])
              obtain ⟨qb, qo, eqb, hd⟩ := rowAt (g := cLN) (fun _ => rfl) (HB.out.hr.kept hb.out) (i := j) (x := B.rows[j]) (by simp [hlt2])
              subst epb eqb
              have c0 := hc 0 _ rfl
              have d0 := hd 0 _ rfl
              have c1 := hc 1 _ rfl
              have d1 := hd 1 _ rfl
              clear hc hd
              simp only [Nat.add_zero] at c0 d0
              have hpb : pb < wr.heap.size := World.block_lt_of_cell? _ _ c0
              have hqb : qb < wr.heap.size := World.block_lt_of_cell? _ _ d0
              generalize A.rows[j] = x at *
              generalize B.rows[j] = y at *
              have hgd := gdLN
              have heq := fun W => eqLN x y W
              cases hq : lnB x y with
              | false =>
                rw [hq] at heq
                go_wp2
                go_quiet (fail)
                go_wp2
                go_ret
                exact EqA.no (HNE.out (fun e => by rw [(lnB_iff x y).2 e] at hq; cases hq)) (by have := hb.out; first | exact this | exact bl_drewN this _ | exact blBy)
              | true =>
                rw [hq] at heq
                have exy := hid ((lnB_iff x y).1 hq)
                go_wp2
                go_quiet (fail)
                go_wp2
                exact ⟨⟨j + 1, by simp, by omega, hid (by rw [HTS.out.1, HTS.out.2, HT.out, exy.out]), hid (Ba.out.kept (below_drewN _ _)), hid (Bb.out.kept (below_drewN _ _)), hid (bl_drewN hb.out _)⟩, by simp [numAt]; omega⟩
            · have k1 : ¬ (j : Int) < (A.rows.length : Int) := by omega
              have Erows : Hid (A.rows = B.rows) := hid (by have := HT.out; rwa [List.take_of_length_le (by omega), List.take_of_length_le (by have := h3.out; omega)] at this)
              go_wp2
              go_ret
              exact EqA.yes (bk_eq Edec.out Eenc.out Erows.out) hb.out
/-- A program, in memory. -/
structure PgR (w : World) (v : Value) (bs : List BV) : Prop where
  row : RowS w AnyZ 3 v bs.length (bs.flatMap cBV)
  el : ∀ x ∈ bs, BkR w x.k x.d x.e x.r
theorem PgR.kept {w w' : World} {v : Value} {bs : List BV} (h : PgR w v bs) (g : Below w.heap.size w w') : PgR w' v bs := ⟨h.row.kept g, fun x hx => (h.el x hx).kept g⟩
theorem LwO.prog {w : World} {base : Nat} {v : Value} {xs : List BV} (h : LwO w base v xs) : PgR w v xs := ⟨own_row h.row (fun _ _ => trivial), fun x hx => (h.el x hx).row⟩
theorem isSingleT (w : World) (k : Int) (h : 1 ≤ k ∧ k ≤ 16) : Calls Tryz.prog 124 #[.int .i64 k] w fun e w' => e = .returned (.bool true) ∧ w' = w := by
  have h1 : (1 ≤ k) = True := eq_true h.1
  have h2 : (k ≤ 16) = True := eq_true h.2
  go_enter Tryz.func124, Tryz.ntmps124
  go_wp2
  go_ret
  exact ⟨rfl, rfl⟩
theorem isFieldT (w : World) (k : Int) (h : 1 ≤ k ∧ k ≤ 536870911) : Calls Tryz.prog 126 #[.int .i64 k] w fun e w' => e = .returned (.bool true) ∧ w' = w := by
  have h1 : (1 ≤ k) = True := eq_true h.1
  have h2 : (k ≤ 536870911) = True := eq_true h.2
  go_enter Tryz.func126, Tryz.ntmps126
  go_wp2
  go_ret
  exact ⟨rfl, rfl⟩
/-- A tag of a field. -/
structure TagOk (t : Int) (n k : Int) : Prop where
  eq : t = tagV n k
  num : 1 ≤ n ∧ n ≤ 536870911
  kind : k = 0 ∨ k = 1 ∨ k = 2 ∨ k = 5
theorem i64_and7 (n : Int) : bits .and .i64 n 7 = n % 8 := by
  have h7 : (BitVec.ofInt 64 7).toNat = 2 ^ 3 - 1 := by decide
  have key : (BitVec.ofInt 64 n &&& BitVec.ofInt 64 7).toNat = (n % ((2 ^ 64 : Nat) : Int)).toNat % 2 ^ 3 := by
    rw [BitVec.toNat_and, BitVec.toNat_ofInt, h7, Nat.and_two_pow_sub_one_eq_mod]
  show IntKind.i64.wrap ((BitVec.ofInt 64 n &&& BitVec.ofInt 64 7).toNat : Nat) = n % 8
  rw [key, IntKind.wrap_i64]
  omega
theorem isTagT (w : World) (t n k : Int) (h : TagOk t n k) : Calls Tryz.prog 87 #[.int .i64 t] w fun e w' => e = .returned (.bool true) ∧ w' = w := by
  obtain ⟨e, hn, hk⟩ := h
  have h1 : bits .and .i64 t 7 = k := by rw [i64_and7, e]; unfold tagV; omega
  have h2 : t / 8 = n := by rw [e]; unfold tagV; omega
  have h3 : (1 ≤ n) = True := eq_true hn.1
  have h4 : (n ≤ 536870911) = True := eq_true hn.2
  clear e hn
  rcases hk with rfl | rfl | rfl | rfl
  all_goals
    go_enter Tryz.func87, Tryz.ntmps87
    go_wp2
    go_ret
    exact ⟨rfl, rfl⟩
theorem stepL (w : World) (op : Int) (ns : List Int) (hl : ns.length ≤ 4) (b : Nat) (hB : Blk w b 3 (ints ns)) : Calls Tryz.prog 115 #[.int .i64 op, .slice (some ⟨b, 0, none⟩) ns.length ns.length] w fun e w' => e = .returned (vIN (insV op ns)) ∧ Below w.heap.size w w' := stepT w op ns hl _ _ (ints_row ns hl hB)
theorem pg_at {w : World} {ba : Option Addr} {n bc : Nat} {bs : List BV} (h : PgR w (.slice ba n bc) bs) {k : Nat} (hk : k < bs.length) : ∃ b o da dc ea ec ra rc, ba = some ⟨b, o, none⟩ ∧ b < w.heap.size ∧ w.cell? ⟨b, o + k * 3, none⟩ = some (.slice da bs[k].k.dec.length dc) ∧ w.cell? ⟨b, o + k * 3 + 1, none⟩ = some (.slice ea bs[k].k.enc.length ec) ∧ w.cell? ⟨b, o + k * 3 + 2, none⟩ = some (.slice ra bs[k].k.rows.length rc) ∧ BkR w bs[k].k (.slice da bs[k].k.dec.length dc) (.slice ea bs[k].k.enc.length ec) (.slice ra bs[k].k.rows.length rc) := by
  obtain ⟨b, o, e, hc⟩ := rowAt (g := cBV) (fun _ => rfl) h.row (i := k) (x := bs[k]) (by simp [hk])
  have hb := h.el _ (List.getElem_mem hk)
  obtain ⟨da, dc, e1, -⟩ := rowS_sl hb.hd
  obtain ⟨ea, ec, e2, -⟩ := rowS_sl hb.he
  obtain ⟨ra, rc, e3, -⟩ := rowS_sl hb.hr
  have c0 := hc 0 _ rfl
  have c1 := hc 1 _ rfl
  have c2 := hc 2 _ rfl
  rw [e1] at c0
  rw [e2] at c1
  rw [e3] at c2
  rw [e1, e2, e3] at hb
  exact ⟨b, o, da, dc, ea, ec, ra, rc, e, World.block_lt_of_cell? _ _ c0, c0, c1, c2, hb⟩
theorem isEnumT (w : World) (bs : List BV) (ba : Option Addr) (bc : Nat) (h : PgR w (.slice ba bs.length bc) bs) (k : Nat) (hk : k < bs.length) (h1 : bs[k].k.dec.length = 0) (h2 : bs[k].k.enc.length = 0) : Calls Tryz.prog 125 #[.slice ba bs.length bc, .int .i64 (k : Int)] w fun e w' => e = .returned (.bool true) ∧ Below w.heap.size w w' := by
  obtain ⟨b, o, da, dc, ea, ec, ra, rc, rfl, hb, c0, c1, c2, -⟩ := pg_at h hk
  rw [h1] at c0
  rw [h2] at c1
  have r1 : (0 : Int) ≤ (k : Int) := by omega
  have r2 : (k : Int) < (bs.length : Int) := by omega
  generalize bs[k].k.rows.length = n3 at *
  clear h h1 h2
  go_enter Tryz.func125, Tryz.ntmps125
  go_wp2
  go_ret
  exact ⟨rfl, by exact blBy⟩
theorem isMessageT (w : World) (bs : List BV) (ba : Option Addr) (bc : Nat) (h : PgR w (.slice ba bs.length bc) bs) (k : Nat) (hk : k < bs.length) (h1 : 0 < bs[k].k.dec.length) (hz : bs[k].k.dec.length ≤ 100000 ∧ bs[k].k.enc.length ≤ 100000) : Calls Tryz.prog 127 #[.slice ba bs.length bc, .int .i64 (k : Int)] w fun e w' => e = .returned (.bool true) ∧ Below w.heap.size w w' := by
  obtain ⟨b, o, da, dc, ea, ec, ra, rc, rfl, hb, c0, c1, c2, -⟩ := pg_at h hk
  have r1 : (0 : Int) ≤ (k : Int) := by omega
  have r2 : (k : Int) < (bs.length : Int) := by omega
  generalize bs[k].k.rows.length = n3 at *
  generalize bs[k].k.dec.length = n1 at *
  generalize bs[k].k.enc.length = n2 at *
  have r3 : (0 : Int) < (n1 : Int) + (n2 : Int) := by omega
  have r4 : (n1 : Int) + (n2 : Int) ≤ 9223372036854775807 := by omega
  have r5 : (n1 : Int) ≤ 100000 := by omega
  have r6 : (n2 : Int) ≤ 100000 := by omega
  clear h h1 hz
  go_enter Tryz.func127, Tryz.ntmps127
  go_wp2
  go_ret
  exact ⟨ret_bool (by first | rfl | exact decide_eq_true r3 | (simp; omega)), by exact blBy⟩
/-- A block that a kind needs. -/
def OfKind (bs : List BV) (kind ref : Int) : Prop := 1 ≤ kind ∧ kind ≤ 17 ∧ ∃ k : Nat, ref = (k : Int) ∧ (kind = 16 → ∃ h : k < bs.length, bs[k].k.dec.length = 0 ∧ bs[k].k.enc.length = 0) ∧ (kind = 17 → ∃ h : k < bs.length, 0 < bs[k].k.dec.length ∧ bs[k].k.dec.length ≤ 100000 ∧ bs[k].k.enc.length ≤ 100000) ∧ (kind ≠ 16 → kind ≠ 17 → ref = 0)
theorem isOfKindT (w : World) (bs : List BV) (ba : Option Addr) (bc : Nat) (h : PgR w (.slice ba bs.length bc) bs) (kind ref : Int) (hk : OfKind bs kind ref) : Calls Tryz.prog 130 #[.slice ba bs.length bc, .int .i64 kind, .int .i64 ref] w fun e w' => e = .returned (.bool true) ∧ Below w.heap.size w w' := by
  obtain ⟨g1, g2, k, rfl, q16, q17, q0⟩ := hk
  by_cases h16 : kind = 16
  · obtain ⟨hl, a1, a2⟩ := q16 h16
    have HE := hid (fun W hW => isEnumT W bs ba bc (h.kept hW) k hl a1 a2)
    subst h16
    clear h q16 q17 q0
    go_enter Tryz.func130, Tryz.ntmps130
    go_wp2_with fail
    refine (HE.out _ (by exact blBy)).mono ?_
    rintro e w1 ⟨rfl, hb⟩
    go_wp2
    go_ret
    exact ⟨rfl, hb⟩
  by_cases h17 : kind = 17
  · obtain ⟨hl, a1, a2⟩ := q17 h17
    have HE := hid (fun W hW => isMessageT W bs ba bc (h.kept hW) k hl a1 a2)
    subst h17
    clear h q16 q17 q0
    go_enter Tryz.func130, Tryz.ntmps130
    go_wp2_with fail
    refine (HE.out _ (by exact blBy)).mono ?_
    rintro e w1 ⟨rfl, hb⟩
    go_wp2
    go_ret
    exact ⟨rfl, hb⟩
  have e0 := q0 h16 h17
  obtain rfl : k = 0 := by omega
  have k16 : (kind == 16) = false := by simpa using h16
  have k17 : (kind == 17) = false := by simpa using h17
  have r1 : (1 ≤ kind) = True := eq_true g1
  have r2 : (kind ≤ 16) = True := eq_true (by
    rcases Int.lt_or_le 16 kind with q | q
    · exact absurd (Int.le_antisymm g2 q) h17
    · exact q)
  clear h q16 q17 q0 e0
  go_enter Tryz.func130, Tryz.ntmps130
  go_wp2
  go_ret
  exact ⟨ret_bool (by first | rfl | simp), by first | exact Below.refl _ _ | exact blBy⟩
theorem areRowSymbolsT (w : World) (bs : List BV) (ba : Option Addr) (bc : Nat) (h : PgR w (.slice ba bs.length bc) bs) (kind num : Int) (hk : (kind = 16 ∧ ∃ k : Nat, num = (k : Int) + 1 ∧ ∃ h : k < bs.length, bs[k].k.dec.length = 0 ∧ bs[k].k.enc.length = 0) ∨ (kind ≠ 16 ∧ num = 0)) (h63 : num ≤ 1000) : Calls Tryz.prog 128 #[.slice ba bs.length bc, .int .i64 kind, .int .i64 num] w fun e w' => e = .returned (.bool true) ∧ Below w.heap.size w w' := by
  rcases hk with ⟨rfl, k, rfl, hl, a1, a2⟩ | ⟨h16, rfl⟩
  · have HE := hid (fun W hW => isEnumT W bs ba bc (h.kept hW) k hl a1 a2)
    clear h
    go_enter Tryz.func128, Tryz.ntmps128
    go_wp2_with (first | (go_at_call 125; (try simp only [Int.add_sub_cancel]); refine (HE.out _ (by first | exact Below.refl _ _ | exact blBy)).mono ?_; rintro e w1 ⟨rfl, hb⟩))
    go_ret
    exact ⟨rfl, hb⟩
  · have k16 : (kind == 16) = false := by simpa using h16
    clear h
    go_enter Tryz.func128, Tryz.ntmps128
    go_wp2
    go_ret
    exact ⟨ret_bool (by first | rfl | simp), by first | exact Below.refl _ _ | exact blBy⟩
theorem eqInsT (w : World) (A B : List IN) (aa ba : Option Addr) (ac bc : Nat) (hA : RowS w AnyZ 5 (.slice aa A.length ac) A.length (A.flatMap cIN)) (hB : RowS w AnyZ 5 (.slice ba B.length bc) B.length (B.flatMap cIN)) : Calls Tryz.prog 56 #[.slice aa A.length ac, .slice ba B.length bc] w (EqA w (A = B)) := by
  have HA := hid hA
  have HB := hid hB
  obtain ⟨_, _, e, hn1⟩ := rowS_sl hA
  clear e
  obtain ⟨_, _, e, hm1⟩ := rowS_sl hB
  clear e
  clear hA hB
  by_cases h1 : A.length = B.length
  case neg =>
    have q1 : ((A.length : Int) != (B.length : Int)) = true := by simp; omega
    have q2 : ((A.length : Int) == (B.length : Int)) = false := by rw [beq_eq_false_iff_ne]; omega
    go_enter Tryz.func56, Tryz.ntmps56
    go_wp2
    go_ret
    exact EqA.no (fun q => absurd (by rw [q]) h1) (by first | exact Below.refl _ _ | exact blBy)
  replace HB : Hid (RowS w AnyZ 5 (.slice ba A.length bc) B.length (B.flatMap cIN)) := hid (by rw [h1]; exact HB.out)
  rw [← h1]
  have z1 : (A.length : Int) ≤ 9223372036854775807 := by omega
  have q1 : ((A.length : Int) != (A.length : Int)) = false := by simp
  clear hn1 hm1
  replace h1 := hid h1
  go_enter Tryz.func56, Tryz.ntmps56
  go_wp2
  go_loopw [13] (fun r wr => ∃ j : Nat, r = .int .i64 j ∧ j ≤ A.length ∧ Hid (A.take j = B.take j) ∧ Hid (Below w.heap.size w wr)) (fun r wr => A.length - numAt wr r)
  case atStart => exact ⟨0, rfl, by omega, hid (by simp), hid (Below.refl _ _)⟩
  case round =>
    obtain ⟨j, rfl, hj, HT, hb⟩ := hrel
    by_cases hlt : j < A.length
    · have k1 : (j : Int) < (A.length : Int) := by omega
      have hlt2 : j < B.length := by have := h1.out; omega
      have HTS : Hid (A.take (j + 1) = A.take j ++ [A[j]] ∧ B.take (j + 1) = B.take j ++ [B[j]]) := hid ⟨List.take_succ_eq_append_getElem hlt, List.take_succ_eq_append_getElem hlt2⟩
      have HNE : Hid (A[j] ≠ B[j] → A ≠ B) := hid (fun q e => q (by subst e; rfl))
      obtain ⟨pb, po, epb, hc⟩ := rowAt (g := cIN) (fun _ => rfl) (HA.out.kept hb.out) (i := j) (x := A[j]) (by simp [hlt])
      obtain ⟨qb, qo, eqb, hd⟩ := rowAt (g := cIN) (fun _ => rfl) (HB.out.kept hb.out) (i := j) (x := B[j]) (by simp [hlt2])
      subst epb eqb
      have c0 := hc 0 _ rfl
      have d0 := hd 0 _ rfl
      have c1 := hc 1 _ rfl
      have d1 := hd 1 _ rfl
      have c2 := hc 2 _ rfl
      have d2 := hd 2 _ rfl
      have c3 := hc 3 _ rfl
      have d3 := hd 3 _ rfl
      have c4 := hc 4 _ rfl
      have d4 := hd 4 _ rfl
      clear hc hd
      simp only [Nat.add_zero] at c0 d0
      have hpb : pb < wr.heap.size := World.block_lt_of_cell? _ _ c0
      have hqb : qb < wr.heap.size := World.block_lt_of_cell? _ _ d0
      generalize A[j] = x at *
      generalize B[j] = y at *
      have hgd := gdIN
      have heq := fun W => eqIN x y W
      cases hq : inB x y with
      | false =>
        rw [hq] at heq
        have HF := hid (HNE.out (fun e => by rw [(inB_iff x y).2 e] at hq; cases hq))
        clear HNE HTS hq
        go_wp2
        go_quiet (fail)
        go_wp2
        go_ret
        exact EqA.no HF.out (by have := hb.out; first | exact this | exact bl_drewN this _ | exact blBy)
      | true =>
        rw [hq] at heq
        have exy := hid ((inB_iff x y).1 hq)
        clear HNE hq
        go_wp2
        go_quiet (fail)
        go_wp2
        exact ⟨⟨j + 1, by simp, by omega, hid (by rw [HTS.out.1, HTS.out.2, HT.out, exy.out]), hid (bl_drewN hb.out _)⟩, by simp [numAt]; omega⟩
    · have k1 : ¬ (j : Int) < (A.length : Int) := by omega
      have E : Hid (A = B) := hid (by have := HT.out; rwa [List.take_of_length_le (by omega), List.take_of_length_le (by have := h1.out; omega)] at this)
      go_wp2
      go_ret
      exact EqA.yes E.out hb.out
theorem eqLinT (w : World) (A B : List LN) (aa ba : Option Addr) (ac bc : Nat) (hA : RowS w AnyZ 2 (.slice aa A.length ac) A.length (A.flatMap cLN)) (hB : RowS w AnyZ 2 (.slice ba B.length bc) B.length (B.flatMap cLN)) : Calls Tryz.prog 57 #[.slice aa A.length ac, .slice ba B.length bc] w (EqA w (A = B)) := by
  have HA := hid hA
  have HB := hid hB
  obtain ⟨_, _, e, hn1⟩ := rowS_sl hA
  clear e
  obtain ⟨_, _, e, hm1⟩ := rowS_sl hB
  clear e
  clear hA hB
  by_cases h1 : A.length = B.length
  case neg =>
    have q1 : ((A.length : Int) != (B.length : Int)) = true := by simp; omega
    have q2 : ((A.length : Int) == (B.length : Int)) = false := by rw [beq_eq_false_iff_ne]; omega
    go_enter Tryz.func57, Tryz.ntmps57
    go_wp2
    go_ret
    exact EqA.no (fun q => absurd (by rw [q]) h1) (by first | exact Below.refl _ _ | exact blBy)
  replace HB : Hid (RowS w AnyZ 2 (.slice ba A.length bc) B.length (B.flatMap cLN)) := hid (by rw [h1]; exact HB.out)
  rw [← h1]
  have z1 : (A.length : Int) ≤ 9223372036854775807 := by omega
  have q1 : ((A.length : Int) != (A.length : Int)) = false := by simp
  clear hn1 hm1
  replace h1 := hid h1
  go_enter Tryz.func57, Tryz.ntmps57
  go_wp2
  go_loopw [13] (fun r wr => ∃ j : Nat, r = .int .i64 j ∧ j ≤ A.length ∧ Hid (A.take j = B.take j) ∧ Hid (Below w.heap.size w wr)) (fun r wr => A.length - numAt wr r)
  case atStart => exact ⟨0, rfl, by omega, hid (by simp), hid (Below.refl _ _)⟩
  case round =>
    obtain ⟨j, rfl, hj, HT, hb⟩ := hrel
    by_cases hlt : j < A.length
    · have k1 : (j : Int) < (A.length : Int) := by omega
      have hlt2 : j < B.length := by have := h1.out; omega
      have HTS : Hid (A.take (j + 1) = A.take j ++ [A[j]] ∧ B.take (j + 1) = B.take j ++ [B[j]]) := hid ⟨List.take_succ_eq_append_getElem hlt, List.take_succ_eq_append_getElem hlt2⟩
      have HNE : Hid (A[j] ≠ B[j] → A ≠ B) := hid (fun q e => q (by subst e; rfl))
      obtain ⟨pb, po, epb, hc⟩ := rowAt (g := cLN) (fun _ => rfl) (HA.out.kept hb.out) (i := j) (x := A[j]) (by simp [hlt])
      obtain ⟨qb, qo, eqb, hd⟩ := rowAt (g := cLN) (fun _ => rfl) (HB.out.kept hb.out) (i := j) (x := B[j]) (by simp [hlt2])
      subst epb eqb
      have c0 := hc 0 _ rfl
      have d0 := hd 0 _ rfl
      have c1 := hc 1 _ rfl
      have d1 := hd 1 _ rfl
      clear hc hd
      simp only [Nat.add_zero] at c0 d0
      have hpb : pb < wr.heap.size := World.block_lt_of_cell? _ _ c0
      have hqb : qb < wr.heap.size := World.block_lt_of_cell? _ _ d0
      generalize A[j] = x at *
      generalize B[j] = y at *
      have hgd := gdLN
      have heq := fun W => eqLN x y W
      cases hq : lnB x y with
      | false =>
        rw [hq] at heq
        have HF := hid (HNE.out (fun e => by rw [(lnB_iff x y).2 e] at hq; cases hq))
        clear HNE HTS hq
        go_wp2
        go_quiet (fail)
        go_wp2
        go_ret
        exact EqA.no HF.out (by have := hb.out; first | exact this | exact bl_drewN this _ | exact blBy)
      | true =>
        rw [hq] at heq
        have exy := hid ((lnB_iff x y).1 hq)
        clear HNE hq
        go_wp2
        go_quiet (fail)
        go_wp2
        exact ⟨⟨j + 1, by simp, by omega, hid (by rw [HTS.out.1, HTS.out.2, HT.out, exy.out]), hid (bl_drewN hb.out _)⟩, by simp [numAt]; omega⟩
    · have k1 : ¬ (j : Int) < (A.length : Int) := by omega
      have E : Hid (A = B) := hid (by have := HT.out; rwa [List.take_of_length_le (by omega), List.take_of_length_le (by have := h1.out; omega)] at this)
      go_wp2
      go_ret
      exact EqA.yes E.out hb.out
theorem EqA.tr {w w' : World} {P : Prop} {e : Ending} (hP : P) (h : EqA w P e w') : e = .returned (.bool true) ∧ Below w.heap.size w w' := by
  obtain ⟨r, rfl, hr, hb⟩ := h
  obtain rfl : r = true := hr.2 hP
  exact ⟨rfl, hb⟩
theorem areSameT (w : World) (A : BK) (a1 a2 a3 b1 b2 b3 : Option Addr) (k1 k2 k3 l1 l2 l3 : Nat) (hA : BkR w A (.slice a1 A.dec.length k1) (.slice a2 A.enc.length k2) (.slice a3 A.rows.length k3)) (hB : BkR w A (.slice b1 A.dec.length l1) (.slice b2 A.enc.length l2) (.slice b3 A.rows.length l3)) : Calls Tryz.prog 35 #[.agg #[.slice a1 A.dec.length k1, .slice a2 A.enc.length k2, .slice a3 A.rows.length k3], .agg #[.slice b1 A.dec.length l1, .slice b2 A.enc.length l2, .slice b3 A.rows.length l3]] w fun e w' => e = .returned (.bool true) ∧ Below w.heap.size w w' := by
  have HC1 : Hid (∀ V, Below w.heap.size w V → Calls Tryz.prog 56 #[.slice a1 A.dec.length k1, .slice b1 A.dec.length l1] V fun e w' => e = .returned (.bool true) ∧ Below V.heap.size V w') := hid fun V hV => (eqInsT V A.dec A.dec a1 b1 k1 l1 (hA.hd.kept hV) (hB.hd.kept hV)).mono fun e w' h => h.tr rfl
  have HC2 : Hid (∀ V, Below w.heap.size w V → Calls Tryz.prog 56 #[.slice a2 A.enc.length k2, .slice b2 A.enc.length l2] V fun e w' => e = .returned (.bool true) ∧ Below V.heap.size V w') := hid fun V hV => (eqInsT V A.enc A.enc a2 b2 k2 l2 (hA.he.kept hV) (hB.he.kept hV)).mono fun e w' h => h.tr rfl
  have HC3 : Hid (∀ V, Below w.heap.size w V → Calls Tryz.prog 57 #[.slice a3 A.rows.length k3, .slice b3 A.rows.length l3] V fun e w' => e = .returned (.bool true) ∧ Below V.heap.size V w') := hid fun V hV => (eqLinT V A.rows A.rows a3 b3 k3 l3 (hA.hr.kept hV) (hB.hr.kept hV)).mono fun e w' h => h.tr rfl
  clear hA hB
  generalize A.dec.length = n1 at *
  generalize A.enc.length = n2 at *
  generalize A.rows.length = n3 at *
  go_enter Tryz.func35, Tryz.ntmps35
  go_wp2_with fail
  have Ba : Blk ((w.alloc (.cells #[.slice a1 n1 k1, .slice a2 n2 k2, .slice a3 n3 k3] 28)).alloc (.cells #[.slice b1 n1 l1, .slice b2 n2 l2, .slice b3 n3 l3] 28)) w.heap.size 28 #[.slice a1 n1 k1, .slice a2 n2 k2, .slice a3 n3 k3] := (Blk.new _ _ _).kept (below_alloc _)
  have Bb : Blk ((w.alloc (.cells #[.slice a1 n1 k1, .slice a2 n2 k2, .slice a3 n3 k3] 28)).alloc (.cells #[.slice b1 n1 l1, .slice b2 n2 l2, .slice b3 n3 l3] 28)) (w.heap.size + 1) 28 #[.slice b1 n1 l1, .slice b2 n2 l2, .slice b3 n3 l3] := Blk.newAt (by simp)
  have HB : Hid (Below w.heap.size w ((w.alloc (.cells #[.slice a1 n1 k1, .slice a2 n2 k2, .slice a3 n3 k3] 28)).alloc (.cells #[.slice b1 n1 l1, .slice b2 n2 l2, .slice b3 n3 l3] 28))) := hid (by exact blBy)
  generalize ((w.alloc (.cells #[.slice a1 n1 k1, .slice a2 n2 k2, .slice a3 n3 k3] 28)).alloc (.cells #[.slice b1 n1 l1, .slice b2 n2 l2, .slice b3 n3 l3] 28)) = V at *
  have e0 := Ba.cell 0 _ rfl
  have e1 := Ba.cell 1 _ rfl
  have e2 := Ba.cell 2 _ rfl
  have e3 := Bb.cell 0 _ rfl
  have e4 := Bb.cell 1 _ rfl
  have e5 := Bb.cell 2 _ rfl
  simp only [List.getElem_toArray, List.getElem_cons_succ, List.getElem_cons_zero] at e0 e1 e2 e3 e4 e5
  clear Ba Bb
  go_wp2_with (first | (go_at_call_of 56 (Value.slice a1 n1 k1); refine (HC1.out _ (below_trans HB.out (by first | exact Below.refl _ _ | exact below_drew1 _ | exact below_drewN _ _))).mono ?_; rintro e w4 ⟨rfl, hbx⟩; replace e0 := cell_below e0 (below_trans (by first | exact Below.refl _ _ | exact below_drew1 _ | exact below_drewN _ _) hbx); replace e1 := cell_below e1 (below_trans (by first | exact Below.refl _ _ | exact below_drew1 _ | exact below_drewN _ _) hbx); replace e2 := cell_below e2 (below_trans (by first | exact Below.refl _ _ | exact below_drew1 _ | exact below_drewN _ _) hbx); replace e3 := cell_below e3 (below_trans (by first | exact Below.refl _ _ | exact below_drew1 _ | exact below_drewN _ _) hbx); replace e4 := cell_below e4 (below_trans (by first | exact Below.refl _ _ | exact below_drew1 _ | exact below_drewN _ _) hbx); replace e5 := cell_below e5 (below_trans (by first | exact Below.refl _ _ | exact below_drew1 _ | exact below_drewN _ _) hbx); replace HB := hid (below_trans HB.out (below_trans (by first | exact Below.refl _ _ | exact below_drew1 _ | exact below_drewN _ _) hbx)); clear hbx) | (go_at_call_of 56 (Value.slice a2 n2 k2); refine (HC2.out _ (below_trans HB.out (by first | exact Below.refl _ _ | exact below_drew1 _ | exact below_drewN _ _))).mono ?_; rintro e w4 ⟨rfl, hbx⟩; replace e0 := cell_below e0 (below_trans (by first | exact Below.refl _ _ | exact below_drew1 _ | exact below_drewN _ _) hbx); replace e1 := cell_below e1 (below_trans (by first | exact Below.refl _ _ | exact below_drew1 _ | exact below_drewN _ _) hbx); replace e2 := cell_below e2 (below_trans (by first | exact Below.refl _ _ | exact below_drew1 _ | exact below_drewN _ _) hbx); replace e3 := cell_below e3 (below_trans (by first | exact Below.refl _ _ | exact below_drew1 _ | exact below_drewN _ _) hbx); replace e4 := cell_below e4 (below_trans (by first | exact Below.refl _ _ | exact below_drew1 _ | exact below_drewN _ _) hbx); replace e5 := cell_below e5 (below_trans (by first | exact Below.refl _ _ | exact below_drew1 _ | exact below_drewN _ _) hbx); replace HB := hid (below_trans HB.out (below_trans (by first | exact Below.refl _ _ | exact below_drew1 _ | exact below_drewN _ _) hbx)); clear hbx) | (go_at_call 57; refine (HC3.out _ (below_trans HB.out (by first | exact Below.refl _ _ | exact below_drew1 _ | exact below_drewN _ _))).mono ?_; rintro e w4 ⟨rfl, hbx⟩; replace e0 := cell_below e0 (below_trans (by first | exact Below.refl _ _ | exact below_drew1 _ | exact below_drewN _ _) hbx); replace e1 := cell_below e1 (below_trans (by first | exact Below.refl _ _ | exact below_drew1 _ | exact below_drewN _ _) hbx); replace e2 := cell_below e2 (below_trans (by first | exact Below.refl _ _ | exact below_drew1 _ | exact below_drewN _ _) hbx); replace e3 := cell_below e3 (below_trans (by first | exact Below.refl _ _ | exact below_drew1 _ | exact below_drewN _ _) hbx); replace e4 := cell_below e4 (below_trans (by first | exact Below.refl _ _ | exact below_drew1 _ | exact below_drewN _ _) hbx); replace e5 := cell_below e5 (below_trans (by first | exact Below.refl _ _ | exact below_drew1 _ | exact below_drewN _ _) hbx); replace HB := hid (below_trans HB.out (below_trans (by first | exact Below.refl _ _ | exact below_drew1 _ | exact below_drewN _ _) hbx)); clear hbx))
  go_ret
  exact ⟨rfl, HB.out⟩
theorem cfSame (args : Array Value) (W : World) : (callFunc 35 args).run Tryz.prog W = .ok (.enter 35 args) W := cf_enter Tryz.func35 (by kernel_rfl) (by kernel_rfl) args W
theorem equalFuncT (w : World) (xs ys : List BV) (xa ya : Option Addr) (xc yc : Nat) (hx : PgR w (.slice xa xs.length xc) xs) (hy : PgR w (.slice ya ys.length yc) ys) (he : xs.map BV.k = ys.map BV.k) : Calls Tryz.prog 34 #[.slice xa xs.length xc, .slice ya ys.length yc, .func (.func 35) #[] #[]] w fun e w' => e = .returned (.bool true) ∧ Below w.heap.size w w' := by
  obtain ⟨_, _, e, hn1⟩ := rowS_sl hx.row
  clear e
  have h63 : (xs.length : Int) ≤ 9223372036854775807 := by omega
  have hlen : xs.length = ys.length := by simpa using congrArg List.length he
  have HAT := hid he
  rw [← hlen] at hy ⊢
  have HX := hid hx
  have HY : Hid (RowS w AnyZ 3 (.slice ya xs.length yc) ys.length (ys.flatMap cBV) ∧ ∀ x ∈ ys, BkR w x.k x.d x.e x.r) := hid ⟨hy.row, hy.el⟩
  replace hlen := hid hlen
  clear hx hy he
  generalize en : xs.length = n at *
  replace en := hid en
  have hcf := cfSame
  go_enter Tryz.func34, Tryz.ntmps34
  go_wp2
  go_loopw [17] (fun r wr => ∃ j : Nat, r = .int .i64 j ∧ j ≤ n ∧ Hid (Below w.heap.size w wr)) (fun r wr => n - numAt wr r)
  case atStart => exact ⟨0, rfl, by omega, hid (Below.refl _ _)⟩
  case round =>
    obtain ⟨j, rfl, hj, hb⟩ := hrel
    by_cases hlt : j < n
    · have j1 : (j : Int) < (n : Int) := by omega
      have hx1 : j < xs.length := by have := en.out; omega
      have hy1 : j < ys.length := by have := en.out; have := hlen.out; omega
      have HR := HX.out.row.kept hb.out
      have HQ := HY.out.1.kept hb.out
      obtain ⟨pb, po, epb, hc⟩ := rowAt (g := cBV) (fun _ => rfl) HR (i := j) (x := xs[j]) (by simp [hx1])
      obtain ⟨rb, ro, erb, hd⟩ := rowAt (g := cBV) (fun _ => rfl) HQ (i := j) (x := ys[j]) (by simp [hy1])
      clear HR HQ
      cases epb
      cases erb
      have c0 := hc 0 _ rfl
      have c1 := hc 1 _ rfl
      have c2 := hc 2 _ rfl
      have d0 := hd 0 _ rfl
      have d1 := hd 1 _ rfl
      have d2 := hd 2 _ rfl
      clear hc hd
      simp only [Nat.add_zero] at c0 d0
      have HEX := hid (HX.out.el _ (List.getElem_mem hx1))
      have HEY := hid (HY.out.2 _ (List.getElem_mem hy1))
      have HK : Hid (xs[j].k = ys[j].k) := hid (by
        have := congrArg (fun l => l[j]?) HAT.out
        simpa [hx1, hy1] using this)
      generalize xs[j] = X at *
      generalize ys[j] = Y at *
      obtain ⟨A, xd, xe, xr⟩ := X
      obtain ⟨B, yd, ye, yr⟩ := Y
      dsimp only at c0 c1 c2 d0 d1 d2 HEX HEY HK
      obtain rfl : A = B := HK.out
      obtain ⟨a1, k1, rfl, -⟩ := rowS_sl HEX.out.hd
      obtain ⟨a2, k2, rfl, -⟩ := rowS_sl HEX.out.he
      obtain ⟨a3, k3, rfl, -⟩ := rowS_sl HEX.out.hr
      obtain ⟨b1, l1, rfl, -⟩ := rowS_sl HEY.out.hd
      obtain ⟨b2, l2, rfl, -⟩ := rowS_sl HEY.out.he
      obtain ⟨b3, l3, rfl, -⟩ := rowS_sl HEY.out.hr
      have HC : Hid (∀ V, Below w.heap.size w V → Calls Tryz.prog 35 #[.agg #[.slice a1 A.dec.length k1, .slice a2 A.enc.length k2, .slice a3 A.rows.length k3], .agg #[.slice b1 A.dec.length l1, .slice b2 A.enc.length l2, .slice b3 A.rows.length l3]] V fun e w' => e = .returned (.bool true) ∧ Below V.heap.size V w') := hid fun V hV => areSameT V A a1 a2 a3 b1 b2 b3 k1 k2 k3 l1 l2 l3 (HEX.out.kept hV) (HEY.out.kept hV)
      clear HEX HEY HX HY HK HAT
      generalize A.dec.length = n1 at *
      generalize A.enc.length = n2 at *
      generalize A.rows.length = n3 at *
      have hpb : pb < wr.heap.size := World.block_lt_of_cell? _ _ c0
      have hrb : rb < wr.heap.size := World.block_lt_of_cell? _ _ d0
      go_wp2_with (first | (go_at_call 35; refine (HC.out _ (by have := hb.out; exact blBy)).mono ?_; rintro e w4 ⟨rfl, hbx⟩; replace hb := hid (below_trans hb.out (below_trans (by first | exact Below.refl _ _ | exact below_drew1 _ | exact below_drewN _ _ | exact blBy) hbx)); clear hbx))
      exact ⟨⟨j + 1, by simp, by omega, hb⟩, by simp [numAt]; omega⟩
    · have j1 : ¬ (j : Int) < (n : Int) := by omega
      go_wp2
      go_ret
      exact ⟨rfl, hb.out⟩
theorem equalT (w : World) (xs ys : List BV) (xa ya : Option Addr) (xc yc : Nat) (hx : PgR w (.slice xa xs.length xc) xs) (hy : PgR w (.slice ya ys.length yc) ys) (he : xs.map BV.k = ys.map BV.k) : Calls Tryz.prog 16 #[.agg #[.slice xa xs.length xc], .agg #[.slice ya ys.length yc]] w fun e w' => e = .returned (.bool true) ∧ Below w.heap.size w w' := by
  have HC : Hid (∀ V, Below w.heap.size w V → Calls Tryz.prog 34 #[.slice xa xs.length xc, .slice ya ys.length yc, .func (.func 35) #[] #[]] V fun e w' => e = .returned (.bool true) ∧ Below V.heap.size V w') := hid fun V hV => equalFuncT V xs ys xa ya xc yc (hx.kept hV) (hy.kept hV) he
  clear hx hy he
  generalize xs.length = n at *
  generalize ys.length = m at *
  go_enter Tryz.func16, Tryz.ntmps16
  go_wp2_with (first | (go_at_call 34; refine (HC.out _ (by exact blBy)).mono ?_; rintro e w4 ⟨rfl, hbx⟩))
  go_ret
  exact ⟨rfl, bl_then (by exact blBy) hbx⟩
end Go.Proofs.YtbopddnekoocoaaGreatDoor
