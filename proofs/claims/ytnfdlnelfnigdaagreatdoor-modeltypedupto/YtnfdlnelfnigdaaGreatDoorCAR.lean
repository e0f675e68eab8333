/-
  The type of the messages in a field.
  A good table's message.
  Whether fields rise.
  The shape of a field.
  Of each oneof one member.
  Does a value fit a kind? The program's walks and the document's.
  The model's decoding of a string's bytes, held against the widths of chapter 2.
-/
import Derived.Test.YtnfdlnelfnigdaaGreatDoorCTZ
import Derived.Test.YtnfdlnelfnigdaaGreatDoorCTA
import Derived.Laws.RangeAny
namespace Go.Proofs.YtnfdlnelfnigdaaGreatDoor
open Go.RowKit
set_option maxRecDepth 1000000
set_option linter.unusedVariables false
set_option linter.unusedSimpArgs false
set_option maxHeartbeats 1000000
theorem shT_of {w : World} {x : TV} (h : TyR w x) : ShT x := by
  obtain ⟨a1, c1, e1, -⟩ := rowS_sl h.f
  obtain ⟨a2, c2, e2, -⟩ := rowS_sl h.o
  obtain ⟨a3, c3, e3, -⟩ := rowS_sl h.s
  obtain ⟨a4, c4, e4, -⟩ := rowS_sl h.r
  exact ⟨a1, c1, a2, c2, a3, c3, a4, c4, e1, e2, e3, e4⟩
/-- A good table's fields rise, of an enum too. -/
theorem good_rise {l : List TV} (hg : goodB l = true) {x : TV} (hx : x ∈ l) : Rise x.t.fs ∧ x.t.fs.length ≤ 128 := by
  obtain ⟨k, hk, rfl⟩ := List.mem_iff_getElem.1 hx
  cases he : l[k].t.enum with
  | false => exact good_msg hg hk he
  | true =>
    have h := good_at hg hk
    unfold stepB typB at h
    rw [he] at h
    simp only [Bool.and_eq_true, if_true, decide_eq_true_eq] at h
    have h3 : l[k].t.fs.length = 0 := by have := h.2.2.2.1; omega
    rw [List.eq_nil_of_length_eq_zero h3]
    exact ⟨fun i j _ hj => by simp at hj, by simp⟩
/-- A field's Ref names a type, whatever its kind. -/
theorem good_refs {l : List TV} (hg : goodB l = true) {x : TV} (hx : x ∈ l) {o : FT} (ho : o ∈ x.t.fs) : 0 ≤ o.ref ∧ o.ref.toNat < l.length := by
  obtain ⟨k, hk, rfl⟩ := List.mem_iff_getElem.1 hx
  have h := good_at hg hk
  unfold stepB typB at h
  simp only [Bool.and_eq_true] at h
  have h2 := h.2.2.2
  split at h2
  · rw [Bool.and_eq_true, decide_eq_true_eq] at h2
    have h3 : l[k].t.fs.length = 0 := by omega
    rw [List.eq_nil_of_length_eq_zero h3] at ho
    exact absurd ho (by simp)
  · unfold msgB at h2
    simp only [Bool.and_eq_true] at h2
    have h3 := List.all_eq_true.1 h2.2.2.1 o ho
    unfold fldB at h3
    simp only [Bool.and_eq_true] at h3
    have h4 := h3.2.1
    unfold refB at h4
    split at h4
    · split at h4
      · rename_i y hy
        rw [Bool.and_eq_true, decide_eq_true_eq] at h4
        exact ⟨h4.1, (List.getElem?_eq_some_iff.1 hy).1⟩
      · simp at h4
    · rw [decide_eq_true_eq] at h4
      rw [h4]
      exact ⟨by omega, by simp; omega⟩
theorem belowT (w : World) (l : List TV) (ta : Option Addr) (tc : Nat) (h : TbR w (.slice ta l.length tc) l) (hg : goodB l = true) (x : TV) (hx : x ∈ l) (Z : Nat → Prop) (d : Nat) (cs : List Value) (f : CF CM) (hf : FldE w Z (MsgE w Z d) cs f) (o : FT) (ho : o ∈ x.t.fs) (hn : o.num = f.num) (y : TV) (hy : l[o.ref.toNat]? = some y) : Calls Tryz.prog 31 #[.agg #[.slice ta l.length tc], .agg (cTV x).toArray, .agg cs.toArray] w fun e w' => e = .returned (.agg (cTV y).toArray) ∧ Below w.heap.size w w' := by
  obtain ⟨ka, kc, va, vc, rfl, -⟩ := fld_open hf
  have hyl : o.ref.toNat < l.length := (List.getElem?_eq_some_iff.1 hy).1
  have hye : l[o.ref.toNat] = y := (List.getElem?_eq_some_iff.1 hy).2
  have TX := h.ty x hx
  have TYY := h.ty y (by rw [← hye]; exact List.getElem_mem hyl)
  obtain ⟨ta1, tc1, ta2, tc2, ta3, tc3, ta4, tc4, e1, e2, e3, e4⟩ := shT_of TX
  obtain ⟨sa1, sc1, sa2, sc2, sa3, sc3, sa4, sc4, g1, g2, g3, g4⟩ := shT_of TYY
  have ecx : cTV x = [.string (strOfNums x.t.name), .bool x.t.enum, .slice ta1 x.t.fs.length tc1, .slice ta2 x.t.os.length tc2, .slice ta3 x.t.ss.length tc3, .slice ta4 x.t.rs.length tc4] := by unfold cTV; rw [e1, e2, e3, e4]
  have ecy : cTV y = [.string (strOfNums y.t.name), .bool y.t.enum, .slice sa1 y.t.fs.length sc1, .slice sa2 y.t.os.length sc2, .slice sa3 y.t.ss.length sc3, .slice sa4 y.t.rs.length sc4] := by unfold cTV; rw [g1, g2, g3, g4]
  obtain ⟨k, hk, hke⟩ := List.mem_iff_getElem.1 ho
  have HFO := hid fun W (hW : Below w.heap.size w W) => fieldOfOk x.t.fs f.num W ta1 tc1 (by rw [← e1]; exact (TX.kept hW).f) (good_rise hg hx).1 (good_rise hg hx).2 k hk (by rw [hke]; exact hn)
  rw [hke] at HFO
  obtain ⟨r0, r1⟩ := good_refs hg hx ho
  obtain ⟨j, hj⟩ := Int.eq_ofNat_of_zero_le r0
  have ht : o.ref.toNat = j := by omega
  rw [ht] at hy
  clear hye hyl
  have hyl : j < l.length := (List.getElem?_eq_some_iff.1 hy).1
  have hye : l[j] = y := (List.getElem?_eq_some_iff.1 hy).2
  obtain ⟨tb, tof, rfl, hbl, c0, c1, c2, c3, c4, c5⟩ := row6 h.row hyl
  rw [hye] at c0 c1 c2 c3 c4 c5
  rw [g1] at c2
  rw [g2] at c3
  rw [g3] at c4
  rw [g4] at c5
  rw [hj] at HFO
  rw [ecx, ecy]
  have k1 : (j : Int) < (l.length : Int) := by omega
  obtain ⟨_, _, el, l63⟩ := rowS_sl h.row
  clear el
  have m1 : (l.length : Int) ≤ 9223372036854775807 := by omega
  clear h hf TX TYY e1 e2 e3 e4 g1 g2 g3 g4 ecx ecy hke ho hy hye r0 r1 hx hg hn ht hj
  generalize o.ref = rf at *
  go_enter Tryz.func31, Tryz.ntmps31
  go_wp2_with fail
  refine (HFO.out _ (by exact blBy)).mono ?_
  rintro e w1 ⟨rfl, hb1⟩
  have B3 : Blk w1 w.heap.size 68 #[.slice (some ⟨tb, tof, none⟩) l.length tc] := ((((Blk.new _ _ _).kept (below_alloc _)).kept (below_alloc _)).kept (below_alloc _)).kept hb1
  have Br : Blk w1 (w.heap.size + 1 + 1 + 1) 66 #[.string ⟨#[]⟩, .bool false, .slice none 0 0, .slice none 0 0, .slice none 0 0, .slice none 0 0] := (Blk.newAt (by simp)).kept hb1
  have hbz : Hid (Below w.heap.size w w1) := hid (bl_then (by exact blBy) hb1)
  have hs1 : w.heap.size + 4 ≤ w1.heap.size := by have := hb1.size; simpa using this
  clear hb1 HFO
  replace c0 := cell_below c0 hbz.out
  replace c1 := cell_below c1 hbz.out
  replace c2 := cell_below c2 hbz.out
  replace c3 := cell_below c3 hbz.out
  replace c4 := cell_below c4 hbz.out
  replace c5 := cell_below c5 hbz.out
  have hne : tb ≠ w.heap.size + 1 + 1 + 1 := by omega
  have hbl2 : tb < w1.heap.size := World.block_lt_of_cell? _ _ c0
  have x3 := B3.cellF
  have z3 := B3.lt
  have xr := Br.cellF
  have yr := Br.frz
  have zr := Br.lt
  clear hbl
  go_wp2
  exact bodyPost_ret (v := .agg #[.string (strOfNums y.t.name), .bool y.t.enum, .slice sa1 y.t.fs.length sc1, .slice sa2 y.t.os.length sc2, .slice sa3 y.t.ss.length sc3, .slice sa4 y.t.rs.length sc4]) (by simp [results, Tryz.results31, go_sem, xr, zr, yr]) rfl ⟨rfl, by have := hbz.out; exact blBy⟩
theorem msgAtOk (w : World) (l : List TV) (ta : Option Addr) (tc : Nat) (h : TbR w (.slice ta l.length tc) l) (hk : ∀ x ∈ l, OkV x) (m : Int) (hm : w.cell? ⟨0, 0, none⟩ = some (.int .i64 m)) (k : Nat) (hkl : k < l.length) (hg : goodB l = true) (he : l[k].t.enum = false) : Calls Tryz.prog 35 #[.agg #[.slice ta l.length tc], .int .i64 (k : Int)] w fun e w' => e = .returned (.tuple #[.agg #[.string (strOfNums l[k].t.name), .bool false, l[k].f, l[k].o, l[k].s, l[k].r], .int .i64 0]) ∧ Below w.heap.size w w' := by
  obtain ⟨_, _, e, hn⟩ := rowS_sl h.row
  clear e
  have h63 : (l.length : Int) ≤ 9223372036854775807 := by omega
  have HTY := hid (h.ty _ (List.getElem_mem hkl))
  have HGC : Hid (∀ W, Below w.heap.size w W → Calls Tryz.prog 76 #[.agg #[.slice ta l.length tc]] W fun e w' => e = .returned (.bool true) ∧ Below W.heap.size W w') := hid fun W hW => by
    have := goodT W l ta tc (h.kept hW) hk m (cell_below hm hW)
    rw [hg] at this
    exact this
  obtain ⟨tb, tof, rfl, hbl, c0, c1, c2, c3, c4, c5⟩ := row6 h.row hkl
  rw [he] at c1
  have r2 : ((k : Int) < 0) = False := eq_false (by omega)
  have r4 : ((l.length : Int) ≤ (k : Int)) = False := eq_false (by omega)
  have r5 : (k : Int) < (l.length : Int) := by omega
  clear h hk hm hg he
  generalize l[k] = x at *
  obtain ⟨t, f, o, s, r⟩ := x
  obtain ⟨fa, fc, ef, -⟩ := rowS_sl HTY.out.f
  obtain ⟨oa, oc, eo, -⟩ := rowS_sl HTY.out.o
  obtain ⟨sa, sc, es, -⟩ := rowS_sl HTY.out.s
  obtain ⟨ra, rc, er, -⟩ := rowS_sl HTY.out.r
  dsimp only at ef eo es er
  subst ef eo es er
  dsimp only at c0 c1 c2 c3 c4 c5
  dsimp only
  go_enter Tryz.func35, Tryz.ntmps35
  go_wp2_with fail
  refine (HGC.out _ (by exact blBy)).mono ?_
  rintro e w1 ⟨rfl, hb1⟩
  have Ba : Blk w1 w.heap.size 46 #[.slice (some ⟨tb, tof, none⟩) l.length tc] := ((Blk.new _ _ _).kept (below_alloc _)).kept hb1
  have Br : Blk w1 (w.heap.size + 1) 66 #[.string ⟨#[]⟩, .bool false, .slice none 0 0, .slice none 0 0, .slice none 0 0, .slice none 0 0] := (Blk.newAt (by simp)).kept hb1
  replace hb1 : Hid (Below w.heap.size w w1) := hid (bl_then (by exact blBy) hb1)
  have d0 := cell_below c0 hb1.out
  have d1 := cell_below c1 hb1.out
  have d2 := cell_below c2 hb1.out
  have d3 := cell_below c3 hb1.out
  have d4 := cell_below c4 hb1.out
  have d5 := cell_below c5 hb1.out
  have hbl1 : tb < w1.heap.size := World.block_lt_of_cell? _ _ d0
  have hne : tb ≠ w.heap.size + 1 := by omega
  clear c0 c1 c2 c3 c4 c5
  have xa := Ba.cellF
  have za := Ba.lt
  have xr := Br.cellF
  have yr := Br.frz
  have zr := Br.lt
  go_wp2
  exact bodyPost_ret (v := .tuple #[.agg #[.string (strOfNums t.name), .bool false, .slice fa t.fs.length fc, .slice oa t.os.length oc, .slice sa t.ss.length sc, .slice ra t.rs.length rc], .int .i64 0]) (by simp [results, Tryz.results35, go_sem, xr, zr, yr]) rfl ⟨rfl, by have := hb1.out; exact blBy⟩
theorem msgAtNo (w : World) (l : List TV) (ta : Option Addr) (tc : Nat) (h : TbR w (.slice ta l.length tc) l) (hk : ∀ x ∈ l, OkV x) (m : Int) (hm : w.cell? ⟨0, 0, none⟩ = some (.int .i64 m)) (idx : Int) (hno : isB l idx false = false) : Calls Tryz.prog 35 #[.agg #[.slice ta l.length tc], .int .i64 idx] w fun e w' => e = .returned (.tuple #[.agg #[.string ⟨#[]⟩, .bool false, .slice none 0 0, .slice none 0 0, .slice none 0 0, .slice none 0 0], .int .i64 18]) ∧ Below w.heap.size w w' := by
  obtain ⟨_, _, e, hn⟩ := rowS_sl h.row
  clear e
  have h63 : (l.length : Int) ≤ 9223372036854775807 := by omega
  have HGC : Hid (∀ W, Below w.heap.size w W → Calls Tryz.prog 76 #[.agg #[.slice ta l.length tc]] W fun e w' => e = .returned (.bool (goodB l)) ∧ Below W.heap.size W w') := hid fun W hW => goodT W l ta tc (h.kept hW) hk m (cell_below hm hW)
  unfold isB at hno
  cases q : goodB l with
  | false =>
    rw [q] at HGC
    clear h hk hm hno
    go_enter Tryz.func35, Tryz.ntmps35
    go_wp2_with fail
    refine (HGC.out _ (by exact blBy)).mono ?_
    rintro e w1 ⟨rfl, hb1⟩
    have Ba : Blk w1 w.heap.size 46 #[.slice ta l.length tc] := ((Blk.new _ _ _).kept (below_alloc _)).kept hb1
    have Br : Blk w1 (w.heap.size + 1) 66 #[.string ⟨#[]⟩, .bool false, .slice none 0 0, .slice none 0 0, .slice none 0 0, .slice none 0 0] := (Blk.newAt (by simp)).kept hb1
    replace hb1 : Hid (Below w.heap.size w w1) := hid (bl_then (by exact blBy) hb1)
    have xa := Ba.cellF
    have ya := Ba.frz
    have za := Ba.lt
    have xr := Br.cellF
    have yr := Br.frz
    have zr := Br.lt
    go_wp2
    exact bodyPost_ret (v := .tuple #[.agg #[.string ⟨#[]⟩, .bool false, .slice none 0 0, .slice none 0 0, .slice none 0 0, .slice none 0 0], .int .i64 18]) (by simp [results, Tryz.results35, go_sem, xr, zr, yr]) rfl ⟨rfl, by have := hb1.out; exact blBy⟩
  | true =>
  rw [q] at HGC hno
  by_cases r1 : idx < 0
  case pos =>
    have r2 : (idx < 0) = True := eq_true r1
    clear h hk hm hno r1
    go_enter Tryz.func35, Tryz.ntmps35
    go_wp2_with fail
    refine (HGC.out _ (by exact blBy)).mono ?_
    rintro e w1 ⟨rfl, hb1⟩
    have Ba : Blk w1 w.heap.size 46 #[.slice ta l.length tc] := ((Blk.new _ _ _).kept (below_alloc _)).kept hb1
    have Br : Blk w1 (w.heap.size + 1) 66 #[.string ⟨#[]⟩, .bool false, .slice none 0 0, .slice none 0 0, .slice none 0 0, .slice none 0 0] := (Blk.newAt (by simp)).kept hb1
    replace hb1 : Hid (Below w.heap.size w w1) := hid (bl_then (by exact blBy) hb1)
    have xa := Ba.cellF
    have ya := Ba.frz
    have za := Ba.lt
    have xr := Br.cellF
    have yr := Br.frz
    have zr := Br.lt
    go_wp2
    exact bodyPost_ret (v := .tuple #[.agg #[.string ⟨#[]⟩, .bool false, .slice none 0 0, .slice none 0 0, .slice none 0 0, .slice none 0 0], .int .i64 18]) (by simp [results, Tryz.results35, go_sem, xr, zr, yr]) rfl ⟨rfl, by have := hb1.out; exact blBy⟩
  by_cases r3 : (l.length : Int) ≤ idx
  case pos =>
    have r2 : (idx < 0) = False := eq_false r1
    have r4 : ((l.length : Int) ≤ idx) = True := eq_true r3
    clear h hk hm hno r1 r3
    go_enter Tryz.func35, Tryz.ntmps35
    go_wp2_with fail
    refine (HGC.out _ (by exact blBy)).mono ?_
    rintro e w1 ⟨rfl, hb1⟩
    have Ba : Blk w1 w.heap.size 46 #[.slice ta l.length tc] := ((Blk.new _ _ _).kept (below_alloc _)).kept hb1
    have Br : Blk w1 (w.heap.size + 1) 66 #[.string ⟨#[]⟩, .bool false, .slice none 0 0, .slice none 0 0, .slice none 0 0, .slice none 0 0] := (Blk.newAt (by simp)).kept hb1
    replace hb1 : Hid (Below w.heap.size w w1) := hid (bl_then (by exact blBy) hb1)
    have xa := Ba.cellF
    have ya := Ba.frz
    have za := Ba.lt
    have xr := Br.cellF
    have yr := Br.frz
    have zr := Br.lt
    go_wp2
    exact bodyPost_ret (v := .tuple #[.agg #[.string ⟨#[]⟩, .bool false, .slice none 0 0, .slice none 0 0, .slice none 0 0, .slice none 0 0], .int .i64 18]) (by simp [results, Tryz.results35, go_sem, xr, zr, yr]) rfl ⟨rfl, by have := hb1.out; exact blBy⟩
  obtain ⟨k, rfl⟩ := Int.eq_ofNat_of_zero_le (show 0 ≤ idx by omega)
  have hkl : k < l.length := by omega
  obtain ⟨tb, tof, rfl, hbl, -, c1, -⟩ := row6 h.row hkl
  have hne : l[k].t.enum = true := by simpa [hkl] using hno
  have r2 : ((k : Int) < 0) = False := eq_false r1
  have r4 : ((l.length : Int) ≤ (k : Int)) = False := eq_false r3
  have r5 : (k : Int) < (l.length : Int) := by omega
  rw [hne] at c1
  clear h hk hm hno r1 r3 hne
  go_enter Tryz.func35, Tryz.ntmps35
  go_wp2_with fail
  refine (HGC.out _ (by exact blBy)).mono ?_
  rintro e w1 ⟨rfl, hb1⟩
  have Ba : Blk w1 w.heap.size 46 #[.slice (some ⟨tb, tof, none⟩) l.length tc] := ((Blk.new _ _ _).kept (below_alloc _)).kept hb1
  have Br : Blk w1 (w.heap.size + 1) 66 #[.string ⟨#[]⟩, .bool false, .slice none 0 0, .slice none 0 0, .slice none 0 0, .slice none 0 0] := (Blk.newAt (by simp)).kept hb1
  replace hb1 : Hid (Below w.heap.size w w1) := hid (bl_then (by exact blBy) hb1)
  have d1 := cell_below c1 hb1.out
  have hbl1 : tb < w1.heap.size := World.block_lt_of_cell? _ _ d1
  clear c1
  have xa := Ba.cellF
  have ya := Ba.frz
  have za := Ba.lt
  have xr := Br.cellF
  have yr := Br.frz
  have zr := Br.lt
  go_wp2
  exact bodyPost_ret (v := .tuple #[.agg #[.string ⟨#[]⟩, .bool false, .slice none 0 0, .slice none 0 0, .slice none 0 0, .slice none 0 0], .int .i64 18]) (by simp [results, Tryz.results35, go_sem, xr, zr, yr]) rfl ⟨rfl, by have := hb1.out; exact blBy⟩
/-- Numbers that rise. -/
def riseM (l : List (CF CM)) : Bool := (List.range (l.length - 1)).all fun i => match l[i]?, l[i + 1]? with | some a, some b => decide (a.num < b.num) | _, _ => true
def riseS (l : List (CF CM)) (j : Nat) : Bool := (List.range' j (l.length - 1 - j)).all fun i => match l[i]?, l[i + 1]? with | some a, some b => decide (a.num < b.num) | _, _ => true
theorem riseS_zero (l : List (CF CM)) : riseM l = riseS l 0 := by unfold riseM riseS; rw [List.range_eq_range']; rfl
theorem riseS_step (l : List (CF CM)) (j : Nat) (h : j + 1 < l.length) : riseS l j = (decide (l[j].num < l[j + 1].num) && riseS l (j + 1)) := by
  unfold riseS
  rw [show l.length - 1 - j = (l.length - 1 - (j + 1)) + 1 by omega, List.range'_succ, List.all_cons]
  simp [h, show j < l.length by omega]
theorem riseS_end (l : List (CF CM)) (j : Nat) (h : l.length ≤ j + 1) : riseS l j = true := by
  unfold riseS
  rw [show l.length - 1 - j = 0 by omega]
  rfl
theorem doRiseM (w : World) (Z : Nat → Prop) (d : Nat) (xs : List (CF CM)) (a : Option Addr) (c : Nat) (h : FlsR w Z d (.slice a xs.length c) xs) : Calls Tryz.prog 113 #[.slice a xs.length c] w fun e w' => e = .returned (.bool (riseM xs)) ∧ Below w.heap.size w w' := by
  obtain ⟨_, _, e1, l1⟩ := RowM.sl h
  clear e1
  have m1 : (xs.length : Int) ≤ 9223372036854775807 := by omega
  have H1 := hid h
  clear h
  go_enter Tryz.func113, Tryz.ntmps113
  go_wp2
  go_loopw [3] (fun s3 wr => ∃ j : Nat, s3 = .int .i64 ((j : Int) + 1) ∧ (j ≤ xs.length) ∧ Hid (riseM xs = riseS xs j) ∧ Hid (Below w.heap.size w wr)) (fun s3 wr => xs.length + 1 - numAt wr s3)
  case atStart => exact ⟨0, rfl, by omega, hid (riseS_zero xs), hid (Below.refl _ _)⟩
  case round =>
    obtain ⟨j, rfl, hj, HA, hb⟩ := hrel
    by_cases hlt : j + 1 < xs.length
    · have k2 : (j : Int) + 1 < (xs.length : Int) := by omega
      have k3 : (j : Int) + 1 - 1 = (j : Int) := by omega
      have k4 : (j : Int) < (xs.length : Int) := by omega
      obtain ⟨b1, o1, ka1, kc1, va1, vc1, rfl, -, hb1, c0, -, -, -⟩ := fls_at (H1.out.kept hb.out) (show j < xs.length by omega)
      obtain ⟨b2, o2, ka2, kc2, va2, vc2, e2, -, -, d0, -, -, -⟩ := fls_at (H1.out.kept hb.out) hlt
      cases e2
      have HST := hid (riseS_step xs j hlt)
      generalize xs[j].num = p at *
      generalize xs[j + 1].num = q at *
      have e5 : ((j : Int) + 1).toNat = j + 1 := by omega
      by_cases hq : p < q
      · have hq2 : ¬ q ≤ p := by omega
        have HQ : Hid (riseM xs = riseS xs (j + 1)) := hid (by rw [HA.out, HST.out]; simp [hq])
        go_wp2
        go_quiet (fail)
        go_wp2
        exact ⟨⟨j + 1, by simp, by omega, HQ, hid (by have := hb.out; exact blBy)⟩, by simp [numAt]; omega⟩
      · have hq2 : q ≤ p := by omega
        have HQ : Hid (riseM xs = false) := hid (by rw [HA.out, HST.out]; simp [hq])
        go_wp2
        go_quiet (fail)
        go_wp2
        go_ret
        exact ⟨ret_bool HQ.out.symm, by have := hb.out; exact blBy⟩
    · have k2 : ¬ (j : Int) + 1 < (xs.length : Int) := by omega
      have HX : Hid (riseM xs = true) := hid (by rw [HA.out, riseS_end xs j (by omega)])
      go_wp2
      go_ret
      exact ⟨ret_bool HX.out.symm, hb.out⟩
/-- As many keys and values as a label has. -/
def shapeB (lab : Int) (f : CF CM) : Bool := if lab = 2 ∨ lab = 3 then decide (f.ks.length = 0) else if lab = 5 then decide (f.ks.length = f.vs.length) else decide (f.ks.length = 0) && decide (f.vs.length = 1)
theorem hasShapeM (w : World) (Z : Nat → Prop) (d : Nat) (lab : Int) (cs : List Value) (f : CF CM) (hf : FldE w Z (MsgE w Z d) cs f) : Calls Tryz.prog 145 #[.int .i64 lab, .agg cs.toArray] w fun e w' => e = .returned (.bool (shapeB lab f)) ∧ Below w.heap.size w w' := by
  obtain ⟨ka, kc, va, vc, rfl, -, -, l1, l2, -⟩ := fld_open hf
  clear hf
  have m1 : (f.ks.length : Int) ≤ 9223372036854775807 := by omega
  have m2 : (f.vs.length : Int) ≤ 9223372036854775807 := by omega
  have HX0 : Hid (shapeB lab f = if lab = 2 ∨ lab = 3 then decide (f.ks.length = 0) else if lab = 5 then decide (f.ks.length = f.vs.length) else decide (f.ks.length = 0) && decide (f.vs.length = 1)) := hid rfl
  by_cases h2 : lab = 2
  · subst h2
    have HX : Hid (shapeB 2 f = ((f.ks.length : Int) == 0)) := hid (by rw [HX0.out, if_pos (.inl rfl), Bool.eq_iff_iff]; simp)
    go_enter Tryz.func145, Tryz.ntmps145
    go_wp2
    go_ret
    exact ⟨ret_bool HX.out.symm, by exact blBy⟩
  by_cases h3 : lab = 3
  · subst h3
    have HX : Hid (shapeB 3 f = ((f.ks.length : Int) == 0)) := hid (by rw [HX0.out, if_pos (.inr rfl), Bool.eq_iff_iff]; simp)
    go_enter Tryz.func145, Tryz.ntmps145
    go_wp2
    go_ret
    exact ⟨ret_bool HX.out.symm, by exact blBy⟩
  by_cases h5 : lab = 5
  · subst h5
    have HX : Hid (shapeB 5 f = ((f.ks.length : Int) == (f.vs.length : Int))) := hid (by rw [HX0.out, if_neg (by decide), if_pos rfl, Bool.eq_iff_iff]; simp; omega)
    go_enter Tryz.func145, Tryz.ntmps145
    go_wp2
    go_ret
    exact ⟨ret_bool HX.out.symm, by exact blBy⟩
  have q2 : (lab == 2) = false := by simpa using h2
  have q3 : (lab == 3) = false := by simpa using h3
  have q5 : (lab == 5) = false := by simpa using h5
  by_cases h0 : f.ks.length = 0
  · have q0 : ((f.ks.length : Int) == 0) = true := by simp [h0]
    have HX : Hid (shapeB lab f = ((f.vs.length : Int) == 1)) := hid (by rw [HX0.out, if_neg (by omega), if_neg h5, Bool.eq_iff_iff]; simp [h0]; omega)
    clear h0
    go_enter Tryz.func145, Tryz.ntmps145
    go_wp2
    go_ret
    exact ⟨ret_bool HX.out.symm, by exact blBy⟩
  · have q0 : ((f.ks.length : Int) == 0) = false := by simpa using h0
    have HX : Hid (shapeB lab f = false) := hid (by rw [HX0.out, if_neg (by omega), if_neg h5]; simp [h0])
    clear h0
    go_enter Tryz.func145, Tryz.ntmps145
    go_wp2
    go_ret
    exact ⟨ret_bool HX.out.symm, by exact blBy⟩
/-- A type's field of a number, or the empty one. -/
def ownF (fs : List FT) (n : Int) : FT := (fs.find? (fun o => o.num == n)).getD ftZ
def hasF (fs : List FT) (n : Int) : Bool := (fs.find? (fun o => o.num == n)).isSome
theorem ownF_in {fs : List FT} {n : Int} (h : ownF fs n ≠ ftZ) : ownF fs n ∈ fs := by
  unfold ownF at *
  cases hq : fs.find? (fun o => o.num == n) with
  | none => rw [hq] at h; exact absurd rfl h
  | some o => exact List.mem_of_find?_eq_some hq
def tFT (o : FT) (b : Bool) : Value := .tuple #[.agg #[.string (strOfNums o.name), .int .i64 o.num, .int .i64 o.kind, .int .i64 o.ref, .int .i64 o.lab, .int .i64 o.one, .int .i64 o.key], .bool b]
theorem findT (fs : List FT) (n : Int) (w : World) (a : Option Addr) (c : Nat) (h : RowS w AnyZ 7 (.slice a fs.length c) fs.length (fs.flatMap cFT)) (hr : Rise fs) (hl : fs.length ≤ 128) : Calls Tryz.prog 74 #[.slice a fs.length c, .int .i64 n] w fun e w' => e = .returned (tFT (ownF fs n) (hasF fs n)) ∧ Below w.heap.size w w' := by
  unfold ownF hasF
  cases hq : fs.find? (fun o => o.num == n) with
  | none => exact fieldOfNo fs n w a c h hr hl (fun f hf => by have := List.find?_eq_none.1 hq f hf; simpa using this)
  | some o =>
    obtain ⟨k, hk, hke⟩ := List.mem_iff_getElem.1 (List.mem_of_find?_eq_some hq)
    have := List.find?_some hq
    have h2 := fieldOfOk fs n w a c h hr hl k hk (by rw [hke]; simpa using this)
    rw [hke] at h2
    exact h2
/-- Which oneofs are taken. -/
def takeA (T : Nat → Bool) : Array Value := ((List.range 128).map fun i => Value.bool (T i)).toArray
theorem takeA_at (T : Nat → Bool) {k : Nat} (hk : k < 128) : (takeA T)[k]? = some (.bool (T k)) := by simp [takeA, hk]
theorem takeA_set (T : Nat → Bool) (k : Nat) : (takeA T).setIfInBounds k (.bool true) = takeA (fun i => i == k || T i) := by
  apply Array.ext_getElem?
  intro i
  rw [Array.getElem?_setIfInBounds]
  unfold takeA
  by_cases hi : i < 128
  · by_cases hk : k = i
    · subst hk; simp [hi]
    · have : (i == k) = false := by simp; omega
      simp [hi, hk, this]
  · by_cases hk : k = i
    · subst hk; simp [hi]
    · simp [hk, hi]
def singleT (fs : List FT) : List (CF CM) → (Nat → Bool) → Bool
  | [], _ => true
  | f :: r, T => if (ownF fs f.num).lab = 4 then (if T (ownF fs f.num).one.toNat then false else singleT fs r (fun i => i == (ownF fs f.num).one.toNat || T i)) else singleT fs r T
def singleB (fs : List FT) (l : List (CF CM)) : Bool := singleT fs l (fun _ => false)
theorem areSingleM (w : World) (x : TV) (hx : TyR w x) (hr : Rise x.t.fs) (hl : x.t.fs.length ≤ 128) (ho : ∀ o ∈ x.t.fs, o.lab = 4 → 0 ≤ o.one ∧ o.one < 128) (Z : Nat → Prop) (d : Nat) (xs : List (CF CM)) (a : Option Addr) (c : Nat) (h : FlsR w Z d (.slice a xs.length c) xs) : Calls Tryz.prog 115 #[.agg (cTV x).toArray, .slice a xs.length c] w fun e w' => e = .returned (.bool (singleB x.t.fs xs)) ∧ Below w.heap.size w w' := by
  obtain ⟨_, _, e1, l1⟩ := RowM.sl h
  clear e1
  have m1 : (xs.length : Int) ≤ 9223372036854775807 := by omega
  have H1 := hid h
  obtain ⟨ta1, tc1, ta2, tc2, ta3, tc3, ta4, tc4, e1, e2, e3, e4⟩ := shT_of hx
  have ecx : cTV x = [.string (strOfNums x.t.name), .bool x.t.enum, .slice ta1 x.t.fs.length tc1, .slice ta2 x.t.os.length tc2, .slice ta3 x.t.ss.length tc3, .slice ta4 x.t.rs.length tc4] := by unfold cTV; rw [e1, e2, e3, e4]
  rw [ecx]
  have HFO := hid fun W (hW : Below w.heap.size w W) (n : Int) => findT x.t.fs n W ta1 tc1 (by rw [← e1]; exact (hx.kept hW).f) hr hl
  have HO := hid ho
  clear h hx ho e1 e2 e3 e4 ecx hr
  go_enter Tryz.func115, Tryz.ntmps115
  go_wp2
  go_loopw [12] (fun s12 wr => ∃ (j : Nat) (T : Nat → Bool), s12 = .int .i64 j ∧ j ≤ xs.length ∧ Hid (singleB x.t.fs xs = singleT x.t.fs (xs.drop j) T) ∧ Hid (Below w.heap.size w wr) ∧ Hid (Blk wr w.heap.size 66 #[.string (strOfNums x.t.name), .bool x.t.enum, .slice ta1 x.t.fs.length tc1, .slice ta2 x.t.os.length tc2, .slice ta3 x.t.ss.length tc3, .slice ta4 x.t.rs.length tc4]) ∧ Hid (Blk wr (w.heap.size + 1) 174 (takeA T))) (fun s12 wr => xs.length - numAt wr s12)
  case atStart => exact ⟨0, fun _ => false, rfl, by omega, hid rfl, hid (by exact blBy), hid ((Blk.new _ _ _).kept (below_alloc _)), hid ((Blk.newAt (by simp)).is (by kernel_rfl))⟩
  case round =>
    obtain ⟨j, T, rfl, hj, HA, hb, HB2, HB5⟩ := hrel
    by_cases hlt : j < xs.length
    · have k2 : (j : Int) < (xs.length : Int) := by omega
      obtain ⟨b1, o1, ka1, kc1, va1, vc1, rfl, -, hb1, c0, c1, c2, -⟩ := fls_at (H1.out.kept hb.out) hlt
      have HST : Hid (singleT x.t.fs (xs.drop j) T = if (ownF x.t.fs xs[j].num).lab = 4 then (if T (ownF x.t.fs xs[j].num).one.toNat then false else singleT x.t.fs (xs.drop (j + 1)) (fun i => i == (ownF x.t.fs xs[j].num).one.toNat || T i)) else singleT x.t.fs (xs.drop (j + 1)) T) := hid (by rw [List.drop_eq_getElem_cons hlt, singleT])
      generalize xs[j] = f at *
      have HFJ := hid fun W (hW : Below w.heap.size w W) => HFO.out W hW f.num
      have HOJ : Hid ((ownF x.t.fs f.num).lab = 4 → 0 ≤ (ownF x.t.fs f.num).one ∧ (ownF x.t.fs f.num).one < 128) := hid (fun hq => HO.out _ (ownF_in (fun e => by rw [e] at hq; exact absurd hq (by decide))) hq)
      generalize ownF x.t.fs f.num = o at *
      generalize hasF x.t.fs f.num = ok at *
      have x2 := HB2.out.cellF
      have z2 := HB2.out.lt
      go_wp2_with fail
      refine (HFJ.out _ (by have := hb.out; exact blBy)).mono ?_
      rintro e w1 ⟨rfl, hbx⟩
      unfold tFT
      have C2 := hid ((HB2.out.kept (below_alloc _)).kept hbx)
      have C5 := hid ((HB5.out.kept (below_alloc _)).kept hbx)
      have hbw : Hid (Below w.heap.size w w1) := hid (bl_then (by have := hb.out; exact blBy) hbx)
      clear hbx c0 c1 c2 x2 z2 HB2 HB5 hb hb1
      by_cases hq : o.lab = 4
      · obtain ⟨r0, r1⟩ := HOJ.out hq
        obtain ⟨k, hk⟩ := Int.eq_ofNat_of_zero_le r0
        have hk2 : k < 128 := by omega
        have ht : o.one.toNat = k := by omega
        rw [ht, if_pos hq] at HST
        have kn : (o.lab != 4) = false := by simp [hq]
        generalize o.one = one at *
        subst hk
        have k3 : (k : Int) < 128 := by omega
        have x5 : w1.cell? ⟨w.heap.size + 1, k, none⟩ = some (.bool (T k)) := C5.out.cell k _ (takeA_at T hk2)
        have y5 := C5.out.frz
        have z5 := C5.out.lt
        clear r0 r1 hq ht HOJ
        cases hT : T k with
        | true =>
          rw [hT, if_pos rfl] at HST
          rw [hT] at x5
          have HX : Hid (singleB x.t.fs xs = false) := hid (by rw [HA.out, HST.out])
          go_wp2
          go_ret
          exact ⟨ret_bool HX.out.symm, by have := hbw.out; exact blBy⟩
        | false =>
          rw [hT, if_neg (by decide)] at HST
          rw [hT] at x5
          go_wp2
          refine ⟨⟨j + 1, fun i => i == k || T i, by simp, by omega, hid (by rw [HA.out, HST.out]), hid (by have := hbw.out; exact blBy), hid ?_, hid ?_⟩, by simp [numAt]; omega⟩
          · exact Blk.kept (show Blk _ _ _ _ from (Below.heap_setCell _ _ _ _ (by simp)).trans C2.out) (below_alloc _)
          · exact ((C5.out.set k (.bool true)).is (takeA_set T k)).kept (below_alloc _)
      · have kn : (o.lab != 4) = true := by simpa using hq
        rw [if_neg hq] at HST
        go_wp2
        exact ⟨⟨j + 1, T, by simp, by omega, hid (by rw [HA.out, HST.out]), hid (by have := hbw.out; exact blBy), hid (C2.out.kept (by exact blBy)), hid (C5.out.kept (by exact blBy))⟩, by simp [numAt]; omega⟩
    · have k2 : ¬ (j : Int) < (xs.length : Int) := by omega
      have HX : Hid (singleB x.t.fs xs = true) := hid (by rw [HA.out, List.drop_of_length_le (by omega)]; rfl)
      go_wp2
      go_ret
      exact ⟨ret_bool HX.out.symm, hb.out⟩
def wid (n : Int) : Int := if n < 2147483648 then n else n + 18446744069414584320
def khold (k n : Int) : Bool := if k = 1 then decide (n ≤ 1) else if k = 2 ∨ k = 6 ∨ k = 10 then decide (n < 2147483648 ∨ 18446744071562067968 ≤ n) else if k = 4 ∨ k = 8 ∨ k = 12 then decide (n ≤ 4294967295) else if k = 16 then decide (n ≤ 2147483647) else true
def nfit (k n : Int) : Bool := knum k && khold k n
def vfit (k n : Int) (lb lm : Nat) : Bool := decide (lm = 0) && (if k = 14 ∨ k = 15 then decide (n = 0) else decide (lb = 0) && nfit k n)
theorem widenedW (n : Int) (w : World) (h0 : 0 ≤ n) (h1 : n < 4294967296) : Calls Tryz.prog 213 #[.int .u32 n] w fun e w' => e = .returned (.int .u64 (wid n)) ∧ w = w' := by
  go_enter Tryz.func213, Tryz.ntmps213
  go_wp2
  go_ret
  refine ⟨ret_int ?_, rfl⟩
  unfold wid
  rw [IntKind.wrap_u64]
  unfold wrap32
  split <;> omega
theorem widens (n : Int) (h0 : 0 ≤ n) (h1 : n < 18446744073709551616) : (n == wid (n % 4294967296)) = decide (n < 2147483648 ∨ 18446744071562067968 ≤ n) := by
  unfold wid
  rw [show (n == if n % 4294967296 < 2147483648 then n % 4294967296 else n % 4294967296 + 18446744069414584320) = decide (n = if n % 4294967296 < 2147483648 then n % 4294967296 else n % 4294967296 + 18446744069414584320) from rfl]
  rw [decide_eq_decide]
  split <;> omega
theorem numberFitsW (k n : Int) (w : World) (h0 : 0 ≤ n) (h1 : n < 18446744073709551616) : Calls Tryz.prog 194 #[.int .i64 k, .int .u64 n] w fun e w' => e = .returned (.bool (nfit k n)) ∧ w = w' := by
  have HN : Hid (∀ (k : Int) (w : World), Calls Tryz.prog 133 #[.int .i64 k] w fun e w' => e = .returned (.bool (knum k)) ∧ w = w') := hid numericW
  have HW := hid (widens n h0 h1)
  rcases kinds k with rfl | rfl | rfl | rfl | rfl | rfl | rfl | rfl | rfl | rfl | rfl | rfl | rfl | rfl | rfl | rfl | rfl | h | h
  iterate 17 (next => go_enter Tryz.func194, Tryz.ntmps194; go_wp2_with (first | (go_at_call 133; refine (HN.out _ _).mono ?_; rintro e w' ⟨rfl, rfl⟩) | (go_at_call 213; refine (widenedW _ _ (by omega) (by omega)).mono ?_; rintro e w' ⟨rfl, rfl⟩)); go_ret; first | exact ⟨rfl, rfl⟩ | exact ⟨ret_bool HW.out, rfl⟩)
  · obtain ⟨e1, e2, e3, e4, e5, e6, e7, e8, e9, e10, e11, e12, e13, e14, e15, e16, e17⟩ := noKind (.inl h)
    have H : Hid (knum k = nfit k n) := hid (by unfold nfit; rw [knum_no (.inl h)]; rfl)
    clear h
    go_enter Tryz.func194, Tryz.ntmps194
    go_wp2_with (go_at_call 133; refine (HN.out _ _).mono ?_; rintro e w' ⟨rfl, rfl⟩)
    go_ret
    exact ⟨ret_bool H.out, rfl⟩
  · obtain ⟨e1, e2, e3, e4, e5, e6, e7, e8, e9, e10, e11, e12, e13, e14, e15, e16, e17⟩ := noKind (.inr h)
    have H : Hid (knum k = nfit k n) := hid (by unfold nfit; rw [knum_no (.inr h)]; rfl)
    clear h
    go_enter Tryz.func194, Tryz.ntmps194
    go_wp2_with (go_at_call 133; refine (HN.out _ _).mono ?_; rintro e w' ⟨rfl, rfl⟩)
    go_ret
    exact ⟨ret_bool H.out, rfl⟩
theorem holds32 (n : Int) (h0 : 0 ≤ n) (h1 : n < 18446744073709551616) : ∃ b c : Bool, decide (-2147483648 ≤ wrap64 n) = b ∧ decide (wrap64 n < 2147483648) = c ∧ (b && c) = decide (n < 2147483648 ∨ 18446744071562067968 ≤ n) := by
  refine ⟨_, _, rfl, rfl, ?_⟩
  rw [← Bool.decide_and, decide_eq_decide]
  unfold wrap64
  omega
theorem holdsE (n : Int) (h0 : 0 ≤ n) (h1 : n < 18446744073709551616) : ∃ b c : Bool, decide (0 ≤ wrap64 n) = b ∧ decide (wrap64 n < 2147483648) = c ∧ (b && c) = decide (n ≤ 2147483647) := by
  refine ⟨_, _, rfl, rfl, ?_⟩
  rw [← Bool.decide_and, decide_eq_decide]
  unfold wrap64
  omega
theorem lt_two (n : Int) : decide (n < 2) = decide (n ≤ 1) := by rw [decide_eq_decide]; omega
theorem lt_32 (n : Int) : decide (n < 4294967296) = decide (n ≤ 4294967295) := by rw [decide_eq_decide]; omega
theorem holdsR (k n : Int) (w : World) (h0 : 0 ≤ n) (h1 : n < 18446744073709551616) : Calls Tryz.prog 121 #[.int .i64 k, .int .u64 n] w fun e w' => e = .returned (.bool (khold k n)) ∧ w = w' := by
  rcases kinds k with rfl | rfl | rfl | rfl | rfl | rfl | rfl | rfl | rfl | rfl | rfl | rfl | rfl | rfl | rfl | rfl | rfl | h | h
  next => go_enter Tryz.func121, Tryz.ntmps121; go_wp2; go_ret; exact ⟨ret_bool (lt_two n), rfl⟩
  next =>
    obtain ⟨b, c, hb, hc, hd⟩ := holds32 n h0 h1
    have H := hid hd
    clear hd
    cases b <;> cases c
    all_goals (go_enter Tryz.func121, Tryz.ntmps121; go_wp2; go_ret; exact ⟨ret_bool H.out, rfl⟩)
  next => go_enter Tryz.func121, Tryz.ntmps121; go_wp2; go_ret; exact ⟨rfl, rfl⟩
  next => go_enter Tryz.func121, Tryz.ntmps121; go_wp2; go_ret; exact ⟨ret_bool (lt_32 n), rfl⟩
  next => go_enter Tryz.func121, Tryz.ntmps121; go_wp2; go_ret; exact ⟨rfl, rfl⟩
  next =>
    obtain ⟨b, c, hb, hc, hd⟩ := holds32 n h0 h1
    have H := hid hd
    clear hd
    cases b <;> cases c
    all_goals (go_enter Tryz.func121, Tryz.ntmps121; go_wp2; go_ret; exact ⟨ret_bool H.out, rfl⟩)
  next => go_enter Tryz.func121, Tryz.ntmps121; go_wp2; go_ret; exact ⟨rfl, rfl⟩
  next => go_enter Tryz.func121, Tryz.ntmps121; go_wp2; go_ret; exact ⟨ret_bool (lt_32 n), rfl⟩
  next => go_enter Tryz.func121, Tryz.ntmps121; go_wp2; go_ret; exact ⟨rfl, rfl⟩
  next =>
    obtain ⟨b, c, hb, hc, hd⟩ := holds32 n h0 h1
    have H := hid hd
    clear hd
    cases b <;> cases c
    all_goals (go_enter Tryz.func121, Tryz.ntmps121; go_wp2; go_ret; exact ⟨ret_bool H.out, rfl⟩)
  next => go_enter Tryz.func121, Tryz.ntmps121; go_wp2; go_ret; exact ⟨rfl, rfl⟩
  next => go_enter Tryz.func121, Tryz.ntmps121; go_wp2; go_ret; exact ⟨ret_bool (lt_32 n), rfl⟩
  next => go_enter Tryz.func121, Tryz.ntmps121; go_wp2; go_ret; exact ⟨rfl, rfl⟩
  next => go_enter Tryz.func121, Tryz.ntmps121; go_wp2; go_ret; exact ⟨rfl, rfl⟩
  next => go_enter Tryz.func121, Tryz.ntmps121; go_wp2; go_ret; exact ⟨rfl, rfl⟩
  next =>
    obtain ⟨b, c, hb, hc, hd⟩ := holdsE n h0 h1
    have H := hid hd
    clear hd
    cases b <;> cases c
    all_goals (go_enter Tryz.func121, Tryz.ntmps121; go_wp2; go_ret; exact ⟨ret_bool H.out, rfl⟩)
  next => go_enter Tryz.func121, Tryz.ntmps121; go_wp2; go_ret; exact ⟨rfl, rfl⟩
  · obtain ⟨e1, e2, e3, e4, e5, e6, e7, e8, e9, e10, e11, e12, e13, e14, e15, e16, e17⟩ := noKind (.inl h)
    have H : Hid (true = khold k n) := hid (by unfold khold; rw [if_neg (by omega), if_neg (by omega), if_neg (by omega), if_neg (by omega)])
    clear h
    go_enter Tryz.func121, Tryz.ntmps121
    go_wp2
    go_ret
    exact ⟨ret_bool H.out, rfl⟩
  · obtain ⟨e1, e2, e3, e4, e5, e6, e7, e8, e9, e10, e11, e12, e13, e14, e15, e16, e17⟩ := noKind (.inr h)
    have H : Hid (true = khold k n) := hid (by unfold khold; rw [if_neg (by omega), if_neg (by omega), if_neg (by omega), if_neg (by omega)])
    clear h
    go_enter Tryz.func121, Tryz.ntmps121
    go_wp2
    go_ret
    exact ⟨ret_bool H.out, rfl⟩
theorem vfit_m {k n : Int} {lb lm : Nat} (h : lm ≠ 0) : vfit k n lb lm = false := by simp [vfit, h]
theorem vfit_14 {n : Int} {lb : Nat} : vfit 14 n lb 0 = (n == 0) := by simp [vfit]; rfl
theorem vfit_15 {n : Int} {lb : Nat} : vfit 15 n lb 0 = (n == 0) := by simp [vfit]; rfl
theorem vfit_b {k n : Int} {lb : Nat} (h : lb ≠ 0) (h1 : k ≠ 14) (h2 : k ≠ 15) : vfit k n lb 0 = false := by simp [vfit, h, h1, h2]
theorem vfit_n {k n : Int} (h1 : k ≠ 14) (h2 : k ≠ 15) : vfit k n 0 0 = nfit k n := by simp [vfit, h1, h2]
theorem nfit_h {k n : Int} (h : 1 ≤ k) (h1 : k ≤ 16) (h2 : k ≠ 14) (h3 : k ≠ 15) : nfit k n = khold k n := by
  have e : knum k = true := by unfold knum; simp; omega
  unfold nfit; rw [e]; rfl
theorem vfit_k {k n : Int} {lb lm : Nat} (h : k < 1 ∨ 16 < k) : vfit k n lb lm = false := by
  have e : knum k = false := by unfold knum; simp; omega
  unfold vfit nfit
  rw [if_neg (by omega), e]
  simp
section
variable (k n : Int) (a am : Option Addr) (len cap lm cm : Nat) (w : World)
theorem fitsW (h0 : 0 ≤ n) (h1 : n < 18446744073709551616) (hl : len ≤ 9223372036854775807) (hm : lm ≤ 9223372036854775807) : Calls Tryz.prog 174 #[.int .i64 k, .agg #[.int .u64 n, .slice a len cap, .slice am lm cm]] w fun e w' => e = .returned (.bool (vfit k n len lm)) ∧ Below w.heap.size w w' := by
  by_cases hm0 : lm = 0
  · subst hm0
    by_cases h14 : k = 14
    · subst h14
      rw [vfit_14]
      go_enter Tryz.func174, Tryz.ntmps174
      go_wp2
      go_ret
      exact ⟨rfl, below_alloc _⟩
    by_cases h15 : k = 15
    · subst h15
      rw [vfit_15]
      go_enter Tryz.func174, Tryz.ntmps174
      go_wp2
      go_ret
      exact ⟨rfl, below_alloc _⟩
    have e14 : (k == 14) = false := by simpa using h14
    have e15 : (k == 15) = false := by simpa using h15
    by_cases hb : len = 0
    · subst hb
      rw [vfit_n h14 h15]
      clear h14 h15
      go_enter Tryz.func174, Tryz.ntmps174
      go_wp2_with (go_at_call 194; refine (numberFitsW k n _ h0 h1).mono ?_; rintro e w' ⟨rfl, rfl⟩)
      go_ret
      exact ⟨rfl, below_alloc _⟩
    · rw [vfit_b hb h14 h15]
      have eb : ((len : Int) == 0) = false := by simpa using hb
      clear h14 h15 hb
      go_enter Tryz.func174, Tryz.ntmps174
      go_wp2
      go_ret
      exact ⟨rfl, below_alloc _⟩
  · rw [vfit_m hm0]
    have em : 0 < (lm : Int) := by omega
    clear hm0
    go_enter Tryz.func174, Tryz.ntmps174
    go_wp2
    go_ret
    exact ⟨rfl, below_alloc _⟩
theorem fitsR (h0 : 0 ≤ n) (h1 : n < 18446744073709551616) (hl : len ≤ 9223372036854775807) (hm : lm ≤ 9223372036854775807) : Calls Tryz.prog 81 #[.int .i64 k, .agg #[.int .u64 n, .slice a len cap, .slice am lm cm]] w fun e w' => e = .returned (.bool (vfit k n len lm)) ∧ Below w.heap.size w w' := by
  by_cases hk1 : k < 1
  · rw [vfit_k (.inl hk1)]
    go_enter Tryz.func81, Tryz.ntmps81
    go_wp2
    go_ret
    exact ⟨rfl, below_alloc _⟩
  by_cases hk2 : 16 < k
  · rw [vfit_k (.inr hk2)]
    go_enter Tryz.func81, Tryz.ntmps81
    go_wp2
    go_ret
    exact ⟨rfl, below_alloc _⟩
  by_cases hm0 : lm = 0
  · subst hm0
    by_cases h14 : k = 14
    · subst h14
      rw [vfit_14]
      go_enter Tryz.func81, Tryz.ntmps81
      go_wp2
      go_ret
      exact ⟨rfl, below_alloc _⟩
    by_cases h15 : k = 15
    · subst h15
      rw [vfit_15]
      go_enter Tryz.func81, Tryz.ntmps81
      go_wp2
      go_ret
      exact ⟨rfl, below_alloc _⟩
    have e14 : (k == 14) = false := by simpa using h14
    have e15 : (k == 15) = false := by simpa using h15
    by_cases hb : len = 0
    · subst hb
      rw [vfit_n h14 h15, nfit_h (by omega) (by omega) h14 h15]
      clear h14 h15
      go_enter Tryz.func81, Tryz.ntmps81
      go_wp2_with (go_at_call 121; refine (holdsR k n _ h0 h1).mono ?_; rintro e w' ⟨rfl, rfl⟩)
      go_ret
      exact ⟨rfl, below_alloc _⟩
    · rw [vfit_b hb h14 h15]
      have eb : ((len : Int) == 0) = false := by simpa using hb
      clear h14 h15 hb
      go_enter Tryz.func81, Tryz.ntmps81
      go_wp2
      go_ret
      exact ⟨rfl, below_alloc _⟩
  · rw [vfit_m hm0]
    have em : 0 < (lm : Int) := by omega
    clear hm0
    go_enter Tryz.func81, Tryz.ntmps81
    go_wp2
    go_ret
    exact ⟨rfl, below_alloc _⟩
end
/-- The three bytes of the character FFFD stand ahead. -/
def pre (l : List Int) : Prop := l.take 3 = [239, 191, 189]
section
variable {s : ByteArray} {pos : Nat}
theorem dec_none (h : 128 ≤ (s.get! pos).toNat) (hc : (s.get! pos).toNat < 192 ∨ 248 ≤ (s.get! pos).toNat) : Utf8.decode s pos = (65533, 1) := by
  have h1 : ¬ (s.get! pos).toNat < 128 := by omega
  have h2 : ¬ (s.get! pos).toNat / 32 = 6 := by omega
  have h3 : ¬ (s.get! pos).toNat / 16 = 14 := by omega
  have h4 : ¬ (s.get! pos).toNat / 8 = 30 := by omega
  simp only [Utf8.decode, Nat.add_zero, h1, if_false, Utf8.runeError]
  simp [h2, h3, h4]
theorem dec_two (h0 : 192 ≤ (s.get! pos).toNat) (h : (s.get! pos).toNat < 224) :
    Utf8.decode s pos = if (pos + 1 < s.size ∧ (s.get! (pos + 1)).toNat / 64 = 2) ∧ 128 ≤ (s.get! pos).toNat % 32 * 64 + (s.get! (pos + 1)).toNat % 64 then ((s.get! pos).toNat % 32 * 64 + (s.get! (pos + 1)).toNat % 64, 2) else (65533, 1) := by
  have h1 : ¬ (s.get! pos).toNat < 128 := by omega
  have h2 : (s.get! pos).toNat / 32 = 6 := by omega
  have h3 : ¬ (s.get! pos).toNat / 16 = 14 := by omega
  have h4 : ¬ (s.get! pos).toNat / 8 = 30 := by omega
  simp only [Utf8.decode, Nat.add_zero, h1, if_false, Utf8.runeError]
  by_cases k1 : pos + 1 < s.size ∧ (s.get! (pos + 1)).toNat / 64 = 2
  · simp [h2, k1]
  · simp only [k1, false_and, if_false]
    simp only [not_and] at k1
    by_cases k2 : pos + 1 < s.size
    · simp [h3, h4, k2, k1 k2]
    · simp [k2]
theorem dec_three (h0 : 224 ≤ (s.get! pos).toNat) (h : (s.get! pos).toNat < 240) :
    Utf8.decode s pos = if ((pos + 1 < s.size ∧ (s.get! (pos + 1)).toNat / 64 = 2) ∧ (pos + 2 < s.size ∧ (s.get! (pos + 2)).toNat / 64 = 2)) ∧ (2048 ≤ (s.get! pos).toNat % 16 * 4096 + (s.get! (pos + 1)).toNat % 64 * 64 + (s.get! (pos + 2)).toNat % 64 ∧ Utf8.valid ((s.get! pos).toNat % 16 * 4096 + (s.get! (pos + 1)).toNat % 64 * 64 + (s.get! (pos + 2)).toNat % 64 : Nat) = true) then ((s.get! pos).toNat % 16 * 4096 + (s.get! (pos + 1)).toNat % 64 * 64 + (s.get! (pos + 2)).toNat % 64, 3) else (65533, 1) := by
  have h1 : ¬ (s.get! pos).toNat < 128 := by omega
  have h2 : ¬ (s.get! pos).toNat / 32 = 6 := by omega
  have h3 : (s.get! pos).toNat / 16 = 14 := by omega
  have h4 : ¬ (s.get! pos).toNat / 8 = 30 := by omega
  simp only [Utf8.decode, Nat.add_zero, h1, if_false, Utf8.runeError]
  by_cases k1 : (pos + 1 < s.size ∧ (s.get! (pos + 1)).toNat / 64 = 2) ∧ (pos + 2 < s.size ∧ (s.get! (pos + 2)).toNat / 64 = 2)
  · obtain ⟨⟨a, b⟩, c, d⟩ := k1
    simp only [a, b, c, d, h3]
    simp [h2]
  · have e : ((s.get! pos).toNat / 16 == 14 && (decide (pos + 1 < s.size) && (s.get! (pos + 1)).toNat / 64 == 2) && (decide (pos + 2 < s.size) && (s.get! (pos + 2)).toNat / 64 == 2)) = false := by
      rw [Bool.eq_false_iff]
      intro hh
      simp only [Bool.and_eq_true, decide_eq_true_eq, beq_iff_eq] at hh
      exact k1 ⟨hh.1.2, hh.2⟩
    simp only [e]
    simp [h2, h4]
    intro a b c d
    exact absurd ⟨⟨a, b⟩, c, d⟩ k1
theorem dec_four (h0 : 240 ≤ (s.get! pos).toNat) (h : (s.get! pos).toNat < 248) :
    Utf8.decode s pos = if ((pos + 1 < s.size ∧ (s.get! (pos + 1)).toNat / 64 = 2) ∧ (pos + 2 < s.size ∧ (s.get! (pos + 2)).toNat / 64 = 2) ∧ (pos + 3 < s.size ∧ (s.get! (pos + 3)).toNat / 64 = 2)) ∧ (65536 ≤ (s.get! pos).toNat % 8 * 262144 + (s.get! (pos + 1)).toNat % 64 * 4096 + (s.get! (pos + 2)).toNat % 64 * 64 + (s.get! (pos + 3)).toNat % 64 ∧ Utf8.valid ((s.get! pos).toNat % 8 * 262144 + (s.get! (pos + 1)).toNat % 64 * 4096 + (s.get! (pos + 2)).toNat % 64 * 64 + (s.get! (pos + 3)).toNat % 64 : Nat) = true) then ((s.get! pos).toNat % 8 * 262144 + (s.get! (pos + 1)).toNat % 64 * 4096 + (s.get! (pos + 2)).toNat % 64 * 64 + (s.get! (pos + 3)).toNat % 64, 4) else (65533, 1) := by
  have h1 : ¬ (s.get! pos).toNat < 128 := by omega
  have h2 : ¬ (s.get! pos).toNat / 32 = 6 := by omega
  have h3 : ¬ (s.get! pos).toNat / 16 = 14 := by omega
  have h4 : (s.get! pos).toNat / 8 = 30 := by omega
  simp only [Utf8.decode, Nat.add_zero, h1, if_false, Utf8.runeError]
  by_cases k1 : (pos + 1 < s.size ∧ (s.get! (pos + 1)).toNat / 64 = 2) ∧ (pos + 2 < s.size ∧ (s.get! (pos + 2)).toNat / 64 = 2) ∧ (pos + 3 < s.size ∧ (s.get! (pos + 3)).toNat / 64 = 2)
  · obtain ⟨⟨a, b⟩, ⟨c, d⟩, e, f⟩ := k1
    simp only [a, b, c, d, e, f, h4]
    simp [h2, h3]
  · have e : ((s.get! pos).toNat / 8 == 30 && (decide (pos + 1 < s.size) && (s.get! (pos + 1)).toNat / 64 == 2) && (decide (pos + 2 < s.size) && (s.get! (pos + 2)).toNat / 64 == 2) && (decide (pos + 3 < s.size) && (s.get! (pos + 3)).toNat / 64 == 2)) = false := by
      rw [Bool.eq_false_iff]
      intro hh
      simp only [Bool.and_eq_true, decide_eq_true_eq, beq_iff_eq] at hh
      exact k1 ⟨hh.1.1.2, hh.1.2, hh.2⟩
    simp only [e]
    simp [h2, h3]
    intro a b c d e f
    exact absurd ⟨⟨a, b⟩, ⟨c, d⟩, e, f⟩ k1
end
theorem get_num {xs : List Int} (hb : ∀ x ∈ xs, 0 ≤ x ∧ x ≤ 255) (j : Nat) : (((strOfNums xs).get! j).toNat : Int) = xs.getD j 0 := by
  by_cases h : j < xs.length
  · have h' : j < (strOfNums xs).size := by rw [strOfNums_size]; exact h
    have e := get_at (strOfNums xs) j h'
    rw [Nat.add_zero] at e
    rw [e]
    have e2 : (strOfNums xs)[j]'h' = UInt8.ofNat (xs[j]).toNat := by
      show (strOfNums xs).data[j] = _
      simp [strOfNums]
    have := hb xs[j] (List.getElem_mem h)
    rw [e2]
    simp [h]
    omega
  · have e : (strOfNums xs).get! j = 0 := by
      have h' : ¬ j < (strOfNums xs).data.size := by simpa [strOfNums] using h
      simp only [ByteArray.get!]
      rw [getElem!_neg (strOfNums xs).data j h']
      rfl
    rw [e]
    simp [h]
theorem valid_nat (n : Nat) : Utf8.valid (n : Int) = true ↔ n ≤ 1114111 ∧ ¬ (55296 ≤ n ∧ n ≤ 57343) := by
  simp only [Utf8.valid, Bool.or_eq_true, Bool.and_eq_true, decide_eq_true_eq]
  omega
theorem okV_iff (v low : Int) : okV v low = true ↔ low ≤ v ∧ v ≤ 1114111 ∧ ¬ (55296 ≤ v ∧ v ≤ 57343) := by unfold okV; exact decide_eq_true_iff
theorem out_none {D : Nat × Nat} {l : List Int} {k : Nat} (hk : k = 0) (hD : D = (65533, 1)) (hp : ¬ pre l) : (k = 0 → D = (65533, 1) ∧ ¬ pre l) ∧ (k ≠ 0 → D.2 = k ∧ (D.1 = 65533 → pre l)) := ⟨fun _ => ⟨hD, hp⟩, fun h => absurd hk h⟩
theorem out_some {D : Nat × Nat} {l : List Int} {k n v : Nat} (hk : k = n) (hn : n ≠ 0) (hD : D = (v, n)) (hp : v = 65533 → pre l) : (k = 0 → D = (65533, 1) ∧ ¬ pre l) ∧ (k ≠ 0 → D.2 = k ∧ (D.1 = 65533 → pre l)) := by
  subst hk hD
  exact ⟨fun h => absurd h hn, fun _ => ⟨rfl, hp⟩⟩
/-- What ranging over a string tells at a place, by the width of the character that stands there. -/
theorem dec_chr {xs : List Int} (hb : ∀ x ∈ xs, 0 ≤ x ∧ x ≤ 255) {pos : Nat} (h : pos < xs.length) :
    (chr (xs.drop pos) = 0 → Utf8.decode (strOfNums xs) pos = (65533, 1) ∧ ¬ pre (xs.drop pos)) ∧
    (chr (xs.drop pos) ≠ 0 → (Utf8.decode (strOfNums xs) pos).2 = chr (xs.drop pos) ∧ ((Utf8.decode (strOfNums xs) pos).1 = 65533 → pre (xs.drop pos))) := by
  have g : ∀ k, (((strOfNums xs).get! (pos + k)).toNat : Int) = (xs.drop pos).getD k 0 := fun k => by rw [get_num hb]; simp
  have sz : ∀ k, pos + k < (strOfNums xs).size ↔ k < (xs.drop pos).length := fun k => by rw [strOfNums_size]; simp; omega
  have hb' : ∀ x ∈ xs.drop pos, 0 ≤ x ∧ x ≤ 255 := fun x hx => hb x (List.mem_of_mem_drop hx)
  have hne : xs.drop pos ≠ [] := by simp; omega
  generalize xs.drop pos = l at *
  have g0 := g 0; have g1 := g 1; have g2 := g 2; have g3 := g 3
  have z1 := sz 1; have z2 := sz 2; have z3 := sz 3
  clear g sz
  rw [Nat.add_zero] at g0
  obtain ⟨c, r, rfl⟩ : ∃ c r, l = c :: r := by cases l with
    | nil => exact absurd rfl hne
    | cons c r => exact ⟨c, r, rfl⟩
  have hc := hb' c (by simp)
  simp only [List.getD_cons_zero, List.getD_cons_succ] at g0 g1 g2 g3
  simp only [List.length_cons] at z1 z2 z3
  rw [chr_cons]
  by_cases c1 : c < 128
  · have hs : szF c = 1 := by simp [szF, c1]
    have e : Utf8.decode (strOfNums xs) pos = (((strOfNums xs).get! pos).toNat, 1) := by
      simp only [Utf8.decode, Nat.add_zero]
      rw [if_pos (by omega)]
    have hok : okV (ctF r (szF c - 1) (v0F c)) (lowF c) = true := by
      rw [hs, okV_iff]; simp [v0F, lowF, c1, ctF]; omega
    rw [hok, hs, e]
    exact ⟨fun h => by simp at h, fun _ => ⟨rfl, fun h => by simp at h; omega⟩⟩
  by_cases c2 : c < 192 ∨ 248 ≤ c
  · have hs : szF c = 0 := by unfold szF; (repeat' split) <;> omega
    rw [hs, dec_none (by omega) (by omega)]
    refine ⟨fun _ => ⟨rfl, fun h => ?_⟩, fun h => by simp at h⟩
    unfold pre at h
    simp at h
    omega
  by_cases c3 : c < 224
  · have hs : szF c = 2 := by unfold szF; (repeat' split) <;> omega
    have hv : v0F c = c - 192 := by simp [v0F, c1, c3]
    have hl : lowF c = 128 := by simp [lowF, c1, c3]
    have hp : ¬ pre (c :: r) := fun h => by unfold pre at h; simp at h; omega
    rw [dec_two (by omega) (by omega), hs, hv, hl]
    cases r with
    | nil =>
      have e : okV (ctF [] (2 - 1) (c - 192)) 128 = false := by simp [ctF, okV]
      exact out_none (by rw [e]; rfl) (if_neg (fun h => by have := z1.1 h.1.1; simp at this)) hp
    | cons d r =>
      have hd := hb' d (by simp)
      simp only [List.getD_cons_zero] at g1
      by_cases hbad : d < 128 ∨ 192 ≤ d
      · have e : okV (ctF (d :: r) (2 - 1) (c - 192)) 128 = false := by simp [ctF, hbad, okV]
        exact out_none (by rw [e]; rfl) (if_neg (fun h => by omega)) hp
      · have e : ctF (d :: r) (2 - 1) (c - 192) = (c - 192) * 64 + d - 128 := by simp [ctF, hbad]
        rw [e]
        have hz : pos + 1 < (strOfNums xs).size := z1.2 (by simp)
        by_cases hok : okV ((c - 192) * 64 + d - 128) 128 = true
        · have hok' := (okV_iff _ _).1 hok
          exact out_some (by rw [hok]; rfl) (by decide) (if_pos ⟨⟨hz, by omega⟩, by omega⟩) (fun h => by omega)
        · have hok' := fun h => hok ((okV_iff _ _).2 h)
          exact out_none (by rw [if_neg (by decide), if_neg hok]) (if_neg (fun h => hok' (by omega))) hp
  by_cases c4 : c < 240
  · have hs : szF c = 3 := by unfold szF; (repeat' split) <;> omega
    have hv : v0F c = c - 224 := by simp [v0F, c1, c3, c4]
    have hl : lowF c = 2048 := by simp [lowF, c1, c3, c4]
    rw [dec_three (by omega) (by omega), hs, hv, hl]
    cases r with
    | nil =>
      have hp : ¬ pre [c] := fun h => by unfold pre at h; simp at h
      have e : okV (ctF [] (3 - 1) (c - 224)) 2048 = false := by simp [ctF, okV]
      exact out_none (by rw [e]; rfl) (if_neg (fun h => by have := z1.1 h.1.1.1; simp at this)) hp
    | cons d r =>
    have hd := hb' d (by simp)
    simp only [List.getD_cons_zero, List.getD_cons_succ] at g1 g2
    by_cases hbad : d < 128 ∨ 192 ≤ d
    · have hp : ¬ pre (c :: d :: r) := fun h => by unfold pre at h; simp at h; omega
      have e : okV (ctF (d :: r) (3 - 1) (c - 224)) 2048 = false := by simp [ctF, hbad, okV]
      exact out_none (by rw [e]; rfl) (if_neg (fun h => by omega)) hp
    cases r with
    | nil =>
      have hp : ¬ pre [c, d] := fun h => by unfold pre at h; simp at h
      have e : okV (ctF [d] (3 - 1) (c - 224)) 2048 = false := by simp [ctF, hbad, okV]
      exact out_none (by rw [e]; rfl) (if_neg (fun h => by have := z2.1 h.1.2.1; simp at this)) hp
    | cons x r =>
    have hx := hb' x (by simp)
    simp only [List.getD_cons_zero] at g2
    by_cases hbx : x < 128 ∨ 192 ≤ x
    · have hp : ¬ pre (c :: d :: x :: r) := fun h => by unfold pre at h; simp at h; omega
      have e : okV (ctF (d :: x :: r) (3 - 1) (c - 224)) 2048 = false := by simp [ctF, hbad, hbx, okV]
      exact out_none (by rw [e]; rfl) (if_neg (fun h => by omega)) hp
    · have e : ctF (d :: x :: r) (3 - 1) (c - 224) = ((c - 224) * 64 + d - 128) * 64 + x - 128 := by simp [ctF, hbad, hbx]
      rw [e]
      have hz : pos + 1 < (strOfNums xs).size := z1.2 (by simp)
      have hz2 : pos + 2 < (strOfNums xs).size := z2.2 (by simp)
      by_cases hok : okV (((c - 224) * 64 + d - 128) * 64 + x - 128) 2048 = true
      · have hok' := (okV_iff _ _).1 hok
        refine out_some (by rw [hok]; rfl) (by decide) (if_pos ⟨⟨⟨hz, by omega⟩, hz2, by omega⟩, by omega, (valid_nat _).2 (by omega)⟩) (fun h => ?_)
        unfold pre
        simp
        omega
      · have hok' := fun h => hok ((okV_iff _ _).2 h)
        have hp : ¬ pre (c :: d :: x :: r) := fun h => by unfold pre at h; simp at h; exact hok' (by omega)
        exact out_none (by rw [if_neg (by decide), if_neg hok]) (if_neg (fun h => hok' (by have := (valid_nat _).1 h.2.2; omega))) hp
  · have hs : szF c = 4 := by unfold szF; (repeat' split) <;> omega
    have hv : v0F c = c - 240 := by simp [v0F, c1, c3, c4]
    have hl : lowF c = 65536 := by simp [lowF, c1, c3, c4]
    have hp : ¬ pre (c :: r) := fun h => by unfold pre at h; simp at h; omega
    rw [dec_four (by omega) (by omega), hs, hv, hl]
    cases r with
    | nil =>
      have e : okV (ctF [] (4 - 1) (c - 240)) 65536 = false := by simp [ctF, okV]
      exact out_none (by rw [e]; rfl) (if_neg (fun h => by have := z1.1 h.1.1.1; simp at this)) hp
    | cons d r =>
    have hd := hb' d (by simp)
    simp only [List.getD_cons_zero, List.getD_cons_succ] at g1 g2 g3
    by_cases hbad : d < 128 ∨ 192 ≤ d
    · have e : okV (ctF (d :: r) (4 - 1) (c - 240)) 65536 = false := by simp [ctF, hbad, okV]
      exact out_none (by rw [e]; rfl) (if_neg (fun h => by omega)) hp
    cases r with
    | nil =>
      have e : okV (ctF [d] (4 - 1) (c - 240)) 65536 = false := by simp [ctF, hbad, okV]
      exact out_none (by rw [e]; rfl) (if_neg (fun h => by have := z2.1 h.1.2.1.1; simp at this)) hp
    | cons x r =>
    have hx := hb' x (by simp)
    simp only [List.getD_cons_zero, List.getD_cons_succ] at g2 g3
    by_cases hbx : x < 128 ∨ 192 ≤ x
    · have e : okV (ctF (d :: x :: r) (4 - 1) (c - 240)) 65536 = false := by simp [ctF, hbad, hbx, okV]
      exact out_none (by rw [e]; rfl) (if_neg (fun h => by omega)) hp
    cases r with
    | nil =>
      have e : okV (ctF [d, x] (4 - 1) (c - 240)) 65536 = false := by simp [ctF, hbad, hbx, okV]
      exact out_none (by rw [e]; rfl) (if_neg (fun h => by have := z3.1 h.1.2.2.1; simp at this)) hp
    | cons y r =>
    have hy := hb' y (by simp)
    simp only [List.getD_cons_zero] at g3
    by_cases hby : y < 128 ∨ 192 ≤ y
    · have e : okV (ctF (d :: x :: y :: r) (4 - 1) (c - 240)) 65536 = false := by simp [ctF, hbad, hbx, hby, okV]
      exact out_none (by rw [e]; rfl) (if_neg (fun h => by omega)) hp
    · have e : ctF (d :: x :: y :: r) (4 - 1) (c - 240) = (((c - 240) * 64 + d - 128) * 64 + x - 128) * 64 + y - 128 := by simp [ctF, hbad, hbx, hby]
      rw [e]
      have hz : pos + 1 < (strOfNums xs).size := z1.2 (by simp)
      have hz2 : pos + 2 < (strOfNums xs).size := z2.2 (by simp)
      have hz3 : pos + 3 < (strOfNums xs).size := z3.2 (by simp)
      by_cases hok : okV ((((c - 240) * 64 + d - 128) * 64 + x - 128) * 64 + y - 128) 65536 = true
      · have hok' := (okV_iff _ _).1 hok
        exact out_some (by rw [hok]; rfl) (by decide) (if_pos ⟨⟨⟨hz, by omega⟩, ⟨hz2, by omega⟩, hz3, by omega⟩, by omega, (valid_nat _).2 (by omega)⟩) (fun h => by omega)
      · have hok' := fun h => hok ((okV_iff _ _).2 h)
        exact out_none (by rw [if_neg (by decide), if_neg hok]) (if_neg (fun h => hok' (by have := (valid_nat _).1 h.2.2; omega))) hp
end Go.Proofs.YtnfdlnelfnigdaaGreatDoor
