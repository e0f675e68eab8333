/-
  Settle: what the program answers.
  Settle.
  Settling: what the document does to a field is what the program does; normal is: settling changes nothing.
  Messages stored into the rows of a new field's values: what is kept, what it holds in the end.
  The document's Copy, at every depth.
-/
import Derived.Test.YtnfdlnelfnigdaaGreatDoorCBN
import Derived.Test.YtnfdlnelfnigdaaGreatDoorCw8WP
import Derived.Test.YtnfdlnelfnigdaaGreatDoorCNG
import Derived.Test.YtnfdlnelfnigdaaGreatDoorCDB
import Derived.Test.YtnfdlnelfnigdaaGreatDoorCCC
namespace Go.Proofs.YtnfdlnelfnigdaaGreatDoor
open Go.RowKit
set_option maxRecDepth 1000000
set_option linter.unusedVariables false
set_option linter.unusedSimpArgs false
set_option maxHeartbeats 2000000
theorem typedAtOk (w : World) (l : List TV) (ta : Option Addr) (tc : Nat) (h : TbR w (.slice ta l.length tc) l) (hk : ∀ x ∈ l, OkV x) (mx : Int) (hm0 : w.cell? ⟨0, 0, none⟩ = some (.int .i64 mx)) (k : Nat) (hkl : k < l.length) (hg : goodB l = true) (he : l[k].t.enum = false) (Z : Nat → Prop) (d : Nat) (cs : List Value) (m : CM) (hm : MsgE w Z d cs m) (hq : keptB l d l[k] m = true) : Calls Tryz.prog 28 #[.agg #[.slice ta l.length tc], .int .i64 (k : Int), .agg cs.toArray] w fun e w' => e = .returned (.tuple #[.agg #[.string (strOfNums l[k].t.name), .bool false, l[k].f, l[k].o, l[k].s, l[k].r], .agg #[.slice ta l.length tc], .int .i64 0]) ∧ Below w.heap.size w w' := by
  have HA := hid fun W (hW : Below w.heap.size w W) => msgAtOk W l ta tc (h.kept hW) hk mx (cell_below hm0 hW) k hkl hg he
  have HK := hid fun W (hW : Below w.heap.size w W) => areKeptT W l ta tc (h.kept hW) hg l[k] (List.getElem_mem hkl) Z d cs m (hm.kept hW)
  obtain ⟨ta1, tc1, ta2, tc2, ta3, tc3, ta4, tc4, e1, e2, e3, e4⟩ := shT_of (h.ty l[k] (List.getElem_mem hkl))
  have ec : cTV l[k] = [.string (strOfNums l[k].t.name), .bool false, .slice ta1 l[k].t.fs.length tc1, .slice ta2 l[k].t.os.length tc2, .slice ta3 l[k].t.ss.length tc3, .slice ta4 l[k].t.rs.length tc4] := by unfold cTV; rw [e1, e2, e3, e4, he]
  obtain ⟨fa, fc, ua, uc, rfl, -⟩ := msg_openD hm
  rw [ec] at HK
  rw [e1, e2, e3, e4] at HA
  rw [hq] at HK
  rw [e1, e2, e3, e4]
  clear h hg hm e1 e2 e3 e4 ec hm0 hk he hq
  generalize l[k] = x at *
  go_enter Tryz.func28, Tryz.ntmps28
  go_wp2_with fail
  refine (HA.out _ (by exact blBy)).mono ?_
  rintro e w1 ⟨rfl, hb1⟩
  have HB1 : Hid (Below w.heap.size w w1) := hid (bl_then (by exact blBy) hb1)
  have Bt : Blk w1 w.heap.size 46 #[.slice ta l.length tc] := ((((Blk.new _ _ _).kept (below_alloc _)).kept (below_alloc _)).kept (below_alloc _)).kept hb1
  have Bm : Blk w1 (w.heap.size + 1) 35 #[.slice fa m.fs.length fc, .slice ua m.us.length uc] := (((Blk.newAt (by simp)).kept (below_alloc _)).kept (below_alloc _)).kept hb1
  have Br5 : Blk w1 (w.heap.size + 1 + 1) 66 #[.string ⟨#[]⟩, .bool false, .slice none 0 0, .slice none 0 0, .slice none 0 0, .slice none 0 0] := ((Blk.newAt (by simp)).kept (below_alloc _)).kept hb1
  have Br6 : Blk w1 (w.heap.size + 1 + 1 + 1) 68 #[.slice none 0 0] := (Blk.newAt (by simp)).kept hb1
  have xt := Bt.cellF
  have zt := Bt.lt
  have xm := Bm.cellF
  have zm := Bm.lt
  have xr5 := Br5.cellF
  have yr5 := Br5.frz
  have zr5 := Br5.lt
  have xr6 := Br6.cellF
  have yr6 := Br6.frz
  have zr6 := Br6.lt
  clear HA
  go_wp2_with fail
  refine (HK.out _ (by have := HB1.out; exact blBy)).mono ?_
  rintro e w2 ⟨rfl, hb2⟩
  have HB2 : Hid (Below w.heap.size w w2) := hid (bl_then (by have := HB1.out; exact blBy) hb2)
  have hz2 : Below w1.heap.size w1 w2 := bl_then (by exact blBy) hb2
  have Bx2 : Blk w2 w1.heap.size 66 #[.string (strOfNums x.t.name), .bool false, .slice ta1 x.t.fs.length tc1, .slice ta2 x.t.os.length tc2, .slice ta3 x.t.ss.length tc3, .slice ta4 x.t.rs.length tc4] := ((Blk.new _ _ _).kept (below_alloc _)).kept hb2
  have Bq2 : Blk w2 (w1.heap.size + 1) 68 #[.slice ta l.length tc] := (Blk.newAt (by simp)).kept hb2
  replace Br5 := Br5.kept hz2
  replace Br6 := Br6.kept hz2
  replace xr5 := Br5.cellF
  replace yr5 := Br5.frz
  replace zr5 := Br5.lt
  replace xr6 := Br6.cellF
  replace yr6 := Br6.frz
  replace zr6 := Br6.lt
  have xx2 := Bx2.cellF
  have zx2 := Bx2.lt
  have xq2 := Bq2.cellF
  have zq2 := Bq2.lt
  have hs1 : w.heap.size + 4 ≤ w1.heap.size := by have := hb1.size; simpa using this
  have n1 : w1.heap.size + 1 ≠ w.heap.size + 1 + 1 := by omega
  have n2 : w1.heap.size ≠ w.heap.size + 1 + 1 := by omega
  have n3 : w1.heap.size + 1 ≠ w.heap.size + 1 + 1 + 1 := by omega
  have n4 : w1.heap.size ≠ w.heap.size + 1 + 1 + 1 := by omega
  have n5 : w.heap.size + 1 + 1 ≠ w.heap.size + 1 + 1 + 1 := by omega
  clear hb2 hz2 HK xt zt xm zm
  go_wp2
  go_region
  all_goals (try go_wp2)
  all_goals exact bodyPost_ret (v := .tuple #[.agg #[.string (strOfNums x.t.name), .bool false, .slice ta1 x.t.fs.length tc1, .slice ta2 x.t.os.length tc2, .slice ta3 x.t.ss.length tc3, .slice ta4 x.t.rs.length tc4], .agg #[.slice ta l.length tc], .int .i64 0]) (by simp [results, Tryz.results28, go_sem, xr5, yr5, zr5, xr6, yr6, zr6]) rfl ⟨rfl, by have := HB2.out; exact blBy⟩
theorem typedAtBad (w : World) (l : List TV) (ta : Option Addr) (tc : Nat) (h : TbR w (.slice ta l.length tc) l) (hk : ∀ x ∈ l, OkV x) (mx : Int) (hm0 : w.cell? ⟨0, 0, none⟩ = some (.int .i64 mx)) (k : Nat) (hkl : k < l.length) (hg : goodB l = true) (he : l[k].t.enum = false) (Z : Nat → Prop) (d : Nat) (cs : List Value) (m : CM) (hm : MsgE w Z d cs m) (hq : keptB l d l[k] m = false) : Calls Tryz.prog 28 #[.agg #[.slice ta l.length tc], .int .i64 (k : Int), .agg cs.toArray] w fun e w' => e = .returned (.tuple #[.agg #[.string ⟨#[]⟩, .bool false, .slice none 0 0, .slice none 0 0, .slice none 0 0, .slice none 0 0], .agg #[.slice none 0 0], .int .i64 10]) ∧ Below w.heap.size w w' := by
  have HA := hid fun W (hW : Below w.heap.size w W) => msgAtOk W l ta tc (h.kept hW) hk mx (cell_below hm0 hW) k hkl hg he
  have HK := hid fun W (hW : Below w.heap.size w W) => areKeptT W l ta tc (h.kept hW) hg l[k] (List.getElem_mem hkl) Z d cs m (hm.kept hW)
  obtain ⟨ta1, tc1, ta2, tc2, ta3, tc3, ta4, tc4, e1, e2, e3, e4⟩ := shT_of (h.ty l[k] (List.getElem_mem hkl))
  have ec : cTV l[k] = [.string (strOfNums l[k].t.name), .bool false, .slice ta1 l[k].t.fs.length tc1, .slice ta2 l[k].t.os.length tc2, .slice ta3 l[k].t.ss.length tc3, .slice ta4 l[k].t.rs.length tc4] := by unfold cTV; rw [e1, e2, e3, e4, he]
  obtain ⟨fa, fc, ua, uc, rfl, -⟩ := msg_openD hm
  rw [ec] at HK
  rw [e1, e2, e3, e4] at HA
  rw [hq] at HK
  clear h hg hm e1 e2 e3 e4 ec hm0 hk he hq
  generalize l[k] = x at *
  go_enter Tryz.func28, Tryz.ntmps28
  go_wp2_with fail
  refine (HA.out _ (by exact blBy)).mono ?_
  rintro e w1 ⟨rfl, hb1⟩
  have HB1 : Hid (Below w.heap.size w w1) := hid (bl_then (by exact blBy) hb1)
  have Bt : Blk w1 w.heap.size 46 #[.slice ta l.length tc] := ((((Blk.new _ _ _).kept (below_alloc _)).kept (below_alloc _)).kept (below_alloc _)).kept hb1
  have Bm : Blk w1 (w.heap.size + 1) 35 #[.slice fa m.fs.length fc, .slice ua m.us.length uc] := (((Blk.newAt (by simp)).kept (below_alloc _)).kept (below_alloc _)).kept hb1
  have Br5 : Blk w1 (w.heap.size + 1 + 1) 66 #[.string ⟨#[]⟩, .bool false, .slice none 0 0, .slice none 0 0, .slice none 0 0, .slice none 0 0] := ((Blk.newAt (by simp)).kept (below_alloc _)).kept hb1
  have Br6 : Blk w1 (w.heap.size + 1 + 1 + 1) 68 #[.slice none 0 0] := (Blk.newAt (by simp)).kept hb1
  have xt := Bt.cellF
  have zt := Bt.lt
  have xm := Bm.cellF
  have zm := Bm.lt
  have xr5 := Br5.cellF
  have yr5 := Br5.frz
  have zr5 := Br5.lt
  have xr6 := Br6.cellF
  have yr6 := Br6.frz
  have zr6 := Br6.lt
  clear HA
  go_wp2_with fail
  refine (HK.out _ (by have := HB1.out; exact blBy)).mono ?_
  rintro e w2 ⟨rfl, hb2⟩
  have HB2 : Hid (Below w.heap.size w w2) := hid (bl_then (by have := HB1.out; exact blBy) hb2)
  have hz2 : Below w1.heap.size w1 w2 := bl_then (by exact blBy) hb2
  have Bx2 : Blk w2 w1.heap.size 66 #[.string (strOfNums x.t.name), .bool false, .slice ta1 x.t.fs.length tc1, .slice ta2 x.t.os.length tc2, .slice ta3 x.t.ss.length tc3, .slice ta4 x.t.rs.length tc4] := ((Blk.new _ _ _).kept (below_alloc _)).kept hb2
  have Bq2 : Blk w2 (w1.heap.size + 1) 68 #[.slice ta l.length tc] := (Blk.newAt (by simp)).kept hb2
  replace Br5 := Br5.kept hz2
  replace Br6 := Br6.kept hz2
  replace xr5 := Br5.cellF
  replace yr5 := Br5.frz
  replace zr5 := Br5.lt
  replace xr6 := Br6.cellF
  replace yr6 := Br6.frz
  replace zr6 := Br6.lt
  have xx2 := Bx2.cellF
  have zx2 := Bx2.lt
  have xq2 := Bq2.cellF
  have zq2 := Bq2.lt
  have hs1 : w.heap.size + 4 ≤ w1.heap.size := by have := hb1.size; simpa using this
  have n1 : w1.heap.size + 1 ≠ w.heap.size + 1 + 1 := by omega
  have n2 : w1.heap.size ≠ w.heap.size + 1 + 1 := by omega
  have n3 : w1.heap.size + 1 ≠ w.heap.size + 1 + 1 + 1 := by omega
  have n4 : w1.heap.size ≠ w.heap.size + 1 + 1 + 1 := by omega
  have n5 : w.heap.size + 1 + 1 ≠ w.heap.size + 1 + 1 + 1 := by omega
  clear hb2 hz2 HK xt zt xm zm
  go_wp2
  all_goals (try go_wp2)
  all_goals exact bodyPost_ret (v := .tuple #[.agg #[.string ⟨#[]⟩, .bool false, .slice none 0 0, .slice none 0 0, .slice none 0 0, .slice none 0 0], .agg #[.slice none 0 0], .int .i64 10]) (by simp [results, Tryz.results28, go_sem, xr5, yr5, zr5, xr6, yr6, zr6]) rfl ⟨rfl, by have := HB2.out; exact blBy⟩
theorem typedAtNo (w : World) (l : List TV) (ta : Option Addr) (tc : Nat) (h : TbR w (.slice ta l.length tc) l) (hk : ∀ x ∈ l, OkV x) (mx : Int) (hm0 : w.cell? ⟨0, 0, none⟩ = some (.int .i64 mx)) (idx : Int) (hno : isB l idx false = false) (fa ua : Option Addr) (fn fc un uc : Nat) : Calls Tryz.prog 28 #[.agg #[.slice ta l.length tc], .int .i64 idx, .agg #[.slice fa fn fc, .slice ua un uc]] w fun e w' => e = .returned (.tuple #[.agg #[.string ⟨#[]⟩, .bool false, .slice none 0 0, .slice none 0 0, .slice none 0 0, .slice none 0 0], .agg #[.slice none 0 0], .int .i64 18]) ∧ Below w.heap.size w w' := by
  have HA := hid fun W (hW : Below w.heap.size w W) => msgAtNo W l ta tc (h.kept hW) hk mx (cell_below hm0 hW) idx hno
  clear h hm0 hk hno
  go_enter Tryz.func28, Tryz.ntmps28
  go_wp2_with fail
  refine (HA.out _ (by exact blBy)).mono ?_
  rintro e w1 ⟨rfl, hb1⟩
  have HB1 : Hid (Below w.heap.size w w1) := hid (bl_then (by exact blBy) hb1)
  have Br5 : Blk w1 (w.heap.size + 1 + 1) 66 #[.string ⟨#[]⟩, .bool false, .slice none 0 0, .slice none 0 0, .slice none 0 0, .slice none 0 0] := ((Blk.newAt (by simp)).kept (below_alloc _)).kept hb1
  have Br6 : Blk w1 (w.heap.size + 1 + 1 + 1) 68 #[.slice none 0 0] := (Blk.newAt (by simp)).kept hb1
  have xr5 := Br5.cellF
  have yr5 := Br5.frz
  have zr5 := Br5.lt
  have xr6 := Br6.cellF
  have yr6 := Br6.frz
  have zr6 := Br6.lt
  clear hb1 HA
  go_wp2
  exact bodyPost_ret (v := .tuple #[.agg #[.string ⟨#[]⟩, .bool false, .slice none 0 0, .slice none 0 0, .slice none 0 0, .slice none 0 0], .agg #[.slice none 0 0], .int .i64 18]) (by simp [results, Tryz.results28, go_sem, xr5, yr5, zr5, xr6, yr6, zr6]) rfl ⟨rfl, by have := HB1.out; exact blBy⟩
theorem settleOk (w : World) (l : List TV) (ta : Option Addr) (tc : Nat) (h : TbR w (.slice ta l.length tc) l) (hk : ∀ x ∈ l, OkV x) (mx : Int) (hm0 : w.cell? ⟨0, 0, none⟩ = some (.int .i64 mx)) (k : Nat) (hkl : k < l.length) (hg : goodB l = true) (he : l[k].t.enum = false) (Z : Nat → Prop) (d : Nat) (cs : List Value) (m : CM) (hm : MsgE w Z d cs m) (hq : keptB l d l[k] m = true) : Calls Tryz.prog 13 #[.agg #[.slice ta l.length tc], .int .i64 (k : Int), .agg cs.toArray] w fun e w' => ∃ ds : List Value, e = .returned (.tuple #[.agg ds.toArray, .int .i64 0]) ∧ MsgE w' (w.heap.size ≤ ·) d ds (setM l d l[k] m) ∧ Below w.heap.size w w' := by
  have HA := hid fun W (hW : Below w.heap.size w W) => typedAtOk W l ta tc (h.kept hW) hk mx (cell_below hm0 hW) k hkl hg he Z d cs m (hm.kept hW) hq
  have HR := hid fun W (hW : Below w.heap.size w W) => rebuiltS l ta tc hg d W Z l[k] cs m (h.kept hW) (List.getElem_mem hkl) hq (hm.kept hW)
  obtain ⟨ta1, tc1, ta2, tc2, ta3, tc3, ta4, tc4, e1, e2, e3, e4⟩ := shT_of (h.ty l[k] (List.getElem_mem hkl))
  have ec : cTV l[k] = [.string (strOfNums l[k].t.name), .bool false, .slice ta1 l[k].t.fs.length tc1, .slice ta2 l[k].t.os.length tc2, .slice ta3 l[k].t.ss.length tc3, .slice ta4 l[k].t.rs.length tc4] := by unfold cTV; rw [e1, e2, e3, e4, he]
  obtain ⟨fa, fc, ua, uc, rfl, -⟩ := msg_openD hm
  rw [ec] at HR
  rw [e1, e2, e3, e4] at HA
  clear h hg hm e1 e2 e3 e4 ec hm0 hk he hq
  generalize setM l d l[k] m = sm at *
  generalize l[k] = x at *
  go_enter Tryz.func13, Tryz.ntmps13
  go_wp2_with fail
  refine (HA.out _ (by exact blBy)).mono ?_
  rintro e w1 ⟨rfl, hb1⟩
  have HB1 : Hid (Below w.heap.size w w1) := hid (bl_then (by exact blBy) hb1)
  have Bm : Blk w1 (w.heap.size + 1) 35 #[.slice fa m.fs.length fc, .slice ua m.us.length uc] := ((Blk.newAt (by simp)).kept (below_alloc _)).kept hb1
  have Br : Blk w1 (w.heap.size + 1 + 1) 35 #[.slice none 0 0, .slice none 0 0] := (Blk.newAt (by simp)).kept hb1
  have hs1 : Hid (w.heap.size + 3 ≤ w1.heap.size) := hid (by have := hb1.size; simpa using this)
  have xm := Bm.cellF
  have zm := Bm.lt
  have zt1 : w.heap.size < w1.heap.size := by have := hb1.size; simp at this; omega
  have zm1 : w.heap.size + 1 < w1.heap.size := by have := hb1.size; simp at this; omega
  clear HA hb1
  go_wp2_with fail
  refine (HR.out _ (by have := HB1.out; exact blBy)).mono ?_
  rintro e w2 ⟨ds, rfl, hn, hb2⟩
  have HB2 : Hid (Below w.heap.size w w2) := hid (bl_then (by have := HB1.out; exact blBy) hb2)
  have hz2 : Below w1.heap.size w1 w2 := bl_then (by exact blBy) hb2
  have HN : Hid (MsgE w2 (w.heap.size + 3 ≤ ·) d ds sm) := hid (MsgE.go (Keep.refl (fun _ => True) w2) (fun _ _ => trivial) (fun k hk => by have := hs1.out; simp at hk; omega) d _ _ hn)
  replace Br := Br.kept hz2
  have xr := Br.cellF
  have yr := Br.frz
  have zr := Br.lt
  clear hb2 hz2 hn HR xm zm
  obtain ⟨na, nc, va, vc, rfl, -⟩ := msg_openD HN.out
  go_wp2
  exact bodyPost_ret (v := .tuple #[.agg #[.slice na sm.fs.length nc, .slice va sm.us.length vc], .int .i64 0]) (by simp [results, Tryz.results13, go_sem, xr, yr, zr, zt1, zm1]) rfl ⟨[.slice na sm.fs.length nc, .slice va sm.us.length vc], rfl, MsgE.go (f := (w.heap.size + 3 ≤ ·)) (by with_reducible repeat (first | exact Keep.refl _ _ | refine kpS ?_ (by first | (simp; done) | (simp; omega) | omega) | refine kpA ?_ _ | refine kpD ?_ | refine kpN ?_ _)) (fun _ h => h) (fun k hk => by omega) d _ _ HN.out, by have := HB2.out; exact blBy⟩
theorem settleBad (w : World) (l : List TV) (ta : Option Addr) (tc : Nat) (h : TbR w (.slice ta l.length tc) l) (hk : ∀ x ∈ l, OkV x) (mx : Int) (hm0 : w.cell? ⟨0, 0, none⟩ = some (.int .i64 mx)) (k : Nat) (hkl : k < l.length) (hg : goodB l = true) (he : l[k].t.enum = false) (Z : Nat → Prop) (d : Nat) (cs : List Value) (m : CM) (hm : MsgE w Z d cs m) (hq : keptB l d l[k] m = false) : Calls Tryz.prog 13 #[.agg #[.slice ta l.length tc], .int .i64 (k : Int), .agg cs.toArray] w fun e w' => e = .returned (.tuple #[.agg #[.slice none 0 0, .slice none 0 0], .int .i64 10]) ∧ Below w.heap.size w w' := by
  have HA := hid fun W (hW : Below w.heap.size w W) => typedAtBad W l ta tc (h.kept hW) hk mx (cell_below hm0 hW) k hkl hg he Z d cs m (hm.kept hW) hq
  obtain ⟨fa, fc, ua, uc, rfl, -⟩ := msg_openD hm
  clear h hg hm hm0 hk he hq
  go_enter Tryz.func13, Tryz.ntmps13
  go_wp2_with fail
  refine (HA.out _ (by exact blBy)).mono ?_
  rintro e w1 ⟨rfl, hb1⟩
  have HB1 : Hid (Below w.heap.size w w1) := hid (bl_then (by exact blBy) hb1)
  have Br : Blk w1 (w.heap.size + 1 + 1) 35 #[.slice none 0 0, .slice none 0 0] := (Blk.newAt (by simp)).kept hb1
  have xr := Br.cellF
  have yr := Br.frz
  have zr := Br.lt
  have zt1 : w.heap.size < w1.heap.size := by have := hb1.size; simp at this; omega
  have zm1 : w.heap.size + 1 < w1.heap.size := by have := hb1.size; simp at this; omega
  clear HA hb1
  go_wp2
  exact bodyPost_ret (v := .tuple #[.agg #[.slice none 0 0, .slice none 0 0], .int .i64 10]) (by simp [results, Tryz.results13, go_sem, xr, yr, zr, zt1, zm1]) rfl ⟨rfl, by have := HB1.out; exact blBy⟩
theorem settleNo (w : World) (l : List TV) (ta : Option Addr) (tc : Nat) (h : TbR w (.slice ta l.length tc) l) (hk : ∀ x ∈ l, OkV x) (mx : Int) (hm0 : w.cell? ⟨0, 0, none⟩ = some (.int .i64 mx)) (idx : Int) (hno : isB l idx false = false) (fa ua : Option Addr) (fn fc un uc : Nat) : Calls Tryz.prog 13 #[.agg #[.slice ta l.length tc], .int .i64 idx, .agg #[.slice fa fn fc, .slice ua un uc]] w fun e w' => e = .returned (.tuple #[.agg #[.slice none 0 0, .slice none 0 0], .int .i64 18]) ∧ Below w.heap.size w w' := by
  have HA := hid fun W (hW : Below w.heap.size w W) => typedAtNo W l ta tc (h.kept hW) hk mx (cell_below hm0 hW) idx hno fa ua fn fc un uc
  clear h hm0 hk hno
  go_enter Tryz.func13, Tryz.ntmps13
  go_wp2_with fail
  refine (HA.out _ (by exact blBy)).mono ?_
  rintro e w1 ⟨rfl, hb1⟩
  have HB1 : Hid (Below w.heap.size w w1) := hid (bl_then (by exact blBy) hb1)
  have Br : Blk w1 (w.heap.size + 1 + 1) 35 #[.slice none 0 0, .slice none 0 0] := (Blk.newAt (by simp)).kept hb1
  have xr := Br.cellF
  have yr := Br.frz
  have zr := Br.lt
  have zt1 : w.heap.size < w1.heap.size := by have := hb1.size; simp at this; omega
  have zm1 : w.heap.size + 1 < w1.heap.size := by have := hb1.size; simp at this; omega
  clear HA hb1
  go_wp2
  exact bodyPost_ret (v := .tuple #[.agg #[.slice none 0 0, .slice none 0 0], .int .i64 18]) (by simp [results, Tryz.results13, go_sem, xr, yr, zr, zt1, zm1]) rfl ⟨rfl, by have := HB1.out; exact blBy⟩
theorem setV_nil (g : CM → CM) {v : CV CM} (h : v.ms = []) : setV g v = v := by
  obtain ⟨n, b, ms⟩ := v
  simp only at h
  subst h
  rfl
theorem map_self {α : Type} {f : α → α} : ∀ {l : List α}, (∀ a ∈ l, f a = a) → l.map f = l
  | [], _ => rfl
  | a :: r, h => by
    rw [List.map_cons, h a List.mem_cons_self, map_self (fun b hb => h b (List.mem_cons_of_mem _ hb))]
/-- Of a typed message: its keys hold no messages; its values one, where the kind is Message, else none. -/
theorem kept_ms {l : List TV} {d : Nat} {x : TV} {m : CM} (h : keptB l (d + 1) x m = true) {f : CF CM} (hf : f ∈ m.fs) : hasF x.t.fs f.num = true ∧ (∀ v ∈ f.ks, v.ms = []) ∧ ∀ v ∈ f.vs, ((ownF x.t.fs f.num).kind ≠ 17 → v.ms = []) ∧ ((ownF x.t.fs f.num).kind = 17 → ∃ z, v.ms = [z]) := by
  have h1 := (kept_all h).1
  unfold holdB at h1
  simp only [Bool.and_eq_true, List.all_eq_true] at h1
  have h2 := h1.2.1 f hf
  unfold typB8 fieldB at h2
  simp only [Bool.and_eq_true, List.all_eq_true] at h2
  refine ⟨h2.1, fun v hv => List.eq_nil_of_length_eq_zero (fit_ms (scalar_fit (h2.2.2.2.1 v hv))), fun v hv => ⟨fun h17 => valB_ms (h2.2.2.1 v hv) h17, fun h17 => ?_⟩⟩
  have h3 := h2.2.2.1 v hv
  unfold valB at h3
  rw [if_pos h17] at h3
  simp only [Bool.and_eq_true, beq_iff_eq] at h3
  have h4 : v.ms.length = 1 := by omega
  match v.ms, h4 with
  | [z], _ => exact ⟨z, rfl⟩
theorem kept_one {l : List TV} {d : Nat} {x : TV} {m : CM} (h : keptB l (d + 1) x m = true) {f : CF CM} (hf : f ∈ m.fs) : ∀ v ∈ f.vs, v.ms.length ≤ 1 := by
  intro v hv
  have h1 := (kept_ms h hf).2.2 v hv
  by_cases h17 : (ownF x.t.fs f.num).kind = 17
  · obtain ⟨z, e⟩ := h1.2 h17
    rw [e]; simp
  · rw [h1.1 h17]; simp
theorem set_keys {l : List TV} {d : Nat} {x : TV} {m : CM} (h : keptB l (d + 1) x m = true) {f : CF CM} (hf : f ∈ m.fs) (g : CM → CM) : setF g f = ⟨f.num, f.ks, f.vs.map (setV g)⟩ := by
  unfold setF
  rw [map_self (fun v hv => setV_nil g ((kept_ms h hf).2.1 v hv))]
theorem set_plain {l : List TV} {d : Nat} {x : TV} {m : CM} (h : keptB l (d + 1) x m = true) {f : CF CM} (hf : f ∈ m.fs) (h17 : (ownF x.t.fs f.num).kind ≠ 17) (g : CM → CM) : setF g f = f := by
  rw [set_keys h hf, map_self (fun v hv => setV_nil g (((kept_ms h hf).2.2 v hv).1 h17))]
def defD (v : CV CM) : Bool := (v.n == 0) && (((v.b.length : Int) == 0) && ((v.ms.length : Int) == 0))
def hdD : List (CV CM) → Bool
  | v :: _ => defD v
  | [] => false
theorem hdD_at : ∀ {l : List (CV CM)} (h : 0 < l.length), hdD l = defD l[0]
  | [], h => by simp at h
  | v :: r, _ => rfl
/-- Whether the document passes a field over. -/
def skipD (o : FT) (f : CF CM) : Bool := (decide (o.lab = 0) && hdD f.vs) || (decide (o.lab = 2 ∨ o.lab = 3 ∨ o.lab = 5) && decide (f.vs.length = 0))
theorem told_skip {o : FT} {f : CF CM} (h : o.lab = 0 → ∃ v r, f.vs = v :: r ∧ v.ms = []) : toldO o f = !(skipD o f) := by
  unfold toldO skipD
  by_cases h0 : o.lab = 0
  · obtain ⟨v, r, e, hm⟩ := h h0
    rw [if_pos h0, e, h0]
    simp [hdD, defV, defD, hm]
  · rw [if_neg h0]
    by_cases h2 : o.lab = 2 ∨ o.lab = 3 ∨ o.lab = 5
    · rw [if_pos h2, decide_eq_false h0, decide_eq_true h2]
      cases hv : f.vs with
      | nil => rfl
      | cons a r => simp
    · rw [if_neg h2]
      simp [h0, h2]
theorem good_lab0 {l : List TV} (hg : goodB l = true) {x : TV} (hx : x ∈ l) {o : FT} (ho : o ∈ x.t.fs) (h0 : o.lab = 0) : o.kind ≠ 17 := by
  obtain ⟨k, hk, rfl⟩ := List.mem_iff_getElem.1 hx
  have h := good_at hg hk
  unfold stepB typB at h
  simp only [Bool.and_eq_true] at h
  have h2 := h.2.2.2
  split at h2
  · rw [Bool.and_eq_true, decide_eq_true_eq] at h2
    have h3 : l[k].t.fs.length = 0 := by omega
    rw [List.eq_nil_of_length_eq_zero h3] at ho
    exact absurd ho (by simp)
  · unfold msgB at h2
    simp only [Bool.and_eq_true] at h2
    have h3 := List.all_eq_true.1 h2.2.2.1 o ho
    unfold fldB at h3
    simp only [Bool.and_eq_true, decide_eq_true_eq] at h3
    have h4 := h3.2.2.1
    unfold labB at h4
    rw [if_pos h0, decide_eq_true_eq] at h4
    exact h4
theorem told_doc {l : List TV} (hg : goodB l = true) {x : TV} (hx : x ∈ l) {d : Nat} {m : CM} (h : keptB l (d + 1) x m = true) {f : CF CM} (hf : f ∈ m.fs) : toldB x.t.fs f = !(skipD (ownF x.t.fs f.num) f) := by
  obtain ⟨h1, -, h2⟩ := kept_ms h hf
  refine told_skip fun h0 => ?_
  have h3 := hold_one (kept_all h).1 f hf h0
  match hv : f.vs, h3 with
  | v :: r, _ => exact ⟨v, r, rfl, (h2 v (by rw [hv]; exact List.mem_cons_self)).1 (good_lab0 hg hx (ownF_hasF h1).1 h0)⟩
theorem untk_doc {l : List TV} (hg : goodB l = true) {x : TV} (hx : x ∈ l) (e : CE) : untk x.t.fs e = decide (takesD x.t.fs e.num e.kind = 0) := by
  unfold untk takenB takenO takesD
  cases hq : x.t.fs.find? (fun f => decide (f.num = e.num)) with
  | none =>
    have : hasF x.t.fs e.num = false := by rw [← find_has, hq]; rfl
    rw [this]
    rfl
  | some f =>
    have h1 : hasF x.t.fs e.num = true := by rw [← find_has, hq]; rfl
    have h2 : ownF x.t.fs e.num = f := by rw [← find_own, hq]; rfl
    have h3 := (good_fld hg hx (List.mem_of_find?_eq_some hq)).1
    rw [h1, h2]
    show _ = decide (takenD f e.kind = 0)
    rw [takenEq h3]
    unfold takenF
    cases tvF f e.kind <;> cases trF f e.kind <;> rfl
set_option maxHeartbeats 1000000
/-- A value of a row of one's own. -/
theorem own_vs {w : World} {base d : Nat} {a : Option Addr} {n c : Nat} {ts : List VS} (h : OwnM w base 26 3 (VlS d) (.slice a n c) ts) {i : Nat} {p : VS} (hi : ts[i]? = some p) : ∃ g cs, a = some ⟨g, 0, none⟩ ∧ base ≤ g ∧ g < w.heap.size ∧ VlS d w (Zof w base (.slice a n c)) cs p ∧ ∀ j u, cs[j]? = some u → w.cell? ⟨g, i * 3 + j, none⟩ = some u := by
  obtain ⟨tt, ho, hl, he⟩ := h
  have hlt : i < tt.length := by rw [hl]; exact (List.getElem?_eq_some_iff.1 hi).1
  have hE := he i tt[i] p (List.getElem?_eq_getElem hlt) hi
  have hlen := ho.1
  rcases ho.2 with ⟨h0, h1⟩ | ⟨g, cap, cur, e, hbg, hg, hnc, hcm, hcs, htake⟩
  · rw [← hl] at h1; omega
  · have hsh := e
    cases e
    refine ⟨g, tt[i].1, rfl, hbg, (Array.getElem?_eq_some_iff.1 hg).1, hE, fun j u hu => ?_⟩
    have h3 := flatM_get (g := Subtype.val) (k := 3) (fun x => x.2) tt i j _ u (List.getElem?_eq_getElem hlt) hu
    have h4 := ho.cells (g := g) rfl _ u h3
    have hadd : (⟨g, 0, none⟩ : Addr).add (i * 3 + j) = ⟨g, i * 3 + j, none⟩ := by unfold Addr.add; split <;> simp_all
    rwa [hadd] at h4
/-- All values hold one message; their rows lie apart. -/
structure Apt (base H : Nat) (ts : List VS) : Prop where
  pw : ts.Pairwise (fun p q => p.hi ≤ q.lo)
  b : ∀ p ∈ ts, base ≤ p.lo ∧ p.lo ≤ p.b ∧ p.b < p.hi ∧ p.hi ≤ H
theorem Apt.at {base H : Nat} {ts : List VS} (h : Apt base H ts) {i j : Nat} {p q : VS} (hi : ts[i]? = some p) (hj : ts[j]? = some q) (hij : i < j) : p.hi ≤ q.lo := by
  obtain ⟨h1, rfl⟩ := List.getElem?_eq_some_iff.1 hi
  obtain ⟨h2, rfl⟩ := List.getElem?_eq_some_iff.1 hj
  exact List.pairwise_iff_getElem.1 h.pw i j h1 h2 hij
/-- What lies in one value's span is no other value's row. -/
theorem Apt.out {base H : Nat} {ts : List VS} (h : Apt base H ts) {i : Nat} {p : VS} (hi : ts[i]? = some p) {q : Nat} (h1 : p.lo ≤ q) (h2 : q < p.hi) (hb : q ≠ p.b) : ∀ p' ∈ ts, q ≠ p'.b := by
  intro p' hp'
  obtain ⟨j, hj, rfl⟩ := List.mem_iff_getElem.1 hp'
  have hj' : ts[j]? = some ts[j] := List.getElem?_eq_getElem hj
  have hbj := h.b _ (List.getElem_mem hj)
  have hbi := h.b p (List.mem_of_getElem? hi)
  rcases Nat.lt_trichotomy i j with e | e | e
  · have := h.at hi hj' e; omega
  · subst e
    rw [hi] at hj'
    cases hj'
    exact hb
  · have := h.at hj' hi e; omega
theorem Apt.ne {base H : Nat} {ts : List VS} (h : Apt base H ts) {i j : Nat} {p q : VS} (hi : ts[i]? = some p) (hj : ts[j]? = some q) (hij : i ≠ j) : p.b ≠ q.b := by
  have hbi := h.b p (List.mem_of_getElem? hi)
  have hbj := h.b q (List.mem_of_getElem? hj)
  rcases Nat.lt_or_gt_of_ne hij with e | e
  · have := h.at hi hj e; omega
  · have := h.at hj hi e; omega
theorem apt_of {w : World} {base d H : Nat} {a : Option Addr} {n c : Nat} {ts : List VS} {xs : List (CV CM)} (h : OwnM w base 26 3 (VlS d) (.slice a n c) ts) (ht : TsOk base H ts xs) (hone : ∀ p ∈ ts, ∃ z, p.v.ms = [z]) : Apt base H ts := by
  refine ⟨ht.pw, fun p hp => ?_⟩
  obtain ⟨i, hi, rfl⟩ := List.mem_iff_getElem.1 hp
  obtain ⟨g, cs, -, -, -, hv, -⟩ := own_vs h (List.getElem?_eq_getElem hi)
  obtain ⟨ba, bc, ma, mc, -, -, -, hm⟩ := hv
  have h2 := ht.b _ hp
  rcases hm with ⟨h0, -⟩ | ⟨z, s1, s2, rest, h1, -, -, -, -, h5, h6, -, -⟩
  · obtain ⟨z, hz⟩ := hone _ hp
    rw [hz] at h0
    cases h0
  · exact ⟨h2.1, h5, h6, h2.2.2⟩
/-- The first k messages are settled. -/
structure SetI (d n0 : Nat) (wy wr : World) (g : CM → CM) (ts : List VS) (k : Nat) : Prop where
  kp : Keep (fun q => ∀ p ∈ ts.take k, q ≠ p.b) wy wr
  st : ∀ (i : Nat) (p : VS), i < k → ts[i]? = some p → ∃ z s1 s2 rest, p.v.ms = [z] ∧ Blk wr p.b 35 (s1 :: s2 :: rest).toArray ∧ MsgE wr (fun q => n0 ≤ q ∧ ∀ p ∈ ts, q ≠ p.b) d [s1, s2] (g z)
theorem SetI.zero (d n0 : Nat) (wy : World) (g : CM → CM) (ts : List VS) : SetI d n0 wy wy g ts 0 := ⟨Keep.refl _ _, fun i p hi => by omega⟩
theorem take_at {ts : List VS} {k i : Nat} {p : VS} (hp : p ∈ ts.take k) : ∃ i, i < k ∧ ts[i]? = some p := by
  obtain ⟨i, hi, e⟩ := List.mem_iff_getElem.1 hp
  rw [List.length_take] at hi
  rw [List.getElem_take] at e
  exact ⟨i, by omega, by rw [List.getElem?_eq_getElem (by omega), e]⟩
/-- Message k's row is as it was. -/
theorem SetI.fresh {d n0 base H : Nat} {wy wr : World} {g : CM → CM} {ts : List VS} {k : Nat} (h : SetI d n0 wy wr g ts k) (ha : Apt base H ts) {p : VS} (hp : ts[k]? = some p) : ∀ p' ∈ ts.take k, p.b ≠ p'.b := by
  intro p' hp'
  obtain ⟨i, hi, e⟩ := take_at (i := 0) hp'
  exact ha.ne hp e (by omega)
theorem SetI.step {d n0 base H : Nat} {wy wr u : World} {g : CM → CM} {ts : List VS} {k : Nat} (h : SetI d n0 wy wr g ts k) (ha : Apt base H ts) (hn : n0 ≤ wr.heap.size) (hH : H ≤ wr.heap.size) {p : VS} (hp : ts[k]? = some p) {z : CM} (hz : p.v.ms = [z]) {s1 s2 : Value} {rest : List Value} (hB : Blk wr p.b 35 (s1 :: s2 :: rest).toArray) (hu : Below wr.heap.size wr u) {d1 d2 : Value} (hm : MsgE u (wr.heap.size ≤ ·) d [d1, d2] (g z)) : SetI d n0 wy ((u.setCell ⟨p.b, 0, none⟩ d1).setCell ⟨p.b, 1, none⟩ d2) g ts (k + 1) := by
  have hlt : k < ts.length := (List.getElem?_eq_some_iff.1 hp).1
  have htk : ts.take (k + 1) = ts.take k ++ [p] := by
    rw [List.take_succ_eq_append_getElem hlt]
    have := (List.getElem?_eq_some_iff.1 hp).2
    rw [this]
  have hK2 : ∀ f : Nat → Prop, ¬ f p.b → Keep f u ((u.setCell ⟨p.b, 0, none⟩ d1).setCell ⟨p.b, 1, none⟩ d2) := fun f hf => (Keep.setCell u ⟨p.b, 0, none⟩ d1 hf).trans (Keep.setCell _ ⟨p.b, 1, none⟩ d2 hf)
  have hbp : p.b < wr.heap.size := hB.lt
  refine ⟨?_, fun i p' hi hp' => ?_⟩
  · refine ((h.kp.weak (fun q hq p' hp' => hq p' (by rw [htk]; exact List.mem_append_left _ hp'))).trans (Keep.ofBelow hu)).trans (hK2 _ fun hf => ?_)
    exact hf p (by rw [htk]; exact List.mem_append_right _ List.mem_cons_self) rfl
  · by_cases e : i = k
    · subst e
      rw [hp] at hp'
      cases hp'
      refine ⟨z, d1, d2, rest, hz, ?_, ?_⟩
      · exact (((hB.kept hu).set 0 d1).set 1 d2)
      · refine MsgE.go (f := (wr.heap.size ≤ ·)) (hK2 _ (by omega)) (fun _ h => h) (fun q hq => ⟨by omega, fun p' hp' => ?_⟩) d _ _ hm
        have := (ha.b p' hp').2.2
        omega
    · obtain ⟨z', t1, t2, rest', h1, h2, h3⟩ := h.st i p' (by omega) hp'
      refine ⟨z', t1, t2, rest', h1, ?_, ?_⟩
      · exact (h2.kept hu).keep (hK2 (· ≠ p.b) (fun hf => hf rfl)) (ha.ne hp' hp e)
      · refine MsgE.go (f := (· ≠ p.b)) ((Keep.ofBelow hu).trans (hK2 _ (fun hf => hf rfl))) (fun q hq => hq.2 p (List.mem_of_getElem? hp)) (fun _ h => h) d _ _ h3
/-- The field that holds the settled messages. -/
theorem SetI.fin {d n0 base H : Nat} {wy wr : World} {g : CM → CM} {ts : List VS} {xs : List (CV CM)} {a : Option Addr} {c : Nat} (h : SetI d n0 wy wr g ts ts.length) (ho : OwnM wy base 26 3 (VlS d) (.slice a xs.length c) ts) (ht : TsOk base H ts xs) (ha : Apt base H ts) (hn : n0 ≤ base) (hl : xs.length ≤ 4000000) : VlsR wr (n0 ≤ ·) d (.slice a xs.length c) (xs.map (setV g)) := by
  have hK : Keep (fun q => ∀ p ∈ ts, q ≠ p.b) wy wr := h.kp.weak (fun q hq p hp => hq p (List.mem_of_mem_take hp))
  have hlen := ht.len
  obtain ⟨tt, hrow, hl2, he⟩ := ho
  have hZ : ∀ p ∈ ts, ∀ q, (Value.slice a xs.length c).ownBlock = some q → q ≠ p.b := by
    intro p hp q hq e
    obtain ⟨i, hi, rfl⟩ := List.mem_iff_getElem.1 hp
    obtain ⟨ba, bc, ma, mc, -, -, -, hm⟩ := he i _ _ (List.getElem?_eq_getElem (by omega)) (List.getElem?_eq_getElem hi)
    rcases hm with ⟨h0, -⟩ | ⟨z, s1, s2, rest, h1, -, -, -, h4, -⟩
    · obtain ⟨z, s1, s2, rest, h1, -⟩ := h.st i _ hi (List.getElem?_eq_getElem hi)
      rw [h0] at h1
      cases h1
    · rw [← e] at h4
      exact h4.2.2 hq
  refine ⟨tt, ?_, by rw [List.length_map]; omega, by rw [List.length_map]; exact hl, ?_⟩
  · have h1 : RowS wy (fun q => base ≤ q ∧ ∀ p ∈ ts, q ≠ p.b) 3 (.slice a xs.length c) ts.length (tt.flatMap Subtype.val) := own_row hrow (fun q hq => ⟨(own_type hrow hq).1, fun p hp => hZ p hp q hq⟩)
    have h2 : (xs.map (setV g)).length = ts.length := by rw [List.length_map]; omega
    rw [h2]
    exact (h1.keep hK (fun q hq => hq.2)).weak (fun q hq => Nat.le_trans hn hq.1)
  · intro i t v ht1 hv
    have hi : i < xs.length := by
      have := (List.getElem?_eq_some_iff.1 hv).1
      rwa [List.length_map] at this
    have hp : ts[i]? = some (ts[i]'(by omega)) := List.getElem?_eq_getElem (by omega)
    generalize hpe : ts[i]'(by omega) = p at hp
    have hpm := List.mem_of_getElem? hp
    have hxv : xs[i] = p.v := by
      have := ht.vs
      subst this
      rw [List.getElem_map, hpe]
    have hvv : v = setV g p.v := by
      rw [List.getElem?_map, List.getElem?_eq_getElem hi, hxv] at hv
      simp at hv
      exact hv.symm
    subst hvv
    obtain ⟨ba, bc, ma, mc, ecs, hu, hby, hm⟩ := he i t p ht1 hp
    obtain ⟨z, s1, s2, rest, hz, hB, hM⟩ := h.st i p (by omega) hp
    have hab := ha.b p hpm
    rcases hm with ⟨h0, -⟩ | ⟨z', s1', s2', rest', h1, h2, h3, h3', h4, h5, h6, -, -⟩
    · rw [hz] at h0; cases h0
    · have hms : (setV g p.v).ms = [g z] := by unfold setV; rw [hz]; rfl
      have hlm : p.v.ms.length = 1 := by rw [hz]; rfl
      refine ⟨.slice ba p.v.b.length bc, .slice ma 1 mc, by rw [ecs, hlm]; rfl, ?_, ?_, hu⟩
      · exact (hby.keep hK (fun q hq => ha.out hp hq.2.1 hq.2.2.1 hq.2.2.2)).weak (fun q hq => by have := hq.2.1; show _ ≤ _; omega)
      · rw [hms]
        subst h2
        refine ⟨[⟨[s1, s2], rfl⟩], ⟨_, mc, rfl, rfl, h3, h3', .inr ⟨p.b, 0, rfl, by show _ ≤ _; omega, fun j u hu => ?_⟩⟩, rfl, by simp, fun i' t' x' ht' hx' => ?_⟩
        · rw [Nat.zero_add]
          refine hB.cell j u ?_
          match j, hu with
          | 0, hu => simpa using hu
          | 1, hu => simpa using hu
          | j + 2, hu => simp at hu
        · match i', ht', hx' with
          | 0, ht', hx' =>
            simp at ht' hx'
            subst ht'
            subst hx'
            exact MsgE.go (Keep.refl (fun _ => True) _) (fun _ _ => trivial) (fun q hq => hq.1) d _ _ hM
          | i' + 1, ht', hx' => simp at ht'
theorem VlS.plain {d : Nat} {w : World} {Z : Nat → Prop} {cs : List Value} {p : VS} (h : VlS d w Z cs p) : ValE w Z (MsgE w Z d) cs p.v := by
  obtain ⟨ba, bc, ma, mc, rfl, hu, hb, hm⟩ := h
  refine ⟨_, _, rfl, hb.weak (fun q hq => hq.1), ?_, hu⟩
  rcases hm with ⟨h0, hr⟩ | ⟨z, s1, s2, rest, h1, rfl, h3, h3', h4, -, -, B, hm⟩
  · exact (hr.weak (fun q hq => hq.1)).imp (fun cs x hx _ => by rw [h0] at hx; simp at hx)
  · rw [h1]
    refine ⟨[⟨[s1, s2], rfl⟩], ⟨_, mc, rfl, rfl, h3, h3', .inr ⟨p.b, 0, rfl, h4, fun j u hu => ?_⟩⟩, rfl, by simp, fun i' t' x' ht' hx' => ?_⟩
    · rw [Nat.zero_add]
      refine B.cell j u ?_
      match j, hu with
      | 0, hu => simpa using hu
      | 1, hu => simpa using hu
      | j + 2, hu => simp at hu
    · match i', ht', hx' with
      | 0, ht', hx' =>
        simp at ht' hx'
        subst ht'
        subst hx'
        exact MsgE.go (Keep.refl (fun _ => True) _) (fun _ _ => trivial) (fun q hq => hq.1) d _ _ hm
      | i' + 1, ht', hx' => simp at ht'
theorem own_plain {d n0 base H : Nat} {wy : World} {ts : List VS} {xs : List (CV CM)} {a : Option Addr} {c : Nat} (ho : OwnM wy base 26 3 (VlS d) (.slice a xs.length c) ts) (ht : TsOk base H ts xs) (hn : n0 ≤ base) (hl : xs.length ≤ 4000000) : VlsR wy (n0 ≤ ·) d (.slice a xs.length c) xs := by
  have hlen := ht.len
  obtain ⟨tt, hr, hl2, -, he⟩ := OwnM.row (famVS d) ho (by omega)
  refine ⟨tt, ?_, by omega, hl, fun i t v ht1 hv => ?_⟩
  · rw [hlen] at hr
    exact hr.weak (fun q hq => Nat.le_trans hn hq)
  · have hi := (List.getElem?_eq_some_iff.1 hv).1
    have hp : ts[i]? = some (ts[i]'(by omega)) := List.getElem?_eq_getElem (by omega)
    have hE := (he i t _ ht1 hp).plain
    have hxv : (ts[i]'(by omega)).v = v := by
      have h1 := ht.vs
      subst h1
      rw [List.getElem?_map, hp] at hv
      simpa using hv
    rw [hxv] at hE
    exact hE.go (Keep.refl (fun _ => True) _) (fun _ _ => trivial) (fun q hq => Nat.le_trans hn hq) (fun cs m _ hm => MsgE.go (Keep.refl (fun _ => True) _) (fun _ _ => trivial) (fun q hq => Nat.le_trans hn hq) d _ _ hm)
set_option maxHeartbeats 2000000
theorem copyFieldD (d : Nat) (HC : CdAt d) : CfAt d := fun w Z cs x h => by
  obtain ⟨ka, kc, va, vc, rfl, g, q, -, -, hu⟩ := fld_open h
  have HU := hid hu
  have G := hid fun W (hW : Below w.heap.size w W) => copyValsD d HC W Z x.ks ka kc (g.kept hW)
  have Q := hid fun W (hW : Below w.heap.size w W) => copyValsD d HC W Z x.vs va vc (q.kept hW)
  clear h g q hu HC
  go_enter Tryz.func47, Tryz.ntmps47
  go_upto_region 1 with fail
  have Bx : Blk ((w.alloc (.cells #[.int .i64 x.num, .slice ka x.ks.length kc, .slice va x.vs.length vc] 29)).alloc (.cells #[.int .i64 0, .slice none 0 0, .slice none 0 0] 29)) w.heap.size 29 #[.int .i64 x.num, .slice ka x.ks.length kc, .slice va x.vs.length vc] := (Blk.new _ _ _).kept (below_alloc _)
  have Br : Blk ((w.alloc (.cells #[.int .i64 x.num, .slice ka x.ks.length kc, .slice va x.vs.length vc] 29)).alloc (.cells #[.int .i64 0, .slice none 0 0, .slice none 0 0] 29)) (w.heap.size + 1) 29 #[.int .i64 0, .slice none 0 0, .slice none 0 0] := Blk.newAt (by simp)
  have HB : Hid (Below w.heap.size w ((w.alloc (.cells #[.int .i64 x.num, .slice ka x.ks.length kc, .slice va x.vs.length vc] 29)).alloc (.cells #[.int .i64 0, .slice none 0 0, .slice none 0 0] 29))) := hid (by exact blBy)
  have HS : Hid (w.heap.size + 2 ≤ ((w.alloc (.cells #[.int .i64 x.num, .slice ka x.ks.length kc, .slice va x.vs.length vc] 29)).alloc (.cells #[.int .i64 0, .slice none 0 0, .slice none 0 0] 29)).heap.size) := hid (by simp)
  generalize ((w.alloc (.cells #[.int .i64 x.num, .slice ka x.ks.length kc, .slice va x.vs.length vc] 29)).alloc (.cells #[.int .i64 0, .slice none 0 0, .slice none 0 0] 29)) = W at *
  have f0 : W.cell? ⟨w.heap.size, 0, none⟩ = some (.int .i64 x.num) := Bx.cell 0 _ rfl
  have f1 : W.cell? ⟨w.heap.size, 1, none⟩ = some (.slice ka x.ks.length kc) := Bx.cell 1 _ rfl
  have f2 : W.cell? ⟨w.heap.size, 2, none⟩ = some (.slice va x.vs.length vc) := Bx.cell 2 _ rfl
  have hp1 : w.heap.size ≠ w.heap.size + 1 := by omega
  have xr := Br.cellF
  have yr := Br.frz
  have zr := Br.lt
  clear Bx
  go_region_held3 (fun W => W.cell? ⟨w.heap.size, 0, none⟩ = some (.int .i64 x.num) ∧ W.cell? ⟨w.heap.size, 1, none⟩ = some (.slice ka x.ks.length kc) ∧ W.cell? ⟨w.heap.size, 2, none⟩ = some (.slice va x.vs.length vc)) (first | exact ⟨f0, f1, f2⟩ | exact ⟨cs3 f0 hp1, cs3 f1 hp1, cs3 f2 hp1⟩) (first | (go_at_call_of 91 (Value.slice ka x.ks.length kc); refine (G.out _ (by have := HB.out; exact blBy)).mono ?_; rintro e w2 ⟨a1, c1, rfl, hn, hbx⟩; replace f0 := cell_below f0 (below_trans (by first | exact Below.refl _ _ | exact below_drew1 _ | exact below_drewN _ _) hbx); replace f1 := cell_below f1 (below_trans (by first | exact Below.refl _ _ | exact below_drew1 _ | exact below_drewN _ _) hbx); replace f2 := cell_below f2 (below_trans (by first | exact Below.refl _ _ | exact below_drew1 _ | exact below_drewN _ _) hbx); replace Br := Br.kept (below_trans (by first | exact Below.refl _ _ | exact below_drew1 _ | exact below_drewN _ _) hbx); replace xr := Br.cellF; replace yr := Br.frz; replace zr := Br.lt; replace HB := hid (below_trans HB.out (below_trans (by first | exact Below.refl _ _ | exact below_drew1 _ | exact below_drewN _ _) hbx)); have H1 : Hid (VlsR w2 (w.heap.size + 2 ≤ ·) d (.slice a1 x.ks.length c1) x.ks) := hid (VlsR.go hn (Keep.refl (fun _ => True) w2) (fun _ _ => trivial) (fun k hk => Nat.le_trans HS.out hk)); (try replace H2 := hid (VlsR.kept H2.out (below_trans (by first | exact Below.refl _ _ | exact below_drew1 _ | exact below_drewN _ _) hbx))); replace HS := hid (Nat.le_trans HS.out (Below.size (below_trans (by first | exact Below.refl _ _ | exact below_drew1 _ | exact below_drewN _ _) hbx))); clear hn hbx) | (go_at_call_of 91 (Value.slice va x.vs.length vc); refine (Q.out _ (by have := HB.out; exact blBy)).mono ?_; rintro e w3 ⟨a2, c2, rfl, hn, hbx⟩; replace f0 := cell_below f0 (below_trans (by first | exact Below.refl _ _ | exact below_drew1 _ | exact below_drewN _ _) hbx); replace f1 := cell_below f1 (below_trans (by first | exact Below.refl _ _ | exact below_drew1 _ | exact below_drewN _ _) hbx); replace f2 := cell_below f2 (below_trans (by first | exact Below.refl _ _ | exact below_drew1 _ | exact below_drewN _ _) hbx); replace Br := Br.kept (below_trans (by first | exact Below.refl _ _ | exact below_drew1 _ | exact below_drewN _ _) hbx); replace xr := Br.cellF; replace yr := Br.frz; replace zr := Br.lt; replace HB := hid (below_trans HB.out (below_trans (by first | exact Below.refl _ _ | exact below_drew1 _ | exact below_drewN _ _) hbx)); have H2 : Hid (VlsR w3 (w.heap.size + 2 ≤ ·) d (.slice a2 x.vs.length c2) x.vs) := hid (VlsR.go hn (Keep.refl (fun _ => True) w3) (fun _ _ => trivial) (fun k hk => Nat.le_trans HS.out hk)); (try replace H1 := hid (VlsR.kept H1.out (below_trans (by first | exact Below.refl _ _ | exact below_drew1 _ | exact below_drewN _ _) hbx))); replace HS := hid (Nat.le_trans HS.out (Below.size (below_trans (by first | exact Below.refl _ _ | exact below_drew1 _ | exact below_drewN _ _) hbx))); clear hn hbx))
  all_goals go_wp2
  all_goals exact bodyPost_ret (v := .agg #[.int .i64 x.num, .slice a1 x.ks.length c1, .slice a2 x.vs.length c2]) (by simp [results, Tryz.results47, go_sem, xr, zr, yr]) rfl (NewE.mk [.int .i64 x.num, .slice a1 x.ks.length c1, .slice a2 x.vs.length c2] ⟨_, _, rfl, VlsR.go H1.out (f := (w.heap.size + 2 ≤ ·)) (by with_reducible repeat (first | exact Keep.refl _ _ | refine kpS ?_ (by first | (simp; done) | (simp; omega) | omega) | refine kpA ?_ _ | refine kpD ?_ | refine kpN ?_ _)) (fun _ h => h) (fun k hk => by omega), VlsR.go H2.out (f := (w.heap.size + 2 ≤ ·)) (by with_reducible repeat (first | exact Keep.refl _ _ | refine kpS ?_ (by first | (simp; done) | (simp; omega) | omega) | refine kpA ?_ _ | refine kpD ?_ | refine kpN ?_ _)) (fun _ h => h) (fun k hk => by omega), HU.out⟩ (by have := HB.out; exact blBy))
theorem copyD : ∀ d, CdAt d
  | 0 => fun _ _ _ _ h => h.elim
  | d + 1 => copyStepD d (copyFieldD d (copyD d))
end Go.Proofs.YtnfdlnelfnigdaaGreatDoor
