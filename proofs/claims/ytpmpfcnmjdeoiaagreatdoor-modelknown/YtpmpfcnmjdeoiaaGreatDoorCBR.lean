/-
  Settle: what the program answers.
  Settle.
  The messages of the examples, laid.
  The laws' first question: a number that fits, and one that does not.
  Chapter 8's examples.
  The variables of Go's library that the rows list: a world that lays them; the one that is named alone.
-/
import Derived.Test.YtpmpfcnmjdeoiaaGreatDoorCBN
import Derived.Test.YtpmpfcnmjdeoiaaGreatDoorCBJ
import Derived.Test.YtpmpfcnmjdeoiaaGreatDoorCTY
import Derived.Deep.RegionHeld3
import Derived.Test.YtpmpfcnmjdeoiaaGreatDoorCAB
import Derived.Test.YtpmpfcnmjdeoiaaGreatDoorRows
import Derived.Stop.LaidErr
import Derived.Deep.DeepHandedRow
import Derived.Deep.DeepWitnessRowRef
import Derived.LaidLaws
namespace Go.Proofs.YtpmpfcnmjdeoiaaGreatDoor
open Go.RowKit
set_option maxRecDepth 1000000
set_option linter.unusedVariables false
set_option linter.unusedSimpArgs false
set_option maxHeartbeats 2000000
theorem typedAtOk (w : World) (l : List TV) (ta : Option Addr) (tc : Nat) (h : TbR w (.slice ta l.length tc) l) (hk : ∀ x ∈ l, OkV x) (mx : Int) (hm0 : w.cell? ⟨0, 0, none⟩ = some (.int .i64 mx)) (k : Nat) (hkl : k < l.length) (hg : goodB l = true) (he : l[k].t.enum = false) (Z : Nat → Prop) (d : Nat) (cs : List Value) (m : CM) (hm : MsgE w Z d cs m) (hq : keptB l d l[k] m = true) : Calls Tryz.prog 36 #[.agg #[.slice ta l.length tc], .int .i64 (k : Int), .agg cs.toArray] w fun e w' => e = .returned (.tuple #[.agg #[.string (strOfNums l[k].t.name), .bool false, l[k].f, l[k].o, l[k].s, l[k].r], .agg #[.slice ta l.length tc], .int .i64 0]) ∧ Below w.heap.size w w' := by
  have HA := hid fun W (hW : Below w.heap.size w W) => msgAtOk W l ta tc (h.kept hW) hk mx (cell_below hm0 hW) k hkl hg he
  have HK := hid fun W (hW : Below w.heap.size w W) => areKeptT W l ta tc (h.kept hW) hg l[k] (List.getElem_mem hkl) Z d cs m (hm.kept hW)
  obtain ⟨ta1, tc1, ta2, tc2, ta3, tc3, ta4, tc4, e1, e2, e3, e4⟩ := shT_of (h.ty l[k] (List.getElem_mem hkl))
  have ec : cTV l[k] = [.string (strOfNums l[k].t.name), .bool false, .slice ta1 l[k].t.fs.length tc1, .slice ta2 l[k].t.os.length tc2, .slice ta3 l[k].t.ss.length tc3, .slice ta4 l[k].t.rs.length tc4] := by unfold cTV; rw [e1, e2, e3, e4, he]
  obtain ⟨fa, fc, ua, uc, rfl, -⟩ := msg_openD hm
  rw [ec] at HK
  rw [e1, e2, e3, e4] at HA
  rw [hq] at HK
  rw [e1, e2, e3, e4]
  clear h hg hm e1 e2 e3 e4 ec hm0 hk he hq
  generalize l[k] = x at *
  go_enter Tryz.func36, Tryz.ntmps36
  go_wp2_with fail
  refine (HA.out _ (by exact blBy)).mono ?_
  rintro e w1 ⟨rfl, hb1⟩
  have HB1 : Hid (Below w.heap.size w w1) := hid (bl_then (by exact blBy) hb1)
  have Bt : Blk w1 w.heap.size 46 #[.slice ta l.length tc] := ((((Blk.new _ _ _).kept (below_alloc _)).kept (below_alloc _)).kept (below_alloc _)).kept hb1
  have Bm : Blk w1 (w.heap.size + 1) 35 #[.slice fa m.fs.length fc, .slice ua m.us.length uc] := (((Blk.newAt (by simp)).kept (below_alloc _)).kept (below_alloc _)).kept hb1
  have Br5 : Blk w1 (w.heap.size + 1 + 1) 71 #[.string ⟨#[]⟩, .bool false, .slice none 0 0, .slice none 0 0, .slice none 0 0, .slice none 0 0] := ((Blk.newAt (by simp)).kept (below_alloc _)).kept hb1
  have Br6 : Blk w1 (w.heap.size + 1 + 1 + 1) 73 #[.slice none 0 0] := (Blk.newAt (by simp)).kept hb1
  have xt := Bt.cellF
  have zt := Bt.lt
  have xm := Bm.cellF
  have zm := Bm.lt
  have xr5 := Br5.cellF
  have yr5 := Br5.frz
  have zr5 := Br5.lt
  have xr6 := Br6.cellF
  have yr6 := Br6.frz
  have zr6 := Br6.lt
  clear HA
  go_wp2_with fail
  refine (HK.out _ (by have := HB1.out; exact blBy)).mono ?_
  rintro e w2 ⟨rfl, hb2⟩
  have HB2 : Hid (Below w.heap.size w w2) := hid (bl_then (by have := HB1.out; exact blBy) hb2)
  have hz2 : Below w1.heap.size w1 w2 := bl_then (by exact blBy) hb2
  have Bx2 : Blk w2 w1.heap.size 71 #[.string (strOfNums x.t.name), .bool false, .slice ta1 x.t.fs.length tc1, .slice ta2 x.t.os.length tc2, .slice ta3 x.t.ss.length tc3, .slice ta4 x.t.rs.length tc4] := ((Blk.new _ _ _).kept (below_alloc _)).kept hb2
  have Bq2 : Blk w2 (w1.heap.size + 1) 73 #[.slice ta l.length tc] := (Blk.newAt (by simp)).kept hb2
  replace Br5 := Br5.kept hz2
  replace Br6 := Br6.kept hz2
  replace xr5 := Br5.cellF
  replace yr5 := Br5.frz
  replace zr5 := Br5.lt
  replace xr6 := Br6.cellF
  replace yr6 := Br6.frz
  replace zr6 := Br6.lt
  have xx2 := Bx2.cellF
  have zx2 := Bx2.lt
  have xq2 := Bq2.cellF
  have zq2 := Bq2.lt
  have hs1 : w.heap.size + 4 ≤ w1.heap.size := by have := hb1.size; simpa using this
  have n1 : w1.heap.size + 1 ≠ w.heap.size + 1 + 1 := by omega
  have n2 : w1.heap.size ≠ w.heap.size + 1 + 1 := by omega
  have n3 : w1.heap.size + 1 ≠ w.heap.size + 1 + 1 + 1 := by omega
  have n4 : w1.heap.size ≠ w.heap.size + 1 + 1 + 1 := by omega
  have n5 : w.heap.size + 1 + 1 ≠ w.heap.size + 1 + 1 + 1 := by omega
  clear hb2 hz2 HK xt zt xm zm
  go_wp2
  go_region
  all_goals (try go_wp2)
  all_goals exact bodyPost_ret (v := .tuple #[.agg #[.string (strOfNums x.t.name), .bool false, .slice ta1 x.t.fs.length tc1, .slice ta2 x.t.os.length tc2, .slice ta3 x.t.ss.length tc3, .slice ta4 x.t.rs.length tc4], .agg #[.slice ta l.length tc], .int .i64 0]) (by simp [results, Tryz.results36, go_sem, xr5, yr5, zr5, xr6, yr6, zr6]) rfl ⟨rfl, by have := HB2.out; exact blBy⟩
end Go.Proofs.YtpmpfcnmjdeoiaaGreatDoor
namespace Go.Proofs.YtpmpfcnmjdeoiaaGreatDoor
open Go.RowKit
set_option maxRecDepth 1000000
set_option linter.unusedVariables false
set_option linter.unusedSimpArgs false
set_option maxHeartbeats 2000000
theorem settleOk (w : World) (l : List TV) (ta : Option Addr) (tc : Nat) (h : TbR w (.slice ta l.length tc) l) (hk : ∀ x ∈ l, OkV x) (mx : Int) (hm0 : w.cell? ⟨0, 0, none⟩ = some (.int .i64 mx)) (k : Nat) (hkl : k < l.length) (hg : goodB l = true) (he : l[k].t.enum = false) (Z : Nat → Prop) (d : Nat) (cs : List Value) (m : CM) (hm : MsgE w Z d cs m) (hq : keptB l d l[k] m = true) : Calls Tryz.prog 15 #[.agg #[.slice ta l.length tc], .int .i64 (k : Int), .agg cs.toArray] w fun e w' => ∃ ds : List Value, e = .returned (.tuple #[.agg ds.toArray, .int .i64 0]) ∧ MsgE w' (w.heap.size ≤ ·) d ds (setM l d l[k] m) ∧ Below w.heap.size w w' := by
  have HA := hid fun W (hW : Below w.heap.size w W) => typedAtOk W l ta tc (h.kept hW) hk mx (cell_below hm0 hW) k hkl hg he Z d cs m (hm.kept hW) hq
  have HR := hid fun W (hW : Below w.heap.size w W) => rebuiltS l ta tc hg d W Z l[k] cs m (h.kept hW) (List.getElem_mem hkl) hq (hm.kept hW)
  obtain ⟨ta1, tc1, ta2, tc2, ta3, tc3, ta4, tc4, e1, e2, e3, e4⟩ := shT_of (h.ty l[k] (List.getElem_mem hkl))
  have ec : cTV l[k] = [.string (strOfNums l[k].t.name), .bool false, .slice ta1 l[k].t.fs.length tc1, .slice ta2 l[k].t.os.length tc2, .slice ta3 l[k].t.ss.length tc3, .slice ta4 l[k].t.rs.length tc4] := by unfold cTV; rw [e1, e2, e3, e4, he]
  obtain ⟨fa, fc, ua, uc, rfl, -⟩ := msg_openD hm
  rw [ec] at HR
  rw [e1, e2, e3, e4] at HA
  clear h hg hm e1 e2 e3 e4 ec hm0 hk he hq
  generalize setM l d l[k] m = sm at *
  generalize l[k] = x at *
  go_enter Tryz.func15, Tryz.ntmps15
  go_wp2_with fail
  refine (HA.out _ (by exact blBy)).mono ?_
  rintro e w1 ⟨rfl, hb1⟩
  have HB1 : Hid (Below w.heap.size w w1) := hid (bl_then (by exact blBy) hb1)
  have Bm : Blk w1 (w.heap.size + 1) 35 #[.slice fa m.fs.length fc, .slice ua m.us.length uc] := ((Blk.newAt (by simp)).kept (below_alloc _)).kept hb1
  have Br : Blk w1 (w.heap.size + 1 + 1) 35 #[.slice none 0 0, .slice none 0 0] := (Blk.newAt (by simp)).kept hb1
  have hs1 : Hid (w.heap.size + 3 ≤ w1.heap.size) := hid (by have := hb1.size; simpa using this)
  have xm := Bm.cellF
  have zm := Bm.lt
  have zt1 : w.heap.size < w1.heap.size := by have := hb1.size; simp at this; omega
  have zm1 : w.heap.size + 1 < w1.heap.size := by have := hb1.size; simp at this; omega
  clear HA hb1
  go_wp2_with fail
  refine (HR.out _ (by have := HB1.out; exact blBy)).mono ?_
  rintro e w2 ⟨ds, rfl, hn, hb2⟩
  have HB2 : Hid (Below w.heap.size w w2) := hid (bl_then (by have := HB1.out; exact blBy) hb2)
  have hz2 : Below w1.heap.size w1 w2 := bl_then (by exact blBy) hb2
  have HN : Hid (MsgE w2 (w.heap.size + 3 ≤ ·) d ds sm) := hid (MsgE.go (Keep.refl (fun _ => True) w2) (fun _ _ => trivial) (fun k hk => by have := hs1.out; simp at hk; omega) d _ _ hn)
  replace Br := Br.kept hz2
  have xr := Br.cellF
  have yr := Br.frz
  have zr := Br.lt
  clear hb2 hz2 hn HR xm zm
  obtain ⟨na, nc, va, vc, rfl, -⟩ := msg_openD HN.out
  go_wp2
  exact bodyPost_ret (v := .tuple #[.agg #[.slice na sm.fs.length nc, .slice va sm.us.length vc], .int .i64 0]) (by simp [results, Tryz.results15, go_sem, xr, yr, zr, zt1, zm1]) rfl ⟨[.slice na sm.fs.length nc, .slice va sm.us.length vc], rfl, MsgE.go (f := (w.heap.size + 3 ≤ ·)) (by with_reducible repeat (first | exact Keep.refl _ _ | refine kpS ?_ (by first | (simp; done) | (simp; omega) | omega) | refine kpA ?_ _ | refine kpD ?_ | refine kpN ?_ _)) (fun _ h => h) (fun k hk => by omega) d _ _ HN.out, by have := HB2.out; exact blBy⟩
end Go.Proofs.YtpmpfcnmjdeoiaaGreatDoor
namespace Go.Proofs.YtpmpfcnmjdeoiaaGreatDoor
open Go.RowKit
set_option maxRecDepth 1000000
set_option linter.unusedVariables false
set_option linter.unusedSimpArgs false
set_option maxHeartbeats 1000000
theorem rowM_blk {α : Type} {W : World} {E : List Value → α → Prop} {k p : Nat} {t : TypeId} (ts : List (Tup k)) (xs : List α) (hl : ts.length = xs.length) (hn : xs.length ≤ 4000000) {cs : Array Value} (B : Blk W p t cs) (hc : cs = (ts.flatMap Subtype.val).toArray) (he : ∀ (i : Nat) (t : Tup k) (x : α), ts[i]? = some t → xs[i]? = some x → E t.1 x) : RowM W AnyZ k E (.slice (some ⟨p, 0, none⟩) xs.length xs.length) xs :=
  ⟨ts, rowOf B k xs.length _ hc (by rw [← hl]; exact flatM_len (fun x => x.2) ts) (by omega), hl, hn, he⟩
theorem rowM_one {α : Type} {W : World} {E : List Value → α → Prop} {k p : Nat} {t : TypeId} {cs : List Value} {x : α} (B : Blk W p t cs.toArray) (hk : cs.length = k) (he : E cs x) : RowM W AnyZ k E (.slice (some ⟨p, 0, none⟩) 1 1) [x] :=
  rowM_blk [⟨cs, hk⟩] [x] rfl (by simp) B (by simp) (fun i t y h1 h2 => by
    cases i with
    | zero => simp at h1 h2; subst h1 h2; exact he
    | succ i => simp at h1)
theorem rowM_two {α : Type} {W : World} {E : List Value → α → Prop} {k p : Nat} {t : TypeId} {cs ds : List Value} {x y : α} {es : Array Value} (B : Blk W p t es) (hes : es = (cs ++ ds).toArray) (hk : cs.length = k) (hk2 : ds.length = k) (he : E cs x) (he2 : E ds y) : RowM W AnyZ k E (.slice (some ⟨p, 0, none⟩) 2 2) [x, y] :=
  rowM_blk [⟨cs, hk⟩, ⟨ds, hk2⟩] [x, y] rfl (by simp) B (by rw [hes]; simp) (fun i t z h1 h2 => by
    match i, h1, h2 with
    | 0, h1, h2 => simp at h1 h2; subst h1 h2; exact he
    | 1, h1, h2 => simp at h1 h2; subst h1 h2; exact he2
    | i + 2, h1, _ => simp at h1)
theorem by_nil (W : World) (Z : Nat → Prop) : ByE W Z (.slice none 0 0) [] := ⟨rowS_nil _ _ _, by simp, by simp⟩
theorem val_num (W : World) (Z : Nat → Prop) (R : List Value → CM → Prop) (n : Int) (hn : U64 n) : ValE W Z R [.int .u64 n, .slice none 0 0, .slice none 0 0] ⟨n, [], []⟩ := ⟨_, _, rfl, by_nil W Z, RowM.nil _ _ _ _, hn⟩
/-- A field of one number. -/
def nF (k n : Int) : CF CM := ⟨k, [], [⟨n, [], []⟩]⟩
theorem nW (w : World) (k v : Int) (hk : I64 k) (n : Int) (hv : (IntKind.u64.wrap v) = n) (hn : U64 n) (d : Nat) : Calls Tryz.prog 12 #[.int .i64 k, .int .i64 v] w fun e w' => ∃ cs : List Value, e = .returned (.agg cs.toArray) ∧ cs.length = 3 ∧ FldE w' AnyZ (MsgE w' AnyZ d) cs (nF k n) ∧ Below w.heap.size w w' := by
  go_enter Tryz.func12, Tryz.ntmps12
  go_wp2
  have B : Blk ((w.alloc (.cells #[.int .i64 k, .slice none 0 0, .slice (some ⟨w.heap.size + 1, 0, none⟩) 1 1] 29)).alloc (.cells #[.int .u64 n, .slice none 0 0, .slice none 0 0] 26)) (w.heap.size + 1) 26 #[.int .u64 n, .slice none 0 0, .slice none 0 0] := Blk.newAt (by simp)
  exact bodyPost_ret (v := .agg #[.int .i64 k, .slice none 0 0, .slice (some ⟨w.heap.size + 1, 0, none⟩) 1 1]) (by simp [results, Tryz.results12, go_sem]) rfl ⟨[.int .i64 k, .slice none 0 0, .slice (some ⟨w.heap.size + 1, 0, none⟩) 1 1], rfl, rfl, ⟨_, _, rfl, RowM.nil _ _ _ _, rowM_one (cs := [.int .u64 n, .slice none 0 0, .slice none 0 0]) B rfl (val_num _ _ _ n hn), hk⟩, by exact blBy⟩
theorem MsgE.any {w : World} {Z : Nat → Prop} {d : Nat} {cs : List Value} {m : CM} (h : MsgE w Z d cs m) : MsgE w AnyZ d cs m := MsgE.go (Keep.refl (fun _ => True) w) (fun _ _ => trivial) (fun _ _ => trivial) d _ _ h
/-- A field of one message. -/
def inF (k : Int) (m : CM) : CF CM := ⟨k, [], [⟨0, [], [m]⟩]⟩
theorem inW (w : World) (k : Int) (hk : I64 k) (Z : Nat → Prop) (d : Nat) (cs : List Value) (m : CM) (hm : MsgE w Z d cs m) : Calls Tryz.prog 14 #[.int .i64 k, .agg cs.toArray] w fun e w' => ∃ cs : List Value, e = .returned (.agg cs.toArray) ∧ cs.length = 3 ∧ FldE w' AnyZ (MsgE w' AnyZ d) cs (inF k m) ∧ Below w.heap.size w w' := by
  have HM := hid hm.any
  obtain ⟨fa, fc, ua, uc, rfl, -⟩ := msg_openD hm
  clear hm
  go_enter Tryz.func14, Tryz.ntmps14
  go_wp2
  have B2 : Blk ((((w.alloc (.cells #[.slice fa m.fs.length fc, .slice ua m.us.length uc] 35)).alloc (.cells #[.int .i64 k, .slice none 0 0, .slice (some ⟨w.heap.size + 1 + 1 + 1, 0, none⟩) 1 1] 29)).alloc (.cells #[.slice fa m.fs.length fc, .slice ua m.us.length uc] 35)).alloc (.cells #[.int .u64 0, .slice none 0 0, .slice (some ⟨w.heap.size + 1 + 1, 0, none⟩) 1 1] 26)) (w.heap.size + 1 + 1) 35 #[.slice fa m.fs.length fc, .slice ua m.us.length uc] := (Blk.newAt (by simp)).kept (below_alloc _)
  have B3 : Blk ((((w.alloc (.cells #[.slice fa m.fs.length fc, .slice ua m.us.length uc] 35)).alloc (.cells #[.int .i64 k, .slice none 0 0, .slice (some ⟨w.heap.size + 1 + 1 + 1, 0, none⟩) 1 1] 29)).alloc (.cells #[.slice fa m.fs.length fc, .slice ua m.us.length uc] 35)).alloc (.cells #[.int .u64 0, .slice none 0 0, .slice (some ⟨w.heap.size + 1 + 1, 0, none⟩) 1 1] 26)) (w.heap.size + 1 + 1 + 1) 26 #[.int .u64 0, .slice none 0 0, .slice (some ⟨w.heap.size + 1 + 1, 0, none⟩) 1 1] := Blk.newAt (by simp)
  have HB : Below w.heap.size w ((((w.alloc (.cells #[.slice fa m.fs.length fc, .slice ua m.us.length uc] 35)).alloc (.cells #[.int .i64 k, .slice none 0 0, .slice (some ⟨w.heap.size + 1 + 1 + 1, 0, none⟩) 1 1] 29)).alloc (.cells #[.slice fa m.fs.length fc, .slice ua m.us.length uc] 35)).alloc (.cells #[.int .u64 0, .slice none 0 0, .slice (some ⟨w.heap.size + 1 + 1, 0, none⟩) 1 1] 26)) := by exact blBy
  have HK := HM.out.kept HB
  exact bodyPost_ret (v := .agg #[.int .i64 k, .slice none 0 0, .slice (some ⟨w.heap.size + 1 + 1 + 1, 0, none⟩) 1 1]) (by simp [results, Tryz.results14, go_sem]) rfl ⟨[.int .i64 k, .slice none 0 0, .slice (some ⟨w.heap.size + 1 + 1 + 1, 0, none⟩) 1 1], rfl, rfl, ⟨_, _, rfl, RowM.nil _ _ _ _, rowM_one (cs := [.int .u64 0, .slice none 0 0, .slice (some ⟨w.heap.size + 1 + 1, 0, none⟩) 1 1]) B3 rfl ⟨_, _, rfl, by_nil _ _, rowM_one (cs := [.slice fa m.fs.length fc, .slice ua m.us.length uc]) B2 rfl HK, (show U64 0 from ⟨by decide, by decide⟩)⟩, hk⟩, HB⟩
theorem msgW (w : World) (a : Option Addr) (n c : Nat) : Calls Tryz.prog 11 #[.slice a n c] w fun e w' => e = .returned (.agg #[.slice a n c, .slice none 0 0]) ∧ Below w.heap.size w w' := by
  go_enter Tryz.func11, Tryz.ntmps11
  go_wp2
  exact bodyPost_ret (v := .agg #[.slice a n c, .slice none 0 0]) (by simp [results, Tryz.results11, go_sem]) rfl ⟨rfl, by exact blBy⟩
theorem typedLW (w : World) (mx : Int) (hm0 : w.cell? ⟨0, 0, none⟩ = some (.int .i64 mx)) (Z : Nat → Prop) (d : Nat) (cs : List Value) (m : CM) (hm : MsgE w Z d cs m) (is want : Bool) (hi : ∀ h, keptB (simL h) d (simM h) m = is) : Calls Tryz.prog 10 #[.agg cs.toArray, .bool want] w fun e w' => e = .returned (.bool (is == want)) ∧ Below w.heap.size w w' := by
  have HT : Hid (∀ (W : World) (h : Nat) (a : Option Addr), Below w.heap.size w W → TbR W (.slice a (simL h).length 2) (simL h) → Calls Tryz.prog 19 #[.agg #[.slice a (simL h).length 2], .int .i64 1, .agg cs.toArray] W fun e w' => e = .returned (.tuple #[.bool is, .int .i64 0]) ∧ Below W.heap.size W w') := hid fun W h a hW hT => by
    have := typedT W (simL h) a 2 hT (simOk h) mx (cell_below hm0 hW) 1 (by show 1 < 2; decide) (simGood h) rfl Z d cs m (hm.kept hW)
    rw [show keptB (simL h) d ((simL h)[1]'(by show 1 < 2; decide)) m = is from hi h] at this
    exact this
  obtain ⟨fa, fc, ua, uc, rfl, -⟩ := msg_openD hm
  clear hm hm0 hi
  go_enter Tryz.func10, Tryz.ntmps10
  go_upto_region 1 with fail
  have Bm : Blk (w.alloc (.cells #[.slice fa m.fs.length fc, .slice ua m.us.length uc] 35)) w.heap.size 35 #[.slice fa m.fs.length fc, .slice ua m.us.length uc] := Blk.new _ _ _
  have HB : Hid (Below w.heap.size w (w.alloc (.cells #[.slice fa m.fs.length fc, .slice ua m.us.length uc] 35))) := hid (by exact blBy)
  generalize (w.alloc (.cells #[.slice fa m.fs.length fc, .slice ua m.us.length uc] 35)) = W at *
  have f0 : W.cell? ⟨w.heap.size, 0, none⟩ = some (.slice fa m.fs.length fc) := Bm.cell 0 _ rfl
  have f1 : W.cell? ⟨w.heap.size, 1, none⟩ = some (.slice ua m.us.length uc) := Bm.cell 1 _ rfl
  clear Bm
  go_region_held3 (fun W => W.cell? ⟨w.heap.size, 0, none⟩ = some (.slice fa m.fs.length fc) ∧ W.cell? ⟨w.heap.size, 1, none⟩ = some (.slice ua m.us.length uc)) (exact ⟨f0, f1⟩) (first | (go_at_call 16; refine (simpleW _).mono ?_; rintro e w2 ⟨rfl, ht, hbx⟩; replace f0 := cell_below f0 (below_trans (by first | exact Below.refl _ _ | exact below_drew1 _ | exact below_drewN _ _) hbx); replace f1 := cell_below f1 (below_trans (by first | exact Below.refl _ _ | exact below_drew1 _ | exact below_drewN _ _) hbx); replace HB := hid (below_trans HB.out (below_trans (by first | exact Below.refl _ _ | exact below_drew1 _ | exact below_drewN _ _) hbx)); have HT1 := hid ht; clear ht hbx) | (go_at_call 19; refine (HT.out _ _ _ (by have := HB.out; exact blBy) (HT1.out.kept (by first | exact Below.refl _ _ | exact below_drew1 _ | exact below_drewN _ _))).mono ?_; rintro e w3 ⟨rfl, hbx⟩; replace f0 := cell_below f0 (below_trans (by first | exact Below.refl _ _ | exact below_drew1 _ | exact below_drewN _ _) hbx); replace f1 := cell_below f1 (below_trans (by first | exact Below.refl _ _ | exact below_drew1 _ | exact below_drewN _ _) hbx); replace HB := hid (below_trans HB.out (below_trans (by first | exact Below.refl _ _ | exact below_drew1 _ | exact below_drewN _ _) hbx)); clear hbx))
  all_goals go_wp2
  all_goals (go_ret; exact ⟨ret_bool (by cases is <;> cases want <;> rfl), by have := HB.out; exact blBy⟩)
theorem normalLW (w : World) (mx : Int) (hm0 : w.cell? ⟨0, 0, none⟩ = some (.int .i64 mx)) (Z : Nat → Prop) (d : Nat) (cs : List Value) (m : CM) (hm : MsgE w Z d cs m) (is want : Bool) (hi : ∀ h, normB (simL h) d (simM h) m = is) : Calls Tryz.prog 13 #[.agg cs.toArray, .bool want] w fun e w' => e = .returned (.bool (is == want)) ∧ Below w.heap.size w w' := by
  have HT : Hid (∀ (W : World) (h : Nat) (a : Option Addr), Below w.heap.size w W → TbR W (.slice a (simL h).length 2) (simL h) → Calls Tryz.prog 20 #[.agg #[.slice a (simL h).length 2], .int .i64 1, .agg cs.toArray] W fun e w' => e = .returned (.tuple #[.bool is, .int .i64 0]) ∧ Below W.heap.size W w') := hid fun W h a hW hT => by
    have := normalT W (simL h) a 2 hT (simOk h) mx (cell_below hm0 hW) 1 (by show 1 < 2; decide) (simGood h) rfl Z d cs m (hm.kept hW)
    rw [show normB (simL h) d ((simL h)[1]'(by show 1 < 2; decide)) m = is from hi h] at this
    exact this
  obtain ⟨fa, fc, ua, uc, rfl, -⟩ := msg_openD hm
  clear hm hm0 hi
  go_enter Tryz.func13, Tryz.ntmps13
  go_upto_region 1 with fail
  have Bm : Blk (w.alloc (.cells #[.slice fa m.fs.length fc, .slice ua m.us.length uc] 35)) w.heap.size 35 #[.slice fa m.fs.length fc, .slice ua m.us.length uc] := Blk.new _ _ _
  have HB : Hid (Below w.heap.size w (w.alloc (.cells #[.slice fa m.fs.length fc, .slice ua m.us.length uc] 35))) := hid (by exact blBy)
  generalize (w.alloc (.cells #[.slice fa m.fs.length fc, .slice ua m.us.length uc] 35)) = W at *
  have f0 : W.cell? ⟨w.heap.size, 0, none⟩ = some (.slice fa m.fs.length fc) := Bm.cell 0 _ rfl
  have f1 : W.cell? ⟨w.heap.size, 1, none⟩ = some (.slice ua m.us.length uc) := Bm.cell 1 _ rfl
  clear Bm
  go_region_held3 (fun W => W.cell? ⟨w.heap.size, 0, none⟩ = some (.slice fa m.fs.length fc) ∧ W.cell? ⟨w.heap.size, 1, none⟩ = some (.slice ua m.us.length uc)) (exact ⟨f0, f1⟩) (first | (go_at_call 16; refine (simpleW _).mono ?_; rintro e w2 ⟨rfl, ht, hbx⟩; replace f0 := cell_below f0 (below_trans (by first | exact Below.refl _ _ | exact below_drew1 _ | exact below_drewN _ _) hbx); replace f1 := cell_below f1 (below_trans (by first | exact Below.refl _ _ | exact below_drew1 _ | exact below_drewN _ _) hbx); replace HB := hid (below_trans HB.out (below_trans (by first | exact Below.refl _ _ | exact below_drew1 _ | exact below_drewN _ _) hbx)); have HT1 := hid ht; clear ht hbx) | (go_at_call 20; refine (HT.out _ _ _ (by have := HB.out; exact blBy) (HT1.out.kept (by first | exact Below.refl _ _ | exact below_drew1 _ | exact below_drewN _ _))).mono ?_; rintro e w3 ⟨rfl, hbx⟩; replace f0 := cell_below f0 (below_trans (by first | exact Below.refl _ _ | exact below_drew1 _ | exact below_drewN _ _) hbx); replace f1 := cell_below f1 (below_trans (by first | exact Below.refl _ _ | exact below_drew1 _ | exact below_drewN _ _) hbx); replace HB := hid (below_trans HB.out (below_trans (by first | exact Below.refl _ _ | exact below_drew1 _ | exact below_drewN _ _) hbx)); clear hbx))
  all_goals go_wp2
  all_goals (go_ret; exact ⟨ret_bool (by cases is <;> cases want <;> rfl), by have := HB.out; exact blBy⟩)
end Go.Proofs.YtpmpfcnmjdeoiaaGreatDoor
namespace Go.Proofs.YtpmpfcnmjdeoiaaGreatDoor
open Go.RowKit
set_option maxRecDepth 1000000
set_option linter.unusedVariables false
set_option linter.unusedSimpArgs false
set_option maxHeartbeats 2000000
theorem msgOne {W : World} {p d : Nat} {cs : List Value} {f : CF CM} (B : Blk W p 29 cs.toArray) (hf : FldE W AnyZ (MsgE W AnyZ d) cs f) (hl : cs.length = 3) : MsgE W AnyZ (d + 1) [.slice (some ⟨p, 0, none⟩) 1 1, .slice none 0 0] (CM.mk [f] []) := ⟨_, _, rfl, rowM_one B hl hf, RowM.nil _ _ _ _⟩
theorem msgTwo {W : World} {p d : Nat} {cs ds : List Value} {f g : CF CM} {es : Array Value} (B : Blk W p 29 es) (he : es = (cs ++ ds).toArray) (hf : FldE W AnyZ (MsgE W AnyZ d) cs f) (hg : FldE W AnyZ (MsgE W AnyZ d) ds g) (hl : cs.length = 3) (hl2 : ds.length = 3) : MsgE W AnyZ (d + 1) [.slice (some ⟨p, 0, none⟩) 2 2, .slice none 0 0] (CM.mk [f, g] []) := ⟨_, _, rfl, rowM_two B he hl hl2 hf hg, RowM.nil _ _ _ _⟩
def m5 : CM := CM.mk [nF 1 5] []
def m6 : CM := CM.mk [nF 1 6] []
def m40 : CM := CM.mk [nF 1 1099511627776] []
theorem kept5 (h : Nat) : keptB (simL h) 1 (simM h) m5 = true := by kernel_rfl
theorem kept40 (h : Nat) : keptB (simL h) 1 (simM h) m40 = false := by kernel_rfl
theorem ne56 : ¬ m5 = m6 := by
  intro h
  simp [m5, m6, nF] at h
theorem EqR.val {w : World} {P : Prop} {e : Ending} {w' : World} (h : EqR w P e w') (b : Bool) (hb : b = true ↔ P) : e = .returned (.bool b) ∧ Below w.heap.size w w' := by
  obtain ⟨r, he, hr, hx⟩ := h
  have : r = b := by rw [Bool.eq_iff_iff, hr, hb]
  exact ⟨by rw [he, this], hx⟩
theorem awake8 (w : World) (mx : Int) (hm0 : w.cell? ⟨0, 0, none⟩ = some (.int .i64 mx)) : Calls Tryz.prog 9 #[] w fun e w' => e = .returned (.bool true) ∧ Below w.heap.size w w' := by
  have HM := hid hm0
  have i1 : I64 1 := by unfold I64; omega
  clear hm0
  go_enter Tryz.func9, Tryz.ntmps9
  go_wp2_with fail
  refine (nW _ 1 5 i1 5 rfl ⟨by decide, by decide⟩ 0).mono ?_
  rintro e w1 ⟨cs, rfl, hl, hf, hbx⟩
  have hb1 : Hid (Below w.heap.size w w1) := hid (bl_then (by exact blBy) hbx)
  obtain ⟨ka1, kc1, va1, vc1, rfl, -⟩ := fld_open hf
  have HF1 := hid hf
  clear hf hl hbx
  go_wp2_with fail
  refine (msgW _ _ _ _).mono ?_
  rintro e w2 ⟨rfl, hbx⟩
  have hb2 : Hid (Below w.heap.size w w2) := hid (bl_then (by have := hb1.out; exact blBy) hbx)
  have HG2 := hid (msgOne ((Blk.new w1 29 _).kept hbx) (HF1.out.kept (bl_then (below_alloc _) hbx)) rfl)
  clear hbx
  go_wp2_with fail
  refine (typedLW _ mx (cell_below HM.out (by have := hb2.out; exact blBy)) AnyZ 1 _ _ HG2.out true true kept5).mono ?_
  rintro e w3 ⟨rfl, hbx⟩
  have hb3 : Hid (Below w.heap.size w w3) := hid (bl_then (by have := hb2.out; exact blBy) hbx)
  clear hbx
  go_wp2_with fail
  refine (nW _ 1 1099511627776 i1 1099511627776 rfl ⟨by decide, by decide⟩ 0).mono ?_
  rintro e w4 ⟨cs, rfl, hl, hf, hbx⟩
  have hb4 : Hid (Below w.heap.size w w4) := hid (bl_then (by have := hb3.out; exact blBy) hbx)
  obtain ⟨ka4, kc4, va4, vc4, rfl, -⟩ := fld_open hf
  have HF4 := hid hf
  clear hf hl hbx
  go_wp2_with fail
  refine (msgW _ _ _ _).mono ?_
  rintro e w5 ⟨rfl, hbx⟩
  have hb5 : Hid (Below w.heap.size w w5) := hid (bl_then (by have := hb4.out; exact blBy) hbx)
  have HG5 := hid (msgOne ((Blk.new w4 29 _).kept hbx) (HF4.out.kept (bl_then (below_alloc _) hbx)) rfl)
  clear hbx
  go_wp2_with fail
  refine (typedLW _ mx (cell_below HM.out (by have := hb5.out; exact blBy)) AnyZ 1 _ _ HG5.out false false kept40).mono ?_
  rintro e w6 ⟨rfl, hbx⟩
  have hb6 : Hid (Below w.heap.size w w6) := hid (bl_then (by have := hb5.out; exact blBy) hbx)
  clear hbx
  go_wp2_with fail
  refine (nW _ 1 5 i1 5 rfl ⟨by decide, by decide⟩ 0).mono ?_
  rintro e w7 ⟨cs, rfl, hl, hf, hbx⟩
  have hb7 : Hid (Below w.heap.size w w7) := hid (bl_then (by have := hb6.out; exact blBy) hbx)
  obtain ⟨ka7, kc7, va7, vc7, rfl, -⟩ := fld_open hf
  have HF7 := hid hf
  clear hf hl hbx
  go_wp2_with fail
  refine (msgW _ _ _ _).mono ?_
  rintro e w8 ⟨rfl, hbx⟩
  have hb8 : Hid (Below w.heap.size w w8) := hid (bl_then (by have := hb7.out; exact blBy) hbx)
  have HG8 := hid (msgOne ((Blk.new w7 29 _).kept hbx) (HF7.out.kept (bl_then (below_alloc _) hbx)) rfl)
  clear hbx
  go_wp2_with fail
  refine (nW _ 1 5 i1 5 rfl ⟨by decide, by decide⟩ 0).mono ?_
  rintro e w9 ⟨cs, rfl, hl, hf, hbx⟩
  have hb9 : Hid (Below w.heap.size w w9) := hid (bl_then (by have := hb8.out; exact blBy) hbx)
  replace HG8 := hid (HG8.out.kept (bl_then (by exact blBy) hbx))
  obtain ⟨ka9, kc9, va9, vc9, rfl, -⟩ := fld_open hf
  have HF9 := hid hf
  clear hf hl hbx
  go_wp2_with fail
  refine (msgW _ _ _ _).mono ?_
  rintro e w10 ⟨rfl, hbx⟩
  have hb10 : Hid (Below w.heap.size w w10) := hid (bl_then (by have := hb9.out; exact blBy) hbx)
  replace HG8 := hid (HG8.out.kept (bl_then (by exact blBy) hbx))
  have HG10 := hid (msgOne ((Blk.new w9 29 _).kept hbx) (HF9.out.kept (bl_then (below_alloc _) hbx)) rfl)
  clear hbx
  go_wp2_with fail
  refine ((equalT 1 _ AnyZ AnyZ _ _ _ _ HG8.out HG10.out)).mono ?_
  rintro e w11 he
  have hb11 : Hid (Below w.heap.size w w11) := hid (bl_then (by have := hb10.out; exact blBy) (EqR.val he true ⟨fun _ => rfl, fun _ => rfl⟩).2)
  obtain ⟨rfl, hbx⟩ := EqR.val he true ⟨fun _ => rfl, fun _ => rfl⟩
  clear he hbx
  go_wp2_with fail
  refine (nW _ 1 5 i1 5 rfl ⟨by decide, by decide⟩ 0).mono ?_
  rintro e w12 ⟨cs, rfl, hl, hf, hbx⟩
  have hb12 : Hid (Below w.heap.size w w12) := hid (bl_then (by have := hb11.out; exact blBy) hbx)
  obtain ⟨ka12, kc12, va12, vc12, rfl, -⟩ := fld_open hf
  have HF12 := hid hf
  clear hf hl hbx
  go_wp2_with fail
  refine (msgW _ _ _ _).mono ?_
  rintro e w13 ⟨rfl, hbx⟩
  have hb13 : Hid (Below w.heap.size w w13) := hid (bl_then (by have := hb12.out; exact blBy) hbx)
  have HG13 := hid (msgOne ((Blk.new w12 29 _).kept hbx) (HF12.out.kept (bl_then (below_alloc _) hbx)) rfl)
  clear hbx
  go_wp2_with fail
  refine (nW _ 1 6 i1 6 rfl ⟨by decide, by decide⟩ 0).mono ?_
  rintro e w14 ⟨cs, rfl, hl, hf, hbx⟩
  have hb14 : Hid (Below w.heap.size w w14) := hid (bl_then (by have := hb13.out; exact blBy) hbx)
  replace HG13 := hid (HG13.out.kept (bl_then (by exact blBy) hbx))
  obtain ⟨ka14, kc14, va14, vc14, rfl, -⟩ := fld_open hf
  have HF14 := hid hf
  clear hf hl hbx
  go_wp2_with fail
  refine (msgW _ _ _ _).mono ?_
  rintro e w15 ⟨rfl, hbx⟩
  have hb15 : Hid (Below w.heap.size w w15) := hid (bl_then (by have := hb14.out; exact blBy) hbx)
  replace HG13 := hid (HG13.out.kept (bl_then (by exact blBy) hbx))
  have HG15 := hid (msgOne ((Blk.new w14 29 _).kept hbx) (HF14.out.kept (bl_then (below_alloc _) hbx)) rfl)
  clear hbx
  go_wp2_with fail
  refine ((equalT 1 _ AnyZ AnyZ _ _ _ _ HG13.out HG15.out)).mono ?_
  rintro e w16 he
  have hb16 : Hid (Below w.heap.size w w16) := hid (bl_then (by have := hb15.out; exact blBy) (EqR.val he false ⟨fun h => absurd h (by decide), fun h => absurd h ne56⟩).2)
  obtain ⟨rfl, hbx⟩ := EqR.val he false ⟨fun h => absurd h (by decide), fun h => absurd h ne56⟩
  clear he hbx
  go_wp2
  go_ret
  exact ⟨rfl, hb16.out⟩
end Go.Proofs.YtpmpfcnmjdeoiaaGreatDoor
namespace Go.Proofs.YtpmpfcnmjdeoiaaGreatDoor
open Go.RowKit
set_option maxRecDepth 1000000
set_option linter.unusedVariables false
set_option linter.unusedSimpArgs false
set_option maxHeartbeats 4000000
theorem emptyD (w : World) (Z : Nat → Prop) (d : Nat) (cs : List Value) (m : CM) (hm : MsgE w Z d cs m) : Calls Tryz.prog 18 #[.agg cs.toArray] w fun e w' => e = .returned (.bool (((m.fs.length : Int) == 0) && ((m.us.length : Int) == 0))) ∧ Below w.heap.size w w' := by
  have hd : ∃ k, d = k + 1 := by
    cases d with
    | zero => exact hm.elim
    | succ k => exact ⟨k, rfl⟩
  obtain ⟨k, rfl⟩ := hd
  obtain ⟨fa, fc, ua, uc, rfl, -, -, l1, l2⟩ := msg_open hm
  clear hm
  have m1 : (m.fs.length : Int) ≤ 9223372036854775807 := by omega
  have m2 : (m.us.length : Int) ≤ 9223372036854775807 := by omega
  go_enter Tryz.func18, Tryz.ntmps18
  go_wp2
  all_goals (go_ret; exact ⟨ret_bool (by simp [*]), by exact blBy⟩)
def fL : CF CM := ⟨2, [], [⟨1, [], []⟩, ⟨2, [], []⟩]⟩
def fT : CF CM := ⟨1, [], [⟨1, [], []⟩, ⟨2, [], []⟩]⟩
def mE : CM := CM.mk [] []
def mX : CM := CM.mk [] [⟨1, 0, 5, []⟩]
def mY : CM := CM.mk [] [⟨1, 2, 0, [1]⟩]
def mS : CM := CM.mk [nF 1 0, ⟨2, [], []⟩] []
theorem kp9 (h : Nat) : keptB (simL h) 1 (simM h) (CM.mk [nF 9 1] []) = false := by kernel_rfl
theorem kpL (h : Nat) : keptB (simL h) 1 (simM h) (CM.mk [fL] []) = true := by kernel_rfl
theorem kpT (h : Nat) : keptB (simL h) 1 (simM h) (CM.mk [fT] []) = false := by kernel_rfl
theorem no0 (h : Nat) : normB (simL h) 1 (simM h) (CM.mk [nF 1 0] []) = false := by kernel_rfl
theorem noI (h : Nat) : normB (simL h) 2 (simM h) (CM.mk [inF 3 mE] []) = true := by kernel_rfl
theorem noX (h : Nat) : normB (simL h) 1 (simM h) mX = false := by kernel_rfl
theorem noY (h : Nat) : normB (simL h) 1 (simM h) mY = true := by kernel_rfl
theorem kpS8 (h : Nat) : keptB (simL h) 1 (simM h) mS = true := by kernel_rfl
theorem seS (h : Nat) : setM (simL h) 1 (simM h) mS = mE := by kernel_rfl
theorem msgE0 (W : World) (d : Nat) : MsgE W AnyZ (d + 1) [.slice none 0 0, .slice none 0 0] mE := ⟨_, _, rfl, RowM.nil _ _ _ _, RowM.nil _ _ _ _⟩
theorem fldTwo {W : World} {p : Nat} (d : Nat) (k : Int) (hk : I64 k) (B : Blk W p 26 #[.int .u64 1, .slice none 0 0, .slice none 0 0, .int .u64 2, .slice none 0 0, .slice none 0 0]) : FldE W AnyZ (MsgE W AnyZ d) [.int .i64 k, .slice none 0 0, .slice (some ⟨p, 0, none⟩) 2 2] ⟨k, [], [⟨1, [], []⟩, ⟨2, [], []⟩]⟩ := ⟨_, _, rfl, RowM.nil _ _ _ _, rowM_two (cs := [.int .u64 1, .slice none 0 0, .slice none 0 0]) (ds := [.int .u64 2, .slice none 0 0, .slice none 0 0]) B rfl rfl rfl (val_num _ _ _ 1 ⟨by decide, by decide⟩) (val_num _ _ _ 2 ⟨by decide, by decide⟩), hk⟩
theorem msgU {W : World} {p d : Nat} {cs : List Value} {x : CE} (B : Blk W p 40 cs.toArray) (he : EntE W AnyZ cs x) (hl : cs.length = 4) : MsgE W AnyZ (d + 1) [.slice none 0 0, .slice (some ⟨p, 0, none⟩) 1 1] (CM.mk [] [x]) := ⟨_, _, rfl, RowM.nil _ _ _ _, rowM_one B hl he⟩
theorem entX (W : World) : EntE W AnyZ [.int .i64 1, .int .i64 0, .int .u64 5, .slice none 0 0] ⟨1, 0, 5, []⟩ := ⟨_, rfl, by_nil _ _, ⟨by decide, by decide⟩, ⟨by decide, by decide⟩, ⟨by decide, by decide⟩⟩
theorem entY {W : World} {p : Nat} (B : Blk W p 5 #[.int .u8 1]) : EntE W AnyZ [.int .i64 1, .int .i64 2, .int .u64 0, .slice (some ⟨p, 0, none⟩) 1 1] ⟨1, 2, 0, [1]⟩ := ⟨_, rfl, ⟨rowOf B 1 1 _ rfl rfl (by decide), by simp, by simp⟩, ⟨by decide, by decide⟩, ⟨by decide, by decide⟩, ⟨by decide, by decide⟩⟩
theorem settleSim (w : World) (mx : Int) (hm0 : w.cell? ⟨0, 0, none⟩ = some (.int .i64 mx)) (h : Nat) (a : Option Addr) (hT : TbR w (.slice a (simL h).length 2) (simL h)) (Z : Nat → Prop) (d : Nat) (cs : List Value) (m r : CM) (hm : MsgE w Z d cs m) (hk : keptB (simL h) d (simM h) m = true) (hr : setM (simL h) d (simM h) m = r) : Calls Tryz.prog 15 #[.agg #[.slice a (simL h).length 2], .int .i64 1, .agg cs.toArray] w fun e w' => ∃ ds : List Value, e = .returned (.tuple #[.agg ds.toArray, .int .i64 0]) ∧ MsgE w' (w.heap.size ≤ ·) d ds r ∧ Below w.heap.size w w' := by
  have := settleOk w (simL h) a 2 hT (simOk h) mx hm0 1 (by show 1 < 2; decide) (simGood h) rfl Z d cs m hm hk
  rw [show setM (simL h) d ((simL h)[1]'(by show 1 < 2; decide)) m = r from hr] at this
  exact this
theorem modelKnownW (w : World) (mx : Int) (hm0 : w.cell? ⟨0, 0, none⟩ = some (.int .i64 mx)) : Calls Tryz.prog 3 #[] w fun e w' => e = .returned (.bool true) ∧ Below w.heap.size w w' := by
  have HM := hid hm0
  clear hm0
  go_enter Tryz.func3, Tryz.ntmps3
  go_wp2_with fail
  refine (awake8 _ mx (cell_below HM.out (by exact blBy))).mono ?_
  rintro e w1 ⟨rfl, hbx⟩
  have Bla : Hid (Blk w1 (w.heap.size) 26 #[.int .u64 1, .slice none 0 0, .slice none 0 0, .int .u64 2, .slice none 0 0, .slice none 0 0]) := hid (((((Blk.new _ _ _).kept (below_alloc _)).kept (below_alloc _)).kept (below_alloc _)).kept hbx)
  have Blb : Hid (Blk w1 (w.heap.size + 1) 29 #[.int .i64 2, .slice none 0 0, .slice (some ⟨w.heap.size, 0, none⟩) 2 2]) := hid ((((Blk.newAt (by simp)).kept (below_alloc _)).kept (below_alloc _)).kept hbx)
  have Bta : Hid (Blk w1 (w.heap.size + 1 + 1) 26 #[.int .u64 1, .slice none 0 0, .slice none 0 0, .int .u64 2, .slice none 0 0, .slice none 0 0]) := hid (((Blk.newAt (by simp)).kept (below_alloc _)).kept hbx)
  have Btb : Hid (Blk w1 (w.heap.size + 1 + 1 + 1) 29 #[.int .i64 1, .slice none 0 0, .slice (some ⟨w.heap.size + 1 + 1, 0, none⟩) 2 2]) := hid ((Blk.newAt (by simp)).kept hbx)
  have hb1 : Hid (Below w.heap.size w w1) := hid (bl_then (by exact blBy) hbx)
  clear hbx
  have xla := Bla.out.cellF
  have zla := Bla.out.lt
  have xlb := Blb.out.cellF
  have zlb := Blb.out.lt
  have xta := Bta.out.cellF
  have zta := Bta.out.lt
  have xtb := Btb.out.cellF
  have ztb := Btb.out.lt
  go_wp2_with fail
  clear xla zla xlb zlb xta zta xtb ztb
  refine (nW _ 9 1 (by unfold I64; omega) 1 rfl ⟨by decide, by decide⟩ 0).mono ?_
  rintro e w2 ⟨cs, rfl, hl, hf, hbx⟩
  have hb2 : Hid (Below w.heap.size w w2) := hid (bl_then (by have := hb1.out; exact blBy) hbx)
  replace Bla := hid (Bla.out.kept (bl_then (by exact blBy) hbx))
  replace Blb := hid (Blb.out.kept (bl_then (by exact blBy) hbx))
  replace Bta := hid (Bta.out.kept (bl_then (by exact blBy) hbx))
  replace Btb := hid (Btb.out.kept (bl_then (by exact blBy) hbx))
  obtain ⟨ka2, kc2, va2, vc2, rfl, -⟩ := fld_open hf
  have HF2 := hid hf
  clear hf hl hbx
  have xla := Bla.out.cellF
  have zla := Bla.out.lt
  have xlb := Blb.out.cellF
  have zlb := Blb.out.lt
  have xta := Bta.out.cellF
  have zta := Bta.out.lt
  have xtb := Btb.out.cellF
  have ztb := Btb.out.lt
  go_wp2_with fail
  clear xla zla xlb zlb xta zta xtb ztb
  refine (msgW _ _ _ _).mono ?_
  rintro e w3 ⟨rfl, hbx⟩
  have hb3 : Hid (Below w.heap.size w w3) := hid (bl_then (by have := hb2.out; exact blBy) hbx)
  replace HF2 := hid (HF2.out.kept (bl_then (by exact blBy) hbx))
  replace Bla := hid (Bla.out.kept (bl_then (by exact blBy) hbx))
  replace Blb := hid (Blb.out.kept (bl_then (by exact blBy) hbx))
  replace Bta := hid (Bta.out.kept (bl_then (by exact blBy) hbx))
  replace Btb := hid (Btb.out.kept (bl_then (by exact blBy) hbx))
  have HG3 := hid (msgOne ((Blk.new w2 29 _).kept hbx) HF2.out rfl)
  clear hbx
  have xla := Bla.out.cellF
  have zla := Bla.out.lt
  have xlb := Blb.out.cellF
  have zlb := Blb.out.lt
  have xta := Bta.out.cellF
  have zta := Bta.out.lt
  have xtb := Btb.out.cellF
  have ztb := Btb.out.lt
  go_wp2_with fail
  clear xla zla xlb zlb xta zta xtb ztb
  refine (typedLW _ mx (cell_below HM.out (by have := hb3.out; exact blBy)) AnyZ 1 _ _ HG3.out false false kp9).mono ?_
  rintro e w4 ⟨rfl, hbx⟩
  have hb4 : Hid (Below w.heap.size w w4) := hid (bl_then (by have := hb3.out; exact blBy) hbx)
  replace Bla := hid (Bla.out.kept (bl_then (by exact blBy) hbx))
  replace Blb := hid (Blb.out.kept (bl_then (by exact blBy) hbx))
  replace Bta := hid (Bta.out.kept (bl_then (by exact blBy) hbx))
  replace Btb := hid (Btb.out.kept (bl_then (by exact blBy) hbx))
  clear hbx
  have xla := Bla.out.cellF
  have zla := Bla.out.lt
  have xlb := Blb.out.cellF
  have zlb := Blb.out.lt
  have xta := Bta.out.cellF
  have zta := Bta.out.lt
  have xtb := Btb.out.cellF
  have ztb := Btb.out.lt
  go_wp2_with fail
  clear xla zla xlb zlb xta zta xtb ztb
  refine (msgW _ _ _ _).mono ?_
  rintro e w5 ⟨rfl, hbx⟩
  have hb5 : Hid (Below w.heap.size w w5) := hid (bl_then (by have := hb4.out; exact blBy) hbx)
  replace Bla := hid (Bla.out.kept (bl_then (by exact blBy) hbx))
  replace Blb := hid (Blb.out.kept (bl_then (by exact blBy) hbx))
  replace Bta := hid (Bta.out.kept (bl_then (by exact blBy) hbx))
  replace Btb := hid (Btb.out.kept (bl_then (by exact blBy) hbx))
  have HG5 := hid (msgOne (f := fL) ((Blk.new w4 29 _).kept hbx) (fldTwo 0 2 (by unfold I64; omega) Bla.out) rfl)
  clear hbx
  have xla := Bla.out.cellF
  have zla := Bla.out.lt
  have xlb := Blb.out.cellF
  have zlb := Blb.out.lt
  have xta := Bta.out.cellF
  have zta := Bta.out.lt
  have xtb := Btb.out.cellF
  have ztb := Btb.out.lt
  go_wp2_with fail
  clear xla zla xlb zlb xta zta xtb ztb
  refine (typedLW _ mx (cell_below HM.out (by have := hb5.out; exact blBy)) AnyZ 1 _ _ HG5.out true true kpL).mono ?_
  rintro e w6 ⟨rfl, hbx⟩
  have hb6 : Hid (Below w.heap.size w w6) := hid (bl_then (by have := hb5.out; exact blBy) hbx)
  replace Bla := hid (Bla.out.kept (bl_then (by exact blBy) hbx))
  replace Blb := hid (Blb.out.kept (bl_then (by exact blBy) hbx))
  replace Bta := hid (Bta.out.kept (bl_then (by exact blBy) hbx))
  replace Btb := hid (Btb.out.kept (bl_then (by exact blBy) hbx))
  clear hbx
  have xla := Bla.out.cellF
  have zla := Bla.out.lt
  have xlb := Blb.out.cellF
  have zlb := Blb.out.lt
  have xta := Bta.out.cellF
  have zta := Bta.out.lt
  have xtb := Btb.out.cellF
  have ztb := Btb.out.lt
  go_wp2_with fail
  clear xla zla xlb zlb xta zta xtb ztb
  refine (msgW _ _ _ _).mono ?_
  rintro e w7 ⟨rfl, hbx⟩
  have hb7 : Hid (Below w.heap.size w w7) := hid (bl_then (by have := hb6.out; exact blBy) hbx)
  replace Bla := hid (Bla.out.kept (bl_then (by exact blBy) hbx))
  replace Blb := hid (Blb.out.kept (bl_then (by exact blBy) hbx))
  replace Bta := hid (Bta.out.kept (bl_then (by exact blBy) hbx))
  replace Btb := hid (Btb.out.kept (bl_then (by exact blBy) hbx))
  have HG7 := hid (msgOne (f := fT) ((Blk.new w6 29 _).kept hbx) (fldTwo 0 1 (by unfold I64; omega) Bta.out) rfl)
  clear hbx
  have xla := Bla.out.cellF
  have zla := Bla.out.lt
  have xlb := Blb.out.cellF
  have zlb := Blb.out.lt
  have xta := Bta.out.cellF
  have zta := Bta.out.lt
  have xtb := Btb.out.cellF
  have ztb := Btb.out.lt
  go_wp2_with fail
  clear xla zla xlb zlb xta zta xtb ztb
  refine (typedLW _ mx (cell_below HM.out (by have := hb7.out; exact blBy)) AnyZ 1 _ _ HG7.out false false kpT).mono ?_
  rintro e w8 ⟨rfl, hbx⟩
  have hb8 : Hid (Below w.heap.size w w8) := hid (bl_then (by have := hb7.out; exact blBy) hbx)
  replace Bla := hid (Bla.out.kept (bl_then (by exact blBy) hbx))
  replace Blb := hid (Blb.out.kept (bl_then (by exact blBy) hbx))
  replace Bta := hid (Bta.out.kept (bl_then (by exact blBy) hbx))
  replace Btb := hid (Btb.out.kept (bl_then (by exact blBy) hbx))
  clear hbx
  go_wp2_with fail
  refine (nW _ 1 0 (by unfold I64; omega) 0 rfl ⟨by decide, by decide⟩ 0).mono ?_
  rintro e w9 ⟨cs, rfl, hl, hf, hbx⟩
  have hb9 : Hid (Below w.heap.size w w9) := hid (bl_then (by have := hb8.out; exact blBy) hbx)
  obtain ⟨ka9, kc9, va9, vc9, rfl, -⟩ := fld_open hf
  have HF9 := hid hf
  clear hf hl hbx
  go_wp2_with fail
  refine (msgW _ _ _ _).mono ?_
  rintro e w10 ⟨rfl, hbx⟩
  have hb10 : Hid (Below w.heap.size w w10) := hid (bl_then (by have := hb9.out; exact blBy) hbx)
  replace HF9 := hid (HF9.out.kept (bl_then (by exact blBy) hbx))
  have HG10 := hid (msgOne ((Blk.new w9 29 _).kept hbx) HF9.out rfl)
  clear hbx
  go_wp2_with fail
  refine (normalLW _ mx (cell_below HM.out (by have := hb10.out; exact blBy)) AnyZ 1 _ _ HG10.out false false no0).mono ?_
  rintro e w11 ⟨rfl, hbx⟩
  have hb11 : Hid (Below w.heap.size w w11) := hid (bl_then (by have := hb10.out; exact blBy) hbx)
  clear hbx
  go_wp2_with fail
  refine (inW _ 3 (by unfold I64; omega) AnyZ 1 _ _ (msgE0 _ 0)).mono ?_
  rintro e w12 ⟨cs, rfl, hl, hf, hbx⟩
  have hb12 : Hid (Below w.heap.size w w12) := hid (bl_then (by have := hb11.out; exact blBy) hbx)
  obtain ⟨ka12, kc12, va12, vc12, rfl, -⟩ := fld_open hf
  have HF12 := hid hf
  clear hf hl hbx
  go_wp2_with fail
  refine (msgW _ _ _ _).mono ?_
  rintro e w13 ⟨rfl, hbx⟩
  have hb13 : Hid (Below w.heap.size w w13) := hid (bl_then (by have := hb12.out; exact blBy) hbx)
  replace HF12 := hid (HF12.out.kept (bl_then (by exact blBy) hbx))
  have HG13 := hid (msgOne ((Blk.new w12 29 _).kept hbx) HF12.out rfl)
  clear hbx
  go_wp2_with fail
  refine (normalLW _ mx (cell_below HM.out (by have := hb13.out; exact blBy)) AnyZ 2 _ _ HG13.out true true noI).mono ?_
  rintro e w14 ⟨rfl, hbx⟩
  have hb14 : Hid (Below w.heap.size w w14) := hid (bl_then (by have := hb13.out; exact blBy) hbx)
  clear hbx
  go_wp2_with fail
  refine (normalLW _ mx (cell_below HM.out (by have := hb14.out; exact blBy)) AnyZ 1 _ _ (msgU (Blk.new w14 40 _) (entX _) rfl) false false noX).mono ?_
  rintro e w15 ⟨rfl, hbx⟩
  have hb15 : Hid (Below w.heap.size w w15) := hid (bl_then (by have := hb14.out; exact blBy) hbx)
  clear hbx
  go_wp2_with fail
  refine (normalLW _ mx (cell_below HM.out (by have := hb15.out; exact blBy)) AnyZ 1 _ _ (msgU (p := w15.heap.size + 1) (Blk.newAt (by simp)) (entY ((Blk.new w15 5 _).kept (below_alloc _))) rfl) true true noY).mono ?_
  rintro e w16 ⟨rfl, hbx⟩
  have hb16 : Hid (Below w.heap.size w w16) := hid (bl_then (by have := hb15.out; exact blBy) hbx)
  clear hbx
  go_wp2_with fail
  refine (simpleW _).mono ?_
  rintro e w17 ⟨rfl, ht, hbx⟩
  have hb17 : Hid (Below w.heap.size w w17) := hid (bl_then (by have := hb16.out; exact blBy) hbx)
  have HT := hid ht
  clear ht hbx
  -- simple
  go_wp2_with fail
  refine (nW _ 1 0 (by unfold I64; omega) 0 rfl ⟨by decide, by decide⟩ 0).mono ?_
  rintro e w18 ⟨cs, rfl, hl, hf, hbx⟩
  have hb18 : Hid (Below w.heap.size w w18) := hid (bl_then (by have := hb17.out; exact blBy) hbx)
  replace HT := hid (HT.out.kept (bl_then (by exact blBy) hbx))
  obtain ⟨ka18, kc18, va18, vc18, rfl, -⟩ := fld_open hf
  have HF18 := hid hf
  clear hf hl hbx
  go_wp2_with fail
  refine (msgW _ _ _ _).mono ?_
  rintro e w19 ⟨rfl, hbx⟩
  have hb19 : Hid (Below w.heap.size w w19) := hid (bl_then (by have := hb18.out; exact blBy) hbx)
  replace HT := hid (HT.out.kept (bl_then (by exact blBy) hbx))
  replace HF18 := hid (HF18.out.kept (bl_then (by exact blBy) hbx))
  have HG19 : Hid (MsgE w19 AnyZ 1 [.slice (some ⟨w18.heap.size, 0, none⟩) 2 2, .slice none 0 0] mS) := hid (msgTwo (f := nF 1 0) (g := ⟨2, [], []⟩) (ds := [.int .i64 2, .slice none 0 0, .slice none 0 0]) ((Blk.new w18 29 _).kept hbx) rfl HF18.out ⟨_, _, rfl, RowM.nil _ _ _ _, RowM.nil _ _ _ _, ⟨by decide, by decide⟩⟩ rfl rfl)
  clear hbx
  go_wp2_with fail
  refine (settleSim _ mx (cell_below HM.out (by have := hb19.out; exact blBy)) _ _ HT.out AnyZ 1 _ _ mE HG19.out (kpS8 _) (seS _)).mono ?_
  rintro e w20 ⟨ds, rfl, hn, hbx⟩
  have hb20 : Hid (Below w.heap.size w w20) := hid (bl_then (by have := hb19.out; exact blBy) hbx)
  replace HT := hid (HT.out.kept (bl_then (by exact blBy) hbx))
  clear hbx
  obtain ⟨fa, fc, ua, uc, rfl, -⟩ := msg_openD hn
  have HN := hid hn.any
  clear hn
  have HD1 := hid fun W => depthT 1 (by decide) W AnyZ _ mE (msgE0 W 0)
  go_wp2_with fail
  refine (HD1.out _).mono ?_
  rintro e w21 ⟨rfl, hbx⟩
  have Bs : Hid (Blk w21 w20.heap.size 35 #[.slice fa mE.fs.length fc, .slice ua mE.us.length uc]) := hid ((Blk.new _ _ _).kept hbx)
  have hb21 : Hid (Below w.heap.size w w21) := hid (bl_then (by have := hb20.out; exact blBy) hbx)
  replace HN := hid (HN.out.kept (bl_then (by exact blBy) hbx))
  clear hbx
  have xs := Bs.out.cellF
  have zs := Bs.out.lt
  go_wp2_with fail
  clear xs zs
  refine (inW _ 3 (by unfold I64; omega) AnyZ 1 _ _ (msgE0 _ 0)).mono ?_
  rintro e w22 ⟨cs, rfl, hl, hf, hbx⟩
  have hb22 : Hid (Below w.heap.size w w22) := hid (bl_then (by have := hb21.out; exact blBy) hbx)
  replace HN := hid (HN.out.kept (bl_then (by exact blBy) hbx))
  replace Bs := hid (Bs.out.kept (bl_then (by exact blBy) hbx))
  obtain ⟨ka22, kc22, va22, vc22, rfl, -⟩ := fld_open hf
  have HF22 := hid hf
  clear hf hl hbx
  have xs := Bs.out.cellF
  have zs := Bs.out.lt
  go_wp2_with fail
  clear xs zs
  refine (msgW _ _ _ _).mono ?_
  rintro e w23 ⟨rfl, hbx⟩
  have hb23 : Hid (Below w.heap.size w w23) := hid (bl_then (by have := hb22.out; exact blBy) hbx)
  replace HN := hid (HN.out.kept (bl_then (by exact blBy) hbx))
  replace HF22 := hid (HF22.out.kept (bl_then (by exact blBy) hbx))
  replace Bs := hid (Bs.out.kept (bl_then (by exact blBy) hbx))
  have HG23 := hid (msgOne ((Blk.new w22 29 _).kept hbx) HF22.out rfl)
  clear hbx
  have xs := Bs.out.cellF
  have zs := Bs.out.lt
  go_wp2_with fail
  clear xs zs
  refine (inW _ 3 (by unfold I64; omega) AnyZ 2 _ _ HG23.out).mono ?_
  rintro e w24 ⟨cs, rfl, hl, hf, hbx⟩
  have hb24 : Hid (Below w.heap.size w w24) := hid (bl_then (by have := hb23.out; exact blBy) hbx)
  replace HN := hid (HN.out.kept (bl_then (by exact blBy) hbx))
  replace HG23 := hid (HG23.out.kept (bl_then (by exact blBy) hbx))
  replace Bs := hid (Bs.out.kept (bl_then (by exact blBy) hbx))
  obtain ⟨ka24, kc24, va24, vc24, rfl, -⟩ := fld_open hf
  have HF24 := hid hf
  clear hf hl hbx
  have xs := Bs.out.cellF
  have zs := Bs.out.lt
  go_wp2_with fail
  clear xs zs
  refine (msgW _ _ _ _).mono ?_
  rintro e w25 ⟨rfl, hbx⟩
  have hb25 : Hid (Below w.heap.size w w25) := hid (bl_then (by have := hb24.out; exact blBy) hbx)
  replace HN := hid (HN.out.kept (bl_then (by exact blBy) hbx))
  replace HF24 := hid (HF24.out.kept (bl_then (by exact blBy) hbx))
  replace Bs := hid (Bs.out.kept (bl_then (by exact blBy) hbx))
  have HG25 := hid (msgOne ((Blk.new w24 29 _).kept hbx) HF24.out rfl)
  clear hbx
  have xs := Bs.out.cellF
  have zs := Bs.out.lt
  go_wp2_with fail
  clear xs zs
  refine (depthT 3 (by decide) _ AnyZ _ _ HG25.out).mono ?_
  rintro e w26 ⟨rfl, hbx⟩
  have hb26 : Hid (Below w.heap.size w w26) := hid (bl_then (by have := hb25.out; exact blBy) hbx)
  replace HN := hid (HN.out.kept (bl_then (by exact blBy) hbx))
  replace Bs := hid (Bs.out.kept (bl_then (by exact blBy) hbx))
  clear hbx
  have HDX : Hid (depM 3 (CM.mk [inF 3 (CM.mk [inF 3 mE] [])] []) = 3) := hid (by kernel_rfl)
  rw [HDX.out]
  have xs := Bs.out.cellF
  have zs := Bs.out.lt
  go_wp2_with fail
  clear xs zs
  refine (emptyD _ AnyZ 1 _ mE HN.out).mono ?_
  rintro e w27 ⟨rfl, hbx⟩
  have hb27 : Hid (Below w.heap.size w w27) := hid (bl_then (by have := hb26.out; exact blBy) hbx)
  replace HN := hid (HN.out.kept (bl_then (by exact blBy) hbx))
  replace Bs := hid (Bs.out.kept (bl_then (by exact blBy) hbx))
  clear hbx
  go_wp2
  go_ret
  exact ⟨rfl, hb27.out⟩
end Go.Proofs.YtpmpfcnmjdeoiaaGreatDoor
namespace Go.Proofs.YtpmpfcnmjdeoiaaGreatDoor
open Go.ChangeShapes Go.WideShapes Go.ChangeAt Go.RowKit
set_option maxRecDepth 1000000
set_option maxRecDepth 100000
/-- The rows' list. -/
def laidL : List (String × DataW Unit) := [("unicode/utf8.acceptRanges", Rows.laid_unicode_utf8_acceptRanges), ("unicode/utf8.first", Rows.laid_unicode_utf8_first)]
theorem laid_plain {W : World} (h : laidMetH Tryz.prog laidL W) : laidMet Tryz.prog laidL W := h
/-- A block's cells laid anew. -/
noncomputable def layAt (g : Nat) (cs : Array Value) (w : World) : World := { w with heap := w.heap.modify g fun
      | .cells _ t frozen => .cells cs t frozen
      | o => o }
def numV : DataW Unit → Value
  | .lit (.int k n) => .int k n
  | _ => undef
def rowV : DataW Unit → List Value
  | .agg ds => ds.map numV
  | _ => []
def rowsV : DataW Unit → List Value
  | .agg ds => ds.flatMap rowV
  | _ => []
noncomputable def laidWorld (os : Os) : World :=
  layAt 2 (List.toArray (rowsV Rows.laid_unicode_utf8_acceptRanges)) (layAt 1 (List.toArray (rowV Rows.laid_unicode_utf8_first)) (World.holding Tryz.prog os ⟨#[], #[], []⟩))
theorem laid_met (os : Os) (args : Array Value) : laidMet Tryz.prog laidL ((laidWorld os).forCall (fun _ _ => 0) ⟨#[], args, []⟩).memory :=
  laidMet_of_run' 8 (by kernel_rfl) (by kernel_rfl)
theorem maxLen_cell {W : World} (h : W.ShapedOpen Tryz.prog) : ∃ m, W.cell? ⟨0, 0, none⟩ = some (.int .i64 m) :=
  Go.Proofs.cell_of_shapedOpen_int (zero := #[.int .i64 0]) (t := 3) h (of_decide_eq_true (by kernel_rfl)) (by kernel_rfl) rfl (by kernel_rfl) (by kernel_rfl) Tryz.underlying3
end Go.Proofs.YtpmpfcnmjdeoiaaGreatDoor
