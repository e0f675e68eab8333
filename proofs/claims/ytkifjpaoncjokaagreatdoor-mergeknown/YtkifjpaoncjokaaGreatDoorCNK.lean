/-
  Both answers about a table are one.
  Is, Field, Named, Wire, Takes: what the document answers.
  Wire, Takes: what the document answers; both answers are one.
  The messages of a field, one by one, where what is done with them writes.
  The document's answer: is a value typed?
  The document's answer: is another member of a oneof there?
  A field of a type.
  Copy: what the program answers, at every depth.
  Copy: what the program answers: every message in new memory.
  Get, Clear: what the program answers.
  Depth, Get: what the document answers.
  Get: what the document answers.
  A field of a type, whole.
  A field that is typed.
  What a typed message holds, itself.
  Oneofs of a good table.
-/
import Derived.Test.YtkifjpaoncjokaaGreatDoorCAO
import Derived.Test.YtkifjpaoncjokaaGreatDoorCTY
import Derived.Test.YtkifjpaoncjokaaGreatDoorCAP
import Derived.Test.YtkifjpaoncjokaaGreatDoorCAS
import Derived.Laws.EntriesVeiled
import Derived.Test.YtkifjpaoncjokaaGreatDoorCAK
namespace Go.Proofs.YtkifjpaoncjokaaGreatDoor
open Go.RowKit
set_option maxRecDepth 1000000
set_option linter.unusedVariables false
set_option linter.unusedSimpArgs false
set_option maxHeartbeats 1000000
end Go.Proofs.YtkifjpaoncjokaaGreatDoor
namespace Go.Proofs.YtkifjpaoncjokaaGreatDoor
open Go.RowKit
set_option maxRecDepth 1000000
set_option linter.unusedVariables false
set_option linter.unusedSimpArgs false
set_option maxHeartbeats 1000000
end Go.Proofs.YtkifjpaoncjokaaGreatDoor
namespace Go.Proofs.YtkifjpaoncjokaaGreatDoor
open Go.RowKit
set_option maxRecDepth 1000000
set_option linter.unusedVariables false
set_option linter.unusedSimpArgs false
set_option maxHeartbeats 1000000
end Go.Proofs.YtkifjpaoncjokaaGreatDoor
namespace Go.Proofs.YtkifjpaoncjokaaGreatDoor
open Go.RowKit Go.Shelf
set_option maxRecDepth 1000000
attribute [local go_sem] Oper.semAt_some
set_option linter.unusedVariables false
set_option linter.unusedSimpArgs false
set_option maxHeartbeats 2000000
end Go.Proofs.YtkifjpaoncjokaaGreatDoor
namespace Go.Proofs.YtkifjpaoncjokaaGreatDoor
open Go.RowKit
set_option maxRecDepth 1000000
set_option linter.unusedVariables false
set_option linter.unusedSimpArgs false
set_option maxHeartbeats 2000000
end Go.Proofs.YtkifjpaoncjokaaGreatDoor
namespace Go.Proofs.YtkifjpaoncjokaaGreatDoor
open Go.RowKit
set_option maxRecDepth 1000000
set_option linter.unusedVariables false
set_option linter.unusedSimpArgs false
set_option maxHeartbeats 2000000
end Go.Proofs.YtkifjpaoncjokaaGreatDoor
namespace Go.Proofs.YtkifjpaoncjokaaGreatDoor
open Go.RowKit
set_option maxRecDepth 1000000
set_option linter.unusedVariables false
set_option linter.unusedSimpArgs false
set_option maxHeartbeats 1000000
/-- The cells of a field's type. -/
def cOW (o : FT) : Array Value := #[.string (strOfNums o.name), .int .i64 o.num, .int .i64 o.kind, .int .i64 o.ref, .int .i64 o.lab, .int .i64 o.one, .int .i64 o.key]
theorem valFn (w : World) (l : List TV) (ta : Option Addr) (tc : Nat) (h : TbR w (.slice ta l.length tc) l) (o : FT) (hr : 0 ≤ o.ref ∧ o.ref.toNat < l.length) (Z : Nat → Prop) (d : Nat) (cs : List Value) (v : CV CM) (hv : ValE w Z (MsgE w Z d) cs v) (p q : Nat) (hp : Blk w p 122 #[.slice ta l.length tc]) (hq : Blk w q 65 (cOW o)) : Calls Tryz.prog 149 #[.agg cs.toArray, .pointer (some ⟨p, 0, none⟩), .pointer (some ⟨q, 0, none⟩)] w fun e w' => e = .returned (.bool (valB l o v)) ∧ Below w.heap.size w w' := by
  have HV := hid fun W (hW : Below w.heap.size w W) => valIsTypedM W l ta tc (h.kept hW) o hr Z d cs v (hv.kept hW)
  obtain ⟨ba, bc, ma, mc, rfl, -⟩ := val_open hv
  clear h hr hv
  unfold cOW at hq
  have x1 := hp.cellF
  have z1 := hp.lt
  have x2 := hq.cellF
  have z2 := hq.lt
  go_enter Tryz.func149, Tryz.ntmps149
  go_wp2_with fail
  refine (HV.out _ (by exact blBy)).mono ?_
  rintro e w1 ⟨rfl, hb1⟩
  have hbz : Hid (Below w.heap.size w w1) := hid (bl_then (by exact blBy) hb1)
  clear hb1
  go_wp2
  go_ret
  exact ⟨rfl, hbz.out⟩
theorem keyFn (w : World) (o : FT) (Z : Nat → Prop) (d : Nat) (cs : List Value) (v : CV CM) (hv : ValE w Z (MsgE w Z d) cs v) (q : Nat) (hq : Blk w q 65 (cOW o)) : Calls Tryz.prog 151 #[.agg cs.toArray, .pointer (some ⟨q, 0, none⟩)] w fun e w' => e = .returned (.bool (scalarB o.key v)) ∧ Below w.heap.size w w' := by
  have HV := hid fun W (hW : Below w.heap.size w W) => isScalarM W Z d o.key cs v (hv.kept hW)
  obtain ⟨ba, bc, ma, mc, rfl, -⟩ := val_open hv
  clear hv
  unfold cOW at hq
  have x2 := hq.cellF
  have z2 := hq.lt
  go_enter Tryz.func151, Tryz.ntmps151
  go_wp2_with fail
  refine (HV.out _ (by exact blBy)).mono ?_
  rintro e w1 ⟨rfl, hb1⟩
  have hbz : Hid (Below w.heap.size w w1) := hid (bl_then (by exact blBy) hb1)
  clear hb1
  go_wp2
  go_ret
  exact ⟨rfl, hbz.out⟩
theorem cfVal (args : Array Value) (W : World) : (callFunc 149 args).run Tryz.prog W = .ok (.enter 149 args) W := cf_enter Tryz.func149 (by kernel_rfl) (by kernel_rfl) args W
theorem cfKey (args : Array Value) (W : World) : (callFunc 151 args).run Tryz.prog W = .ok (.enter 151 args) W := cf_enter Tryz.func151 (by kernel_rfl) (by kernel_rfl) args W
end Go.Proofs.YtkifjpaoncjokaaGreatDoor
namespace Go.Proofs.YtkifjpaoncjokaaGreatDoor
open Go.RowKit
set_option maxRecDepth 1000000
set_option linter.unusedVariables false
set_option linter.unusedSimpArgs false
set_option maxHeartbeats 2000000
theorem nothingT (w : World) (cs : List Value) (x : CF CM) (Z : Nat → Prop) (d : Nat) (h : FldE w Z (MsgE w Z d) cs x) : Calls Tryz.prog 50 #[.agg #[], .agg cs.toArray] w fun e w' => e = .returned (.agg #[]) ∧ Below w.heap.size w w' := by
  obtain ⟨ka, kc, va, vc, rfl, -⟩ := fld_open h
  clear h
  go_enter Tryz.func50, Tryz.ntmps50
  go_wp2
  exact bodyPost_ret (v := .agg #[]) (by simp [results, Tryz.results50, go_sem]) rfl ⟨rfl, by exact blBy⟩
theorem wholeT (w : World) (cs : List Value) (m : CM) (Z : Nat → Prop) (d : Nat) (h : MsgE w Z d cs m) : Calls Tryz.prog 49 #[.agg #[], .agg cs.toArray] w fun e w' => e = .returned (.agg cs.toArray) ∧ Below w.heap.size w w' := by
  obtain ⟨ka, kc, va, vc, rfl, -⟩ := msg_openD h
  clear h
  go_enter Tryz.func49, Tryz.ntmps49
  go_wp2
  exact bodyPost_ret (v := .agg #[.slice ka m.fs.length kc, .slice va m.us.length vc]) (by simp [results, Tryz.results49, go_sem]) rfl ⟨rfl, by exact blBy⟩
theorem newFieldT (d : Nat) (HC : CpAt d) (w : World) (Z : Nat → Prop) (cs : List Value) (x : CF CM) (h : FldE w Z (MsgE w Z d) cs x) (p4 p6 p7 : Nat) (hB : CpB w p4 p6 p7) : Calls Tryz.prog 74 #[.agg cs.toArray, .pointer (some ⟨p7, 0, none⟩), .pointer (some ⟨p4, 0, none⟩), .pointer (some ⟨p6, 0, none⟩)] w (NewE (FmF d) w x) := by
  have h0 := h
  obtain ⟨ka, kc, va, vc, rfl, g, q, -, -, hu⟩ := fld_open h
  have HV : Hid (∀ (W : World) (pi q8 : Nat), Below w.heap.size w W → CpB W pi p6 p7 → Blk W q8 79 #[.func (.func 75) #[] #[.pointer (some ⟨pi, 0, none⟩), .pointer (some ⟨p6, 0, none⟩), .pointer (some ⟨p7, 0, none⟩)]] → ∀ (xs : List (CV CM)) (a : Option Addr) (c : Nat), VlsR W Z d (.slice a xs.length c) xs → Calls Tryz.prog 79 #[.slice a xs.length c, .func (.func 76) #[] #[.pointer (some ⟨q8, 0, none⟩)]] W (NewL 3 (FmV d) W xs)) := hid fun W pi q8 hW hB2 hN xs a c hx => by
    have := turnedV W Z d d xs a c hx 76 #[.pointer (some ⟨q8, 0, none⟩)] cfV id (fun W' hW' cs m _ hm => newValT d HC W' Z cs m hm pi p6 p7 q8 (hB2.kept hW') (hN.kept hW'))
    rw [List.map_id] at this
    exact this
  have HNO := hid (fun W (hW : Below w.heap.size w W) => nothingT W _ x Z d (h0.kept hW))
  have HU := hid hu
  have G := hid g
  have Q := hid q
  have HBB := hid hB
  have xs6 := hB.s.cellF
  have zs6 := hB.s.lt
  have xb7 := hB.b.cellF
  have zb7 := hB.b.lt
  have zk4 := hB.k.lt
  clear h h0 hB g q hu HC
  go_enter Tryz.func74, Tryz.ntmps74
  go_wp2_with fail
  refine (HNO.out _ (by exact blBy)).mono ?_
  rintro e w1 ⟨rfl, hbx⟩
  have Bx : Blk w1 w.heap.size 33 #[.int .i64 x.num, .slice ka x.ks.length kc, .slice va x.vs.length vc] := ((Blk.new _ _ _).kept (below_alloc _)).kept hbx
  have Br : Blk w1 (w.heap.size + 1) 33 #[.int .i64 0, .slice none 0 0, .slice none 0 0] := (Blk.newAt (by simp)).kept hbx
  have hbz : Hid (Below w.heap.size w w1) := hid (bl_then (by exact blBy) hbx)
  have hs1 : w.heap.size + 2 ≤ w1.heap.size := by have := hbx.size; simpa using this
  clear hbx xs6 zs6 xb7 zb7 zk4 HNO
  go_upto_region 4 with fail
  have BB : CpB ((w1.alloc (.cells #[] 106)).alloc (.cells #[.func (.func 75) #[] #[.pointer (some ⟨w1.heap.size, 0, none⟩), .pointer (some ⟨p6, 0, none⟩), .pointer (some ⟨p7, 0, none⟩)]] 79)) w1.heap.size p6 p7 := ⟨(Blk.new _ _ _).kept (below_alloc _), ((HBB.out.kept hbz.out).s.kept (below_alloc _)).kept (below_alloc _), ((HBB.out.kept hbz.out).b.kept (below_alloc _)).kept (below_alloc _)⟩
  have BN : Blk ((w1.alloc (.cells #[] 106)).alloc (.cells #[.func (.func 75) #[] #[.pointer (some ⟨w1.heap.size, 0, none⟩), .pointer (some ⟨p6, 0, none⟩), .pointer (some ⟨p7, 0, none⟩)]] 79)) (w1.heap.size + 1) 79 #[.func (.func 75) #[] #[.pointer (some ⟨w1.heap.size, 0, none⟩), .pointer (some ⟨p6, 0, none⟩), .pointer (some ⟨p7, 0, none⟩)]] := Blk.newAt (by simp)
  replace Bx := (Bx.kept (below_alloc (.cells #[] 106))).kept (below_alloc (.cells #[.func (.func 75) #[] #[.pointer (some ⟨w1.heap.size, 0, none⟩), .pointer (some ⟨p6, 0, none⟩), .pointer (some ⟨p7, 0, none⟩)]] 79))
  replace Br := (Br.kept (below_alloc (.cells #[] 106))).kept (below_alloc (.cells #[.func (.func 75) #[] #[.pointer (some ⟨w1.heap.size, 0, none⟩), .pointer (some ⟨p6, 0, none⟩), .pointer (some ⟨p7, 0, none⟩)]] 79))
  have HB : Hid (Below w.heap.size w ((w1.alloc (.cells #[] 106)).alloc (.cells #[.func (.func 75) #[] #[.pointer (some ⟨w1.heap.size, 0, none⟩), .pointer (some ⟨p6, 0, none⟩), .pointer (some ⟨p7, 0, none⟩)]] 79))) := hid (by have := hbz.out; exact blBy)
  have HS : Hid (w.heap.size + 2 ≤ ((w1.alloc (.cells #[] 106)).alloc (.cells #[.func (.func 75) #[] #[.pointer (some ⟨w1.heap.size, 0, none⟩), .pointer (some ⟨p6, 0, none⟩), .pointer (some ⟨p7, 0, none⟩)]] 79)).heap.size) := hid (by simp; omega)
  generalize ((w1.alloc (.cells #[] 106)).alloc (.cells #[.func (.func 75) #[] #[.pointer (some ⟨w1.heap.size, 0, none⟩), .pointer (some ⟨p6, 0, none⟩), .pointer (some ⟨p7, 0, none⟩)]] 79)) = W at *
  have HT : Hid (∀ W', Below W.heap.size W W' → ∀ (xs : List (CV CM)) (a : Option Addr) (c : Nat), VlsR w Z d (.slice a xs.length c) xs → Calls Tryz.prog 79 #[.slice a xs.length c, .func (.func 76) #[] #[.pointer (some ⟨w1.heap.size + 1, 0, none⟩)]] W' (NewL 3 (FmV d) W' xs)) := hid fun W' hW' xs a c hx => HV.out W' w1.heap.size (w1.heap.size + 1) (below_trans HB.out hW') (BB.kept hW') (BN.kept hW') xs a c (hx.kept (below_trans HB.out hW'))
  have HG : Hid (Below W.heap.size W W) := hid (Below.refl _ _)
  have f0 : W.cell? ⟨w.heap.size, 0, none⟩ = some (.int .i64 x.num) := Bx.cell 0 _ rfl
  have f1 : W.cell? ⟨w.heap.size, 1, none⟩ = some (.slice ka x.ks.length kc) := Bx.cell 1 _ rfl
  have f2 : W.cell? ⟨w.heap.size, 2, none⟩ = some (.slice va x.vs.length vc) := Bx.cell 2 _ rfl
  have hp1 : w.heap.size ≠ w.heap.size + 1 := by omega
  have xr := Br.cellF
  have yr := Br.frz
  have zr := Br.lt
  clear Bx BB BN HBB HV hbz hs1
  generalize w1.heap.size + 1 = q8 at *
  go_region_held3 (fun W => W.cell? ⟨w.heap.size, 0, none⟩ = some (.int .i64 x.num) ∧ W.cell? ⟨w.heap.size, 1, none⟩ = some (.slice ka x.ks.length kc) ∧ W.cell? ⟨w.heap.size, 2, none⟩ = some (.slice va x.vs.length vc)) (first | exact ⟨f0, f1, f2⟩ | exact ⟨cs3 f0 hp1, cs3 f1 hp1, cs3 f2 hp1⟩) (first | (go_at_call_of 79 (Value.slice ka x.ks.length kc); refine (HT.out _ (by have := HG.out; exact blBy) x.ks ka kc G.out).mono ?_; rintro e w2 ⟨a1, c1, rfl, hn, hbx⟩; replace f0 := cell_below f0 (below_trans (by first | exact Below.refl _ _ | exact below_drew1 _ | exact below_drewN _ _) hbx); replace f1 := cell_below f1 (below_trans (by first | exact Below.refl _ _ | exact below_drew1 _ | exact below_drewN _ _) hbx); replace f2 := cell_below f2 (below_trans (by first | exact Below.refl _ _ | exact below_drew1 _ | exact below_drewN _ _) hbx); replace Br := Br.kept (below_trans (by first | exact Below.refl _ _ | exact below_drew1 _ | exact below_drewN _ _) hbx); replace xr := Br.cellF; replace yr := Br.frz; replace zr := Br.lt; replace HB := hid (below_trans HB.out (below_trans (by first | exact Below.refl _ _ | exact below_drew1 _ | exact below_drewN _ _) hbx)); replace HG := hid (below_trans HG.out (below_trans (by first | exact Below.refl _ _ | exact below_drew1 _ | exact below_drewN _ _) hbx)); have H1 : Hid (VlsR w2 (w.heap.size + 2 ≤ ·) d (.slice a1 x.ks.length c1) x.ks) := hid (VlsR.go hn (Keep.refl (fun _ => True) w2) (fun _ _ => trivial) (fun k hk => Nat.le_trans HS.out hk)); (try replace H2 := hid (VlsR.kept H2.out (below_trans (by first | exact Below.refl _ _ | exact below_drew1 _ | exact below_drewN _ _) hbx))); replace HS := hid (Nat.le_trans HS.out (Below.size (below_trans (by first | exact Below.refl _ _ | exact below_drew1 _ | exact below_drewN _ _) hbx))); clear hn hbx) | (go_at_call_of 79 (Value.slice va x.vs.length vc); refine (HT.out _ (by have := HG.out; exact blBy) x.vs va vc Q.out).mono ?_; rintro e w3 ⟨a2, c2, rfl, hn, hbx⟩; replace f0 := cell_below f0 (below_trans (by first | exact Below.refl _ _ | exact below_drew1 _ | exact below_drewN _ _) hbx); replace f1 := cell_below f1 (below_trans (by first | exact Below.refl _ _ | exact below_drew1 _ | exact below_drewN _ _) hbx); replace f2 := cell_below f2 (below_trans (by first | exact Below.refl _ _ | exact below_drew1 _ | exact below_drewN _ _) hbx); replace Br := Br.kept (below_trans (by first | exact Below.refl _ _ | exact below_drew1 _ | exact below_drewN _ _) hbx); replace xr := Br.cellF; replace yr := Br.frz; replace zr := Br.lt; replace HB := hid (below_trans HB.out (below_trans (by first | exact Below.refl _ _ | exact below_drew1 _ | exact below_drewN _ _) hbx)); replace HG := hid (below_trans HG.out (below_trans (by first | exact Below.refl _ _ | exact below_drew1 _ | exact below_drewN _ _) hbx)); have H2 : Hid (VlsR w3 (w.heap.size + 2 ≤ ·) d (.slice a2 x.vs.length c2) x.vs) := hid (VlsR.go hn (Keep.refl (fun _ => True) w3) (fun _ _ => trivial) (fun k hk => Nat.le_trans HS.out hk)); (try replace H1 := hid (VlsR.kept H1.out (below_trans (by first | exact Below.refl _ _ | exact below_drew1 _ | exact below_drewN _ _) hbx))); replace HS := hid (Nat.le_trans HS.out (Below.size (below_trans (by first | exact Below.refl _ _ | exact below_drew1 _ | exact below_drewN _ _) hbx))); clear hn hbx))
  all_goals go_wp2
  all_goals exact bodyPost_ret (v := .agg #[.int .i64 x.num, .slice a1 x.ks.length c1, .slice a2 x.vs.length c2]) (by simp [results, Tryz.results74, go_sem, xr, zr, yr]) rfl (NewE.mk [.int .i64 x.num, .slice a1 x.ks.length c1, .slice a2 x.vs.length c2] ⟨_, _, rfl, VlsR.go H1.out (f := (w.heap.size + 2 ≤ ·)) (by with_reducible repeat (first | exact Keep.refl _ _ | refine kpS ?_ (by first | (simp; done) | (simp; omega) | omega) | refine kpA ?_ _ | refine kpD ?_ | refine kpN ?_ _)) (fun _ h => h) (fun k hk => by omega), VlsR.go H2.out (f := (w.heap.size + 2 ≤ ·)) (by with_reducible repeat (first | exact Keep.refl _ _ | refine kpS ?_ (by first | (simp; done) | (simp; omega) | omega) | refine kpA ?_ _ | refine kpD ?_ | refine kpN ?_ _)) (fun _ h => h) (fun k hk => by omega), HU.out⟩ (by have := HB.out; exact blBy))
end Go.Proofs.YtkifjpaoncjokaaGreatDoor
namespace Go.Proofs.YtkifjpaoncjokaaGreatDoor
open Go.RowKit
set_option maxRecDepth 1000000
set_option linter.unusedVariables false
set_option linter.unusedSimpArgs false
set_option maxHeartbeats 2000000
theorem rebuiltT : ∀ d, CpAt d
  | 0 => fun _ _ _ _ h => h.elim
  | d + 1 => fun w Z cs m h => by
    have HC := rebuiltT d
    have h0 := h
    obtain ⟨ka, kc, va, vc, rfl, g, q, -⟩ := msg_open h
    have HT : Hid (∀ (W : World) (p4 p6 p7 : Nat), Below w.heap.size w W → CpB W p4 p6 p7 → Calls Tryz.prog 80 #[.slice ka m.fs.length kc, .func (.func 74) #[] #[.pointer (some ⟨p7, 0, none⟩), .pointer (some ⟨p4, 0, none⟩), .pointer (some ⟨p6, 0, none⟩)]] W (NewL 3 (FmF d) W m.fs)) := hid fun W p4 p6 p7 hW hB => by
      have := turnedF W Z d d m.fs ka kc (g.kept hW) 74 #[.pointer (some ⟨p7, 0, none⟩), .pointer (some ⟨p4, 0, none⟩), .pointer (some ⟨p6, 0, none⟩)] cfF id (fun W' hW' cs x _ hx => newFieldT d HC W' Z cs x hx p4 p6 p7 (hB.kept hW'))
      rw [List.map_id] at this
      exact this
    have HE : Hid (∀ (W : World), Below w.heap.size w W → Calls Tryz.prog 81 #[.slice va m.us.length vc, .func (.func 82) #[] #[]] W (NewL 4 FmE W m.us)) := hid fun W hW => by
      have := turnedE W Z m.us va vc (q.kept hW) 82 #[] cfE id (fun W' hW' cs x _ hx => newEntryT W' Z cs x hx)
      rw [List.map_id] at this
      exact this
    have HW := hid (fun W (hW : Below w.heap.size w W) => wholeT W _ m Z (d + 1) (h0.kept hW))
    clear h h0 g q HC
    go_enter Tryz.func51, Tryz.ntmps51
    go_wp2_with fail
    refine (HW.out _ (by exact blBy)).mono ?_
    rintro e w1 ⟨rfl, hbx⟩
    have B4 : Blk w1 w.heap.size 106 #[] := (((((Blk.new _ _ _).kept (below_alloc _)).kept (below_alloc _)).kept (below_alloc _)).kept (below_alloc _)).kept hbx
    have B5 : Blk w1 (w.heap.size + 1) 29 #[.slice ka m.fs.length kc, .slice va m.us.length vc] := ((((Blk.newAt (by simp)).kept (below_alloc _)).kept (below_alloc _)).kept (below_alloc _)).kept hbx
    have B6 : Blk w1 (w.heap.size + 1 + 1) 107 #[.func (.func 49) #[] #[]] := (((Blk.newAt (by simp)).kept (below_alloc _)).kept (below_alloc _)).kept hbx
    have B7 : Blk w1 (w.heap.size + 1 + 1 + 1) 108 #[.func (.func 50) #[] #[]] := ((Blk.newAt (by simp)).kept (below_alloc _)).kept hbx
    have Br : Blk w1 (w.heap.size + 1 + 1 + 1 + 1) 29 #[.slice none 0 0, .slice none 0 0] := (Blk.newAt (by simp)).kept hbx
    have hbz : Hid (Below w.heap.size w w1) := hid (bl_then (by exact blBy) hbx)
    have hs1 : w.heap.size + 5 ≤ w1.heap.size := by have := hbx.size; simpa using this
    clear hbx HW
    have x5 := B5.cellF
    have y5 := B5.frz
    have z5 := B5.lt
    go_upto_region 3 with fail
    have BB : CpB ((w1.setCell ⟨w.heap.size + 1, 0, none⟩ (.slice ka m.fs.length kc)).setCell ⟨w.heap.size + 1, 1, none⟩ (.slice va m.us.length vc)) w.heap.size (w.heap.size + 1 + 1) (w.heap.size + 1 + 1 + 1) := ⟨(B4.other (by simp) _).other (by simp) _, (B6.other (by simp) _).other (by simp) _, (B7.other (by simp; omega) _).other (by simp; omega) _⟩
    replace B5 := (B5.set 0 (.slice ka m.fs.length kc)).set 1 (.slice va m.us.length vc)
    replace Br := (Br.other (a := ⟨w.heap.size + 1, 0, none⟩) (by simp; omega) (.slice ka m.fs.length kc)).other (a := ⟨w.heap.size + 1, 1, none⟩) (by simp; omega) (.slice va m.us.length vc)
    have HB : Hid (Below w.heap.size w ((w1.setCell ⟨w.heap.size + 1, 0, none⟩ (.slice ka m.fs.length kc)).setCell ⟨w.heap.size + 1, 1, none⟩ (.slice va m.us.length vc))) := hid (by have := hbz.out; exact blBy)
    have HS : Hid (w.heap.size + 5 ≤ ((w1.setCell ⟨w.heap.size + 1, 0, none⟩ (.slice ka m.fs.length kc)).setCell ⟨w.heap.size + 1, 1, none⟩ (.slice va m.us.length vc)).heap.size) := hid (by simpa using hs1)
    clear x5 y5 z5 B4 B6 B7 hs1 hbz
    generalize ((w1.setCell ⟨w.heap.size + 1, 0, none⟩ (.slice ka m.fs.length kc)).setCell ⟨w.heap.size + 1, 1, none⟩ (.slice va m.us.length vc)) = W at *
    have f0 : W.cell? ⟨w.heap.size + 1, 0, none⟩ = some (.slice ka m.fs.length kc) := B5.cell 0 _ (by simp)
    have f1 : W.cell? ⟨w.heap.size + 1, 1, none⟩ = some (.slice va m.us.length vc) := B5.cell 1 _ (by simp)
    have hp1 : w.heap.size + 1 ≠ w.heap.size + 1 + 1 + 1 + 1 := by omega
    have HBB := hid BB
    have xr := Br.cellF
    have yr := Br.frz
    have zr := Br.lt
    clear B5 BB
    go_region_held3 (fun W => W.cell? ⟨w.heap.size + 1, 0, none⟩ = some (.slice ka m.fs.length kc) ∧ W.cell? ⟨w.heap.size + 1, 1, none⟩ = some (.slice va m.us.length vc)) (first | exact ⟨f0, f1⟩ | exact ⟨cs2 f0 hp1, cs2 f1 hp1⟩) (first | (go_at_call 80; refine (HT.out _ _ _ _ (by have := HB.out; exact blBy) (HBB.out.kept (by first | exact Below.refl _ _ | exact below_drew1 _ | exact below_drewN _ _))).mono ?_; rintro e w2 ⟨a1, c1, rfl, hn, hbx⟩; replace f0 := cell_below f0 (below_trans (by first | exact Below.refl _ _ | exact below_drew1 _ | exact below_drewN _ _) hbx); replace f1 := cell_below f1 (below_trans (by first | exact Below.refl _ _ | exact below_drew1 _ | exact below_drewN _ _) hbx); replace Br := Br.kept (below_trans (by first | exact Below.refl _ _ | exact below_drew1 _ | exact below_drewN _ _) hbx); replace xr := Br.cellF; replace yr := Br.frz; replace zr := Br.lt; replace HB := hid (below_trans HB.out (below_trans (by first | exact Below.refl _ _ | exact below_drew1 _ | exact below_drewN _ _) hbx)); replace HBB := hid (HBB.out.kept (below_trans (by first | exact Below.refl _ _ | exact below_drew1 _ | exact below_drewN _ _) hbx)); have H1 : Hid (FlsR w2 (w.heap.size + 5 ≤ ·) d (.slice a1 m.fs.length c1) m.fs) := hid (FlsR.go hn (Keep.refl (fun _ => True) w2) (fun _ _ => trivial) (fun k hk => Nat.le_trans HS.out hk)); (try replace H2 := hid (EnsR.kept H2.out (below_trans (by first | exact Below.refl _ _ | exact below_drew1 _ | exact below_drewN _ _) hbx))); replace HS := hid (Nat.le_trans HS.out (Below.size (below_trans (by first | exact Below.refl _ _ | exact below_drew1 _ | exact below_drewN _ _) hbx))); clear hn hbx) | (go_at_call 81; refine (HE.out _ (by have := HB.out; exact blBy)).mono ?_; rintro e w3 ⟨a2, c2, rfl, hn, hbx⟩; replace f0 := cell_below f0 (below_trans (by first | exact Below.refl _ _ | exact below_drew1 _ | exact below_drewN _ _) hbx); replace f1 := cell_below f1 (below_trans (by first | exact Below.refl _ _ | exact below_drew1 _ | exact below_drewN _ _) hbx); replace Br := Br.kept (below_trans (by first | exact Below.refl _ _ | exact below_drew1 _ | exact below_drewN _ _) hbx); replace xr := Br.cellF; replace yr := Br.frz; replace zr := Br.lt; replace HB := hid (below_trans HB.out (below_trans (by first | exact Below.refl _ _ | exact below_drew1 _ | exact below_drewN _ _) hbx)); replace HBB := hid (HBB.out.kept (below_trans (by first | exact Below.refl _ _ | exact below_drew1 _ | exact below_drewN _ _) hbx)); have H2 : Hid (EnsR w3 (w.heap.size + 5 ≤ ·) (.slice a2 m.us.length c2) m.us) := hid (EnsR.go hn (Keep.refl (fun _ => True) w3) (fun _ _ => trivial) (fun k hk => Nat.le_trans HS.out hk)); (try replace H1 := hid (FlsR.kept H1.out (below_trans (by first | exact Below.refl _ _ | exact below_drew1 _ | exact below_drewN _ _) hbx))); replace HS := hid (Nat.le_trans HS.out (Below.size (below_trans (by first | exact Below.refl _ _ | exact below_drew1 _ | exact below_drewN _ _) hbx))); clear hn hbx))
    all_goals go_wp2
    all_goals exact bodyPost_ret (v := .agg #[.slice a1 m.fs.length c1, .slice a2 m.us.length c2]) (by simp [results, Tryz.results51, go_sem, xr, zr, yr]) rfl (NewE.mk [.slice a1 m.fs.length c1, .slice a2 m.us.length c2] ⟨_, _, rfl, FlsR.go H1.out (f := (w.heap.size + 5 ≤ ·)) (by with_reducible repeat (first | exact Keep.refl _ _ | refine kpS ?_ (by first | (simp; done) | (simp; omega) | omega) | refine kpA ?_ _ | refine kpD ?_ | refine kpN ?_ _)) (fun _ h => h) (fun k hk => by omega), EnsR.go H2.out (f := (w.heap.size + 5 ≤ ·)) (by with_reducible repeat (first | exact Keep.refl _ _ | refine kpS ?_ (by first | (simp; done) | (simp; omega) | omega) | refine kpA ?_ _ | refine kpD ?_ | refine kpN ?_ _)) (fun _ h => h) (fun k hk => by omega)⟩ (by have := HB.out; exact blBy))
theorem copyT (d : Nat) (w : World) (Z : Nat → Prop) (cs : List Value) (m : CM) (h : MsgE w Z d cs m) : Calls Tryz.prog 34 #[.agg cs.toArray] w (NewE (FmM d) w m) := by
  have HR := hid (fun W (hW : Below w.heap.size w W) => rebuiltT d W Z cs m (h.kept hW))
  obtain ⟨ka, kc, va, vc, rfl, -⟩ := msg_openD h
  clear h
  go_enter Tryz.func34, Tryz.ntmps34
  go_wp2_with fail
  refine (HR.out _ (by exact blBy)).mono ?_
  rintro e w1 ⟨ds, rfl, hn, hbx⟩
  have Br : Blk w1 (w.heap.size + 1) 29 #[.slice none 0 0, .slice none 0 0] := (Blk.newAt (by simp)).kept hbx
  have HN : Hid (MsgE w1 (w.heap.size + 2 ≤ ·) d ds m) := hid (MsgE.go (Keep.refl (fun _ => True) w1) (fun _ _ => trivial) (fun k hk => by simpa using hk) d _ _ hn)
  have hbz : Hid (Below w.heap.size w w1) := hid (bl_then (by exact blBy) hbx)
  clear hbx hn HR
  obtain ⟨fa, fc, ua, uc, rfl, -⟩ := msg_openD HN.out
  have xr := Br.cellF
  have yr := Br.frz
  have zr := Br.lt
  go_wp2
  exact bodyPost_ret (v := .agg #[.slice fa m.fs.length fc, .slice ua m.us.length uc]) (by simp [results, Tryz.results34, go_sem, xr, zr, yr]) rfl (NewE.mk [.slice fa m.fs.length fc, .slice ua m.us.length uc] (MsgE.go (f := (w.heap.size + 2 ≤ ·)) (by with_reducible repeat (first | exact Keep.refl _ _ | refine kpS ?_ (by first | (simp; done) | (simp; omega) | omega) | refine kpA ?_ _ | refine kpD ?_ | refine kpN ?_ _)) (fun _ h => h) (fun k hk => by omega) d _ _ HN.out) (by have := hbz.out; exact blBy))
end Go.Proofs.YtkifjpaoncjokaaGreatDoor
namespace Go.Proofs.YtkifjpaoncjokaaGreatDoor
open Go.RowKit
set_option maxRecDepth 1000000
set_option linter.unusedVariables false
set_option linter.unusedSimpArgs false
set_option maxHeartbeats 1000000
theorem idxFld (w : World) (Z : Nat → Prop) (d : Nat) (xs : List (CF CM)) (a : Option Addr) (c : Nat) (h : FlsR w Z d (.slice a xs.length c) xs) (fn : FuncId) (caps : Array Value) (hcf : ∀ (args : Array Value) (W : World), (callFunc fn args).run Tryz.prog W = .ok (.enter fn args) W) (P : CF CM → Bool)
    (hf : ∀ (W : World), Below w.heap.size w W → ∀ (cs : List Value) (x : CF CM), x ∈ xs → FmF d W Z cs x → Calls Tryz.prog fn (#[.agg cs.toArray] ++ caps) W fun e w' => e = .returned (.bool (P x)) ∧ Below W.heap.size W w') : Calls Tryz.prog 41 #[.slice a xs.length c, .func (.func fn) #[] caps] w fun e w' => e = .returned (.int .i64 (fnd P xs 0)) ∧ Below w.heap.size w w' := by
  obtain ⟨_, _, e1, l1⟩ := RowM.sl h
  clear e1
  have m1 : (xs.length : Int) ≤ 9223372036854775807 := by omega
  have H1 := hid h
  have HF := hid hf
  clear h hf
  go_enter Tryz.func41, Tryz.ntmps41
  go_wp2
  go_loopw [8] (fun r wr => ∃ j : Nat, r = .int .i64 j ∧ j ≤ xs.length ∧ Hid (fnd P xs 0 = fnd P (xs.drop j) j) ∧ Hid (Below w.heap.size w wr)) (fun r wr => xs.length - numAt wr r)
  case atStart => exact ⟨0, rfl, by omega, hid rfl, hid (Below.refl _ _)⟩
  case round =>
    obtain ⟨j, rfl, hj, hf, hb⟩ := hrel
    by_cases hlt : j < xs.length
    · have h2 : (j : Int) < (xs.length : Int) := by omega
      obtain ⟨b1, o1, ka1, kc1, va1, vc1, rfl, -, hb1, c0, c1, c2, he⟩ := fls_at (H1.out.kept hb.out) hlt
      have HE := hid he
      have HST := hid (fnd_at (p := P) hlt)
      have HME := hid (List.getElem_mem hlt)
      clear he
      generalize xs[j] = x at *
      go_wp2_with fail
      refine (HF.out _ (by have := hb.out; exact blBy) [.int .i64 x.num, .slice ka1 x.ks.length kc1, .slice va1 x.vs.length vc1] x HME.out (Fam.go (famF d) HE.out (keepT (by exact blBy)) (fun _ _ => trivial) (fun _ h => h))).mono ?_
      rintro e w1 ⟨rfl, hb1⟩
      have HB1 : Hid (Below w.heap.size w w1) := hid (bl_then (by have := hb.out; exact blBy) hb1)
      clear hb1
      cases hq : P x with
      | true =>
        go_wp2
        go_ret
        exact ⟨ret_int (by rw [hf.out, HST.out, hq]; simp), HB1.out⟩
      | false =>
        go_wp2
        exact ⟨⟨j + 1, by simp, by omega, hid (by rw [hf.out, HST.out, hq]; simp), HB1⟩, by simp [numAt]; omega⟩
    · have h2 : ¬ (j : Int) < (xs.length : Int) := by omega
      have HE : Hid (fnd P xs 0 = -1) := hid (by rw [hf.out, List.drop_of_length_le (by omega)]; rfl)
      go_wp2
      go_ret
      exact ⟨ret_int (by rw [HE.out]), hb.out⟩
def isN (n : Int) (x : CF CM) : Bool := decide (x.num = n)
theorem getFn (w : World) (Z : Nat → Prop) (d : Nat) (cs : List Value) (x : CF CM) (h : FmF d w Z cs x) (p : Nat) (n : Int) (hp : Blk w p 3 #[.int .i64 n]) : Calls Tryz.prog 42 #[.agg cs.toArray, .pointer (some ⟨p, 0, none⟩)] w fun e w' => e = .returned (.bool (isN n x)) ∧ Below w.heap.size w w' := by
  obtain ⟨ka, kc, va, vc, rfl, -⟩ := fld_open h
  have xp := hp.cellF
  have zp := hp.lt
  clear h hp
  go_enter Tryz.func42, Tryz.ntmps42
  go_wp2
  go_ret
  exact ⟨ret_bool (by unfold isN; by_cases q : x.num = n <;> simp [q]), by exact blBy⟩
theorem cfGet (args : Array Value) (W : World) : (callFunc 42 args).run Tryz.prog W = .ok (.enter 42 args) W := cf_enter Tryz.func42 (by kernel_rfl) (by kernel_rfl) args W
theorem RowM.sub {α : Type} {w : World} {Z : Nat → Prop} {k : Nat} {E : List Value → α → Prop} {b o n c : Nat} {xs : List α} (h : RowM w Z k E (.slice (some ⟨b, o, none⟩) n c) xs) (hk : 0 < k) {i : Nat} (hi : i < xs.length) {c' : Nat} (h1 : 1 ≤ c') (h2 : c' ≤ 9223372036854775807) : RowM w Z k E (.slice (some ⟨b, o + i * k, none⟩) 1 c') [xs[i]] := by
  obtain ⟨b', o', cs, e, hz, -, hl, he, hc⟩ := RowM.at h hk hi
  cases e
  refine ⟨[⟨cs, hl⟩], ⟨_, _, rfl, by simp [hl], h1, h2, .inr ⟨b, o + i * k, rfl, hz, fun j u hu => hc j u (by simpa using hu)⟩⟩, rfl, by simp, fun j t x ht hx => ?_⟩
  have e0 : j = 0 := by
    have := (List.getElem?_eq_some_iff.1 ht).1
    simpa using this
  subst e0
  simp at ht hx
  subst ht hx
  exact he
theorem RowM.cap {α : Type} {w : World} {Z : Nat → Prop} {k : Nat} {E : List Value → α → Prop} {a : Option Addr} {n c : Nat} {xs : List α} (h : RowM w Z k E (.slice a n c) xs) : xs.length ≤ c ∧ c ≤ 9223372036854775807 := by
  obtain ⟨ts, ⟨a', c', e, hv⟩, _⟩ := h
  cases e
  exact ⟨hv.le, hv.max⟩
theorem fieldRun (s u : Value) (W : World) (hs : s.cells = #[s]) : (Instr.field 29 (.agg #[s, u]) 0).run Tryz.prog W = .ok s W := by
  simp [Instr.field, part, asAgg, go_sem]
def cfZ : CF CM := ⟨0, [], []⟩
/-- A field, and whether it is there. -/
def GetR (d : Nat) (w : World) (o : Option (CF CM)) (e : Ending) (w' : World) : Prop := ∃ cs : List Value, e = .returned (.tuple #[.agg cs.toArray, .bool o.isSome]) ∧ FmF d w' (w.heap.size ≤ ·) cs (o.getD cfZ) ∧ Below w.heap.size w w'
theorem getT (d : Nat) (w : World) (Z : Nat → Prop) (cs : List Value) (m : CM) (h : MsgE w Z (d + 1) cs m) (n : Int) : Calls Tryz.prog 24 #[.agg cs.toArray, .int .i64 n] w (GetR d w (m.fs.find? (isN n))) := by
  obtain ⟨ka, kc, va, vc, rfl, g, q, l1, -⟩ := msg_open h
  have HI := hid fun W (hW : Below w.heap.size w W) (p : Nat) (hp : Blk W p 3 #[.int .i64 n]) => idxFld W Z d m.fs ka kc (g.kept hW) 42 #[.pointer (some ⟨p, 0, none⟩)] cfGet (isN n) (fun W' hW' cs x _ hx => getFn W' Z d cs x hx p n (hp.kept hW'))
  have G := hid g
  have LC := RowM.cap g
  have LC1 : (m.fs.length : Int) ≤ (kc : Int) := by omega
  have LC2 : (kc : Int) ≤ 9223372036854775807 := by omega
  clear h g q
  go_enter Tryz.func24, Tryz.ntmps24
  go_wp2_with fail
  refine (HI.out _ (by exact blBy) _ ((Blk.newAt (by simp)).kept (below_alloc _))).mono ?_
  rintro e w1 ⟨rfl, hbx⟩
  have Bx : Blk w1 w.heap.size 29 #[.slice ka m.fs.length kc, .slice va m.us.length vc] := (((Blk.new _ _ _).kept (below_alloc _)).kept (below_alloc _)).kept hbx
  have Br : Blk w1 (w.heap.size + 1 + 1) 33 #[.int .i64 0, .slice none 0 0, .slice none 0 0] := (Blk.newAt (by simp)).kept hbx
  have hbz : Hid (Below w.heap.size w w1) := hid (bl_then (by exact blBy) hbx)
  clear hbx HI
  have xx := Bx.cellF
  have zx := Bx.lt
  have xr := Br.cellF
  have yr := Br.frz
  have zr := Br.lt
  rcases fnd_find (isN n) m.fs 0 with ⟨h1, h2⟩ | ⟨j, hj, h1, h2⟩
  · have H2 := hid h2
    generalize fnd (isN n) m.fs 0 = i at *
    have k0 : (i < 0) = True := eq_true h1
    clear h1 h2
    go_wp2
    exact bodyPost_ret (v := .tuple #[.agg #[.int .i64 0, .slice none 0 0, .slice none 0 0], .bool false]) (by simp [results, Tryz.results24, go_sem, xr, zr, yr]) rfl ⟨[.int .i64 0, .slice none 0 0, .slice none 0 0], by rw [H2.out]; rfl, by rw [H2.out]; exact ⟨_, _, rfl, RowM.nil _ _ _ _, RowM.nil _ _ _ _, by constructor <;> decide⟩, by have := hbz.out; exact blBy⟩
  · have H2 := hid h2
    rw [h1, Nat.zero_add]
    have k0 : ((j : Int) < 0) = False := eq_false (by omega)
    have k1 : (j : Int) < (m.fs.length : Int) := by omega
    have k2 : (j : Int) + 1 ≤ (m.fs.length : Int) := by omega
    clear h1 h2
    obtain ⟨b1, o1, _, _, _, _, rfl, -⟩ := fls_at G.out hj
    have HSB : Hid (∀ W, Below w.heap.size w W → MsgE W Z (d + 1) [.slice (some ⟨b1, o1 + j * 3, none⟩) 1 (kc - j), .slice none 0 0] (CM.mk [m.fs[j]] [])) := hid fun W hW => ⟨_, _, rfl, RowM.sub (G.out.kept hW) (by decide) hj (by omega) (by omega), RowM.nil _ _ _ _⟩
    generalize m.fs[j] = x at *
    go_wp2_with fail
    refine (copyT (d + 1) _ Z [.slice (some ⟨b1, o1 + j * 3, none⟩) 1 (kc - j), .slice none 0 0] (CM.mk [x] []) (HSB.out _ hbz.out)).mono ?_
    rintro e w2 ⟨ds, rfl, hn, hbx⟩
    obtain ⟨fa, fc, ua, uc, rfl, g1, -⟩ := msg_open hn
    obtain ⟨b2, o2, pa, pc, qa, qc, hfa, hz2, hb2, c0, c1, c2, he⟩ := fls_at g1 (i := 0) (by simp [CM.fs])
    subst hfa
    replace Br := Br.kept hbx
    have hne : b2 ≠ w.heap.size + 1 + 1 := by
      have hz3 : w1.heap.size ≤ b2 := hz2
      omega
    have d0 : w2.cell? ⟨b2, o2, none⟩ = some (.int .i64 x.num) := by simpa [CM.fs] using c0
    have d1 : w2.cell? ⟨b2, o2 + 1, none⟩ = some (.slice pa x.ks.length pc) := by simpa [CM.fs] using c1
    have d2 : w2.cell? ⟨b2, o2 + 2, none⟩ = some (.slice qa x.vs.length qc) := by simpa [CM.fs] using c2
    have HN : Hid (FmF d w2 (w.heap.size + 3 ≤ ·) [.int .i64 x.num, .slice pa x.ks.length pc, .slice qa x.vs.length qc] x) := hid ((famF d).go he (Keep.refl (fun _ => True) w2) (fun _ _ => trivial) (fun k hk => by have hk2 : w1.heap.size ≤ k := hk; omega))
    have hby : Hid (Below w.heap.size w w2) := hid (bl_then hbz.out hbx)
    clear c0 c1 c2 he hn g1 hz2 xx zx xr yr zr hbx hbz HSB
    have xr := Br.cellF
    have yr := Br.frz
    have zr := Br.lt
    have ef : (CM.mk [x] []).fs.length = 1 := rfl
    have eu : (CM.mk [x] []).us.length = 0 := rfl
    rw [ef, eu]
    have HFD := fieldRun (.slice (some ⟨b2, o2, none⟩) 1 fc) (.slice ua 0 uc) w2 rfl
    go_wp2
    exact bodyPost_ret (v := .tuple #[.agg #[.int .i64 x.num, .slice pa x.ks.length pc, .slice qa x.vs.length qc], .bool true]) (by simp [results, Tryz.results24, go_sem, xr, zr, yr]) rfl ⟨[.int .i64 x.num, .slice pa x.ks.length pc, .slice qa x.vs.length qc], by rw [H2.out]; rfl, by rw [H2.out]; exact (famF d).go HN.out (f := (w.heap.size + 3 ≤ ·)) (by with_reducible repeat (first | exact Keep.refl _ _ | refine kpS ?_ (by first | (simp; done) | (simp; omega) | omega) | refine kpA ?_ _ | refine kpD ?_ | refine kpN ?_ _)) (fun _ h => h) (fun k hk => by omega), by have := hby.out; exact blBy⟩
end Go.Proofs.YtkifjpaoncjokaaGreatDoor
namespace Go.Proofs.YtkifjpaoncjokaaGreatDoor
open Go.RowKit
set_option maxRecDepth 1000000
set_option linter.unusedVariables false
set_option linter.unusedSimpArgs false
set_option maxHeartbeats 2000000
end Go.Proofs.YtkifjpaoncjokaaGreatDoor
namespace Go.Proofs.YtkifjpaoncjokaaGreatDoor
open Go.RowKit
set_option maxRecDepth 1000000
set_option linter.unusedVariables false
set_option linter.unusedSimpArgs false
set_option maxHeartbeats 2000000
end Go.Proofs.YtkifjpaoncjokaaGreatDoor
namespace Go.Proofs.YtkifjpaoncjokaaGreatDoor
open Go.RowKit
set_option maxRecDepth 1000000
set_option linter.unusedVariables false
set_option linter.unusedSimpArgs false
set_option maxHeartbeats 1000000
/-- A field of a type, but for what its messages hold. -/
def fieldB (l : List TV) (o : FT) (f : CF CM) : Bool := shapeB o.lab f && (f.vs.all (valB l o) && (f.ks.all (scalarB o.key) && keysB o.key f.ks))
theorem fieldIsTypedM (w : World) (l : List TV) (ta : Option Addr) (tc : Nat) (h : TbR w (.slice ta l.length tc) l) (o : FT) (hr : 0 ≤ o.ref ∧ o.ref.toNat < l.length) (Z : Nat → Prop) (d : Nat) (cs : List Value) (f : CF CM) (hf : FldE w Z (MsgE w Z d) cs f) : Calls Tryz.prog 113 #[.agg #[.slice ta l.length tc], .agg (cOW o), .agg cs.toArray] w fun e w' => e = .returned (.bool (fieldB l o f)) ∧ Below w.heap.size w w' := by
  have HSH := hid fun W (hW : Below w.heap.size w W) => hasShapeM W Z d o.lab cs f (hf.kept hW)
  obtain ⟨ka, kc, va, vc, rfl, g1, g2, l1, l2, -⟩ := fld_open hf
  have HVA := hid fun W (hW : Below w.heap.size w W) (p q : Nat) (hp : Blk W p 122 #[.slice ta l.length tc]) (hq : Blk W q 65 (cOW o)) => everyV W Z d f.vs va vc (g2.kept hW) 149 #[.pointer (some ⟨p, 0, none⟩), .pointer (some ⟨q, 0, none⟩)] cfVal (valB l o) (fun W' hW' cs x hx hm => valFn W' l ta tc (h.kept (below_trans hW hW')) o hr Z d cs x hm p q (hp.kept hW') (hq.kept hW'))
  have HKA := hid fun W (hW : Below w.heap.size w W) (q : Nat) (hq : Blk W q 65 (cOW o)) => everyV W Z d f.ks ka kc (g1.kept hW) 151 #[.pointer (some ⟨q, 0, none⟩)] cfKey (scalarB o.key) (fun W' hW' cs x hx hm => keyFn W' o Z d cs x hm q (hq.kept hW'))
  have HKR := hid fun W (hW : Below w.heap.size w W) => keysRiseM W Z d o.key f.ks ka kc (g1.kept hW)
  have HX : Hid (fieldB l o f = (shapeB o.lab f && (f.vs.all (valB l o) && (f.ks.all (scalarB o.key) && keysB o.key f.ks)))) := hid rfl
  clear h hr hf g1 g2
  generalize fieldB l o f = res at *
  generalize shapeB o.lab f = s1 at *
  generalize f.vs.all (valB l o) = s2 at *
  generalize f.ks.all (scalarB o.key) = s3 at *
  generalize keysB o.key f.ks = s4 at *
  unfold cOW at *
  go_enter Tryz.func113, Tryz.ntmps113
  go_wp2_with fail
  refine (HSH.out _ (by exact blBy)).mono ?_
  rintro e w1 ⟨rfl, hb1⟩
  have Br : Hid (Blk w1 w.heap.size 122 #[.slice ta l.length tc]) := hid ((((Blk.new _ _ _).kept (below_alloc _)).kept (below_alloc _)).kept hb1)
  have Bo : Hid (Blk w1 (w.heap.size + 1) 65 #[.string (strOfNums o.name), .int .i64 o.num, .int .i64 o.kind, .int .i64 o.ref, .int .i64 o.lab, .int .i64 o.one, .int .i64 o.key]) := hid (((Blk.newAt (by simp)).kept (below_alloc _)).kept hb1)
  have Bf : Hid (Blk w1 (w.heap.size + 1 + 1) 33 #[.int .i64 f.num, .slice ka f.ks.length kc, .slice va f.vs.length vc]) := hid ((Blk.newAt (by simp)).kept hb1)
  have hbz : Hid (Below w.heap.size w w1) := hid (bl_then (by exact blBy) hb1)
  clear hb1
  have xo := Bo.out.cellF
  have zo := Bo.out.lt
  have xf := Bf.out.cellF
  have zf := Bf.out.lt
  cases s1 with
  | false =>
    rw [Bool.false_and] at HX
    go_wp2
    go_ret
    exact ⟨ret_bool HX.out.symm, hbz.out⟩
  | true =>
  rw [Bool.true_and] at HX
  go_wp2_with fail
  refine (HVA.out _ hbz.out _ _ Br.out Bo.out).mono ?_
  rintro e w2 ⟨rfl, hb2⟩
  replace Br := hid (Br.out.kept hb2)
  replace Bo := hid (Bo.out.kept hb2)
  replace Bf := hid (Bf.out.kept hb2)
  replace hbz : Hid (Below w.heap.size w w2) := hid (below_trans hbz.out hb2)
  clear hb2 xo zo xf zf
  have xo := Bo.out.cellF
  have zo := Bo.out.lt
  have xf := Bf.out.cellF
  have zf := Bf.out.lt
  cases s2 with
  | false =>
    rw [Bool.false_and] at HX
    go_wp2
    go_ret
    exact ⟨ret_bool HX.out.symm, hbz.out⟩
  | true =>
  rw [Bool.true_and] at HX
  go_wp2_with fail
  refine (HKA.out _ hbz.out _ Bo.out).mono ?_
  rintro e w3 ⟨rfl, hb3⟩
  replace Br := hid (Br.out.kept hb3)
  replace Bo := hid (Bo.out.kept hb3)
  replace Bf := hid (Bf.out.kept hb3)
  replace hbz : Hid (Below w.heap.size w w3) := hid (below_trans hbz.out hb3)
  clear hb3 xo zo xf zf
  have xo := Bo.out.cellF
  have zo := Bo.out.lt
  have xf := Bf.out.cellF
  have zf := Bf.out.lt
  cases s3 with
  | false =>
    rw [Bool.false_and] at HX
    go_wp2
    go_ret
    exact ⟨ret_bool HX.out.symm, hbz.out⟩
  | true =>
  rw [Bool.true_and] at HX
  go_wp2_with fail
  refine (HKR.out _ hbz.out).mono ?_
  rintro e w4 ⟨rfl, hb4⟩
  replace Br := hid (Br.out.kept hb4)
  replace Bo := hid (Bo.out.kept hb4)
  replace Bf := hid (Bf.out.kept hb4)
  replace hbz : Hid (Below w.heap.size w w4) := hid (below_trans hbz.out hb4)
  clear hb4 xo zo xf zf
  go_wp2
  go_ret
  exact ⟨ret_bool HX.out.symm, hbz.out⟩
end Go.Proofs.YtkifjpaoncjokaaGreatDoor
namespace Go.Proofs.YtkifjpaoncjokaaGreatDoor
open Go.RowKit
set_option maxRecDepth 1000000
set_option linter.unusedVariables false
set_option linter.unusedSimpArgs false
set_option maxHeartbeats 1000000
/-- A field that is typed, by its number. -/
def typB8 (l : List TV) (fs : List FT) (f : CF CM) : Bool := hasF fs f.num && fieldB l (ownF fs f.num) f
theorem typFn (w : World) (l : List TV) (ta : Option Addr) (tc : Nat) (h : TbR w (.slice ta l.length tc) l) (hg : goodB l = true) (x : TV) (hx : x ∈ l) (Z : Nat → Prop) (d : Nat) (cs : List Value) (f : CF CM) (hf : FldE w Z (MsgE w Z d) cs f) (p q : Nat) (hp : Blk w p 63 (cTV x).toArray) (hq : Blk w q 122 #[.slice ta l.length tc]) : Calls Tryz.prog 112 #[.agg cs.toArray, .pointer (some ⟨p, 0, none⟩), .pointer (some ⟨q, 0, none⟩)] w fun e w' => e = .returned (.bool (typB8 l x.t.fs f)) ∧ Below w.heap.size w w' := by
  have HFT := hid fun W (hW : Below w.heap.size w W) (ho : hasF x.t.fs f.num = true) => fieldIsTypedM W l ta tc (h.kept hW) (ownF x.t.fs f.num) (by
    have hin : ownF x.t.fs f.num ∈ x.t.fs := by
      unfold ownF hasF at *
      cases e : x.t.fs.find? (fun o => o.num == f.num) with
      | none => rw [e] at ho; cases ho
      | some o => exact List.mem_of_find?_eq_some e
    exact good_refs hg hx hin) Z d cs f (hf.kept hW)
  have TX := h.ty x hx
  obtain ⟨ka, kc, va, vc, rfl, -⟩ := fld_open hf
  obtain ⟨ta1, tc1, ta2, tc2, ta3, tc3, ta4, tc4, e1, e2, e3, e4⟩ := shT_of TX
  have ecx : cTV x = [.string (strOfNums x.t.name), .bool x.t.enum, .slice ta1 x.t.fs.length tc1, .slice ta2 x.t.os.length tc2, .slice ta3 x.t.ss.length tc3, .slice ta4 x.t.rs.length tc4] := by unfold cTV; rw [e1, e2, e3, e4]
  rw [ecx] at hp
  have HFI := hid fun W (hW : Below w.heap.size w W) => findT x.t.fs f.num W ta1 tc1 (by rw [← e1]; exact (TX.kept hW).f) (good_rise hg hx).1 (good_rise hg hx).2
  have HX : Hid (typB8 l x.t.fs f = (hasF x.t.fs f.num && fieldB l (ownF x.t.fs f.num) f)) := hid rfl
  have HP := hid hp
  have HQ := hid hq
  have x1 := hp.cellF
  have z1 := hp.lt
  clear h hg hf TX e1 e2 e3 e4 ecx hx hp hq
  generalize typB8 l x.t.fs f = res at *
  generalize ownF x.t.fs f.num = o at *
  generalize hasF x.t.fs f.num = ok at *
  generalize fieldB l o f = s2 at *
  unfold tFT at HFI
  unfold cOW at HFT
  go_enter Tryz.func112, Tryz.ntmps112
  go_wp2_with fail
  refine (HFI.out _ (by exact blBy)).mono ?_
  rintro e w1 ⟨rfl, hb1⟩
  have Bf : Hid (Blk w1 w.heap.size 33 #[.int .i64 f.num, .slice ka f.ks.length kc, .slice va f.vs.length vc]) := hid ((Blk.new _ _ _).kept hb1)
  have hbz : Hid (Below w.heap.size w w1) := hid (bl_then (by exact blBy) hb1)
  clear hb1 x1 z1
  have Bq := HQ.out.kept hbz.out
  have x2 := Bq.cellF
  have z2 := Bq.lt
  have x3 := Bf.out.cellF
  have z3 := Bf.out.lt
  cases ok with
  | false =>
    rw [Bool.false_and] at HX
    go_wp2
    go_ret
    exact ⟨ret_bool HX.out.symm, by have := hbz.out; exact blBy⟩
  | true =>
  rw [Bool.true_and] at HX
  go_wp2_with fail
  refine (HFT.out _ (by have := hbz.out; exact blBy) (by first | exact trivial | rfl)).mono ?_
  rintro e w2 ⟨rfl, hb2⟩
  have hby : Hid (Below w.heap.size w w2) := hid (bl_then (by have := hbz.out; exact blBy) hb2)
  clear hb2
  go_wp2
  go_ret
  exact ⟨ret_bool HX.out.symm, hby.out⟩
theorem cfTyp (args : Array Value) (W : World) : (callFunc 112 args).run Tryz.prog W = .ok (.enter 112 args) W := cf_enter Tryz.func112 (by kernel_rfl) (by kernel_rfl) args W
end Go.Proofs.YtkifjpaoncjokaaGreatDoor
namespace Go.Proofs.YtkifjpaoncjokaaGreatDoor
open Go.RowKit
set_option maxRecDepth 1000000
set_option linter.unusedVariables false
set_option linter.unusedSimpArgs false
set_option maxHeartbeats 1000000
/-- What hold asks of a message. -/
def holdB (l : List TV) (ent : CE → Bool) (x : TV) (m : CM) : Bool := riseM m.fs && (m.fs.all (typB8 l x.t.fs) && (singleB x.t.fs m.fs && m.us.all ent))
theorem cfEnt (args : Array Value) (W : World) : (callFunc 118 args).run Tryz.prog W = .ok (.enter 118 args) W := cf_enter Tryz.func118 (by kernel_rfl) (by kernel_rfl) args W
theorem holdM (w : World) (l : List TV) (ta : Option Addr) (tc : Nat) (h : TbR w (.slice ta l.length tc) l) (hg : goodB l = true) (x : TV) (hx : x ∈ l) (ho : ∀ o ∈ x.t.fs, o.lab = 4 → 0 ≤ o.one ∧ o.one < 128) (ent : CE → Bool) (Z : Nat → Prop) (hent : ∀ (W : World), Below w.heap.size w W → ∀ (cs : List Value) (y : CE), FmE W Z cs y → Calls Tryz.prog 118 #[.agg cs.toArray] W fun e w' => e = .returned (.bool (ent y)) ∧ Below W.heap.size W w') (d : Nat) (cs : List Value) (m : CM) (hm : MsgE w Z (d + 1) cs m) : Calls Tryz.prog 90 #[.agg #[.slice ta l.length tc], .agg (cTV x).toArray, .agg cs.toArray] w fun e w' => e = .returned (.bool (holdB l ent x m)) ∧ Below w.heap.size w w' := by
  obtain ⟨ka, kc, va, vc, rfl, g1, g2, l1, l2⟩ := msg_open hm
  have HRI := hid fun W (hW : Below w.heap.size w W) => doRiseM W Z d m.fs ka kc (g1.kept hW)
  have HTY := hid fun W (hW : Below w.heap.size w W) (p q : Nat) (hp : Blk W p 63 (cTV x).toArray) (hq : Blk W q 122 #[.slice ta l.length tc]) => everyF W Z d m.fs ka kc (g1.kept hW) 112 #[.pointer (some ⟨p, 0, none⟩), .pointer (some ⟨q, 0, none⟩)] cfTyp (typB8 l x.t.fs) (fun W' hW' cs f hf hm => typFn W' l ta tc (h.kept (below_trans hW hW')) hg x hx Z d cs f hm p q (hp.kept hW') (hq.kept hW'))
  have HSI := hid fun W (hW : Below w.heap.size w W) => areSingleM W x ((h.ty x hx).kept hW) (good_rise hg hx).1 (good_rise hg hx).2 ho Z d m.fs ka kc (g1.kept hW)
  have HEN := hid fun W (hW : Below w.heap.size w W) => everyE W Z m.us va vc (g2.kept hW) 118 #[] cfEnt ent (fun W' hW' cs y hy hm => hent W' (below_trans hW hW') cs y hm)
  have HX : Hid (holdB l ent x m = (riseM m.fs && (m.fs.all (typB8 l x.t.fs) && (singleB x.t.fs m.fs && m.us.all ent)))) := hid rfl
  obtain ⟨ta1, tc1, ta2, tc2, ta3, tc3, ta4, tc4, e1, e2, e3, e4⟩ := shT_of (h.ty x hx)
  have ecx : cTV x = [.string (strOfNums x.t.name), .bool x.t.enum, .slice ta1 x.t.fs.length tc1, .slice ta2 x.t.os.length tc2, .slice ta3 x.t.ss.length tc3, .slice ta4 x.t.rs.length tc4] := by unfold cTV; rw [e1, e2, e3, e4]
  rw [ecx] at HTY HSI ⊢
  clear h hg hm g1 g2 hent ho ecx e1 e2 e3 e4 hx
  generalize holdB l ent x m = res at *
  generalize riseM m.fs = s1 at *
  generalize m.fs.all (typB8 l x.t.fs) = s2 at *
  generalize singleB x.t.fs m.fs = s3 at *
  generalize m.us.all ent = s4 at *
  go_enter Tryz.func90, Tryz.ntmps90
  go_wp2_with fail
  refine (HRI.out _ (by exact blBy)).mono ?_
  rintro e w1 ⟨rfl, hb1⟩
  have Br : Hid (Blk w1 w.heap.size 122 #[.slice ta l.length tc]) := hid ((((Blk.new _ _ _).kept (below_alloc _)).kept (below_alloc _)).kept hb1)
  have Bx : Hid (Blk w1 (w.heap.size + 1) 63 #[.string (strOfNums x.t.name), .bool x.t.enum, .slice ta1 x.t.fs.length tc1, .slice ta2 x.t.os.length tc2, .slice ta3 x.t.ss.length tc3, .slice ta4 x.t.rs.length tc4]) := hid (((Blk.newAt (by simp)).kept (below_alloc _)).kept hb1)
  have Bm : Hid (Blk w1 (w.heap.size + 1 + 1) 29 #[.slice ka m.fs.length kc, .slice va m.us.length vc]) := hid ((Blk.newAt (by simp)).kept hb1)
  have hbz : Hid (Below w.heap.size w w1) := hid (bl_then (by exact blBy) hb1)
  clear hb1
  have xo := Bx.out.cellF
  have zo := Bx.out.lt
  have xf := Bm.out.cellF
  have zf := Bm.out.lt
  cases s1 with
  | false =>
    rw [Bool.false_and] at HX
    go_wp2
    go_ret
    exact ⟨ret_bool HX.out.symm, by have := hbz.out; exact blBy⟩
  | true =>
  rw [Bool.true_and] at HX
  go_wp2_with fail
  refine (HTY.out _ hbz.out _ _ Bx.out Br.out).mono ?_
  rintro e w2 ⟨rfl, hb2⟩
  replace Br := hid (Br.out.kept hb2)
  replace Bx := hid (Bx.out.kept hb2)
  replace Bm := hid (Bm.out.kept hb2)
  replace hbz : Hid (Below w.heap.size w w2) := hid (below_trans hbz.out hb2)
  clear hb2 xo zo xf zf
  have xo := Bx.out.cellF
  have zo := Bx.out.lt
  have xf := Bm.out.cellF
  have zf := Bm.out.lt
  cases s2 with
  | false =>
    rw [Bool.false_and] at HX
    go_wp2
    go_ret
    exact ⟨ret_bool HX.out.symm, by have := hbz.out; exact blBy⟩
  | true =>
  rw [Bool.true_and] at HX
  go_wp2_with fail
  refine (HSI.out _ hbz.out).mono ?_
  rintro e w3 ⟨rfl, hb3⟩
  replace Br := hid (Br.out.kept hb3)
  replace Bx := hid (Bx.out.kept hb3)
  replace Bm := hid (Bm.out.kept hb3)
  replace hbz : Hid (Below w.heap.size w w3) := hid (below_trans hbz.out hb3)
  clear hb3 xo zo xf zf
  have xo := Bx.out.cellF
  have zo := Bx.out.lt
  have xf := Bm.out.cellF
  have zf := Bm.out.lt
  cases s3 with
  | false =>
    rw [Bool.false_and] at HX
    go_wp2
    go_ret
    exact ⟨ret_bool HX.out.symm, by have := hbz.out; exact blBy⟩
  | true =>
  rw [Bool.true_and] at HX
  go_wp2_with fail
  refine (HEN.out _ hbz.out).mono ?_
  rintro e w4 ⟨rfl, hb4⟩
  replace Br := hid (Br.out.kept hb4)
  replace Bx := hid (Bx.out.kept hb4)
  replace Bm := hid (Bm.out.kept hb4)
  replace hbz : Hid (Below w.heap.size w w4) := hid (below_trans hbz.out hb4)
  clear hb4 xo zo xf zf
  go_wp2
  go_ret
  exact ⟨ret_bool HX.out.symm, by have := hbz.out; exact blBy⟩
end Go.Proofs.YtkifjpaoncjokaaGreatDoor
namespace Go.Proofs.YtkifjpaoncjokaaGreatDoor
open Go.RowKit
set_option maxRecDepth 1000000
set_option linter.unusedVariables false
set_option linter.unusedSimpArgs false
set_option maxHeartbeats 1000000
/-- Of each oneof there is a field: so there are no more than 128. -/
theorem good_ones {l : List TV} (hg : goodB l = true) {x : TV} (hx : x ∈ l) : ∀ o ∈ x.t.fs, o.lab = 4 → 0 ≤ o.one ∧ o.one < 128 := by
  intro o ho h4
  have h128 := (good_rise hg hx).2
  obtain ⟨k, hk, rfl⟩ := List.mem_iff_getElem.1 hx
  have h := good_at hg hk
  unfold stepB typB at h
  simp only [Bool.and_eq_true] at h
  have h2 := h.2.2.2
  split at h2
  · rw [Bool.and_eq_true, decide_eq_true_eq] at h2
    have h3 : l[k].t.fs.length = 0 := by omega
    rw [List.eq_nil_of_length_eq_zero h3] at ho
    exact absurd ho (by simp)
  · unfold msgB at h2
    simp only [Bool.and_eq_true] at h2
    have h3 := List.all_eq_true.1 h2.2.2.1 o ho
    unfold fldB at h3
    simp only [Bool.and_eq_true] at h3
    have h5 := h3.2.2.2.1
    unfold oneB at h5
    rw [if_pos h4, decide_eq_true_eq] at h5
    have h6 := mem_few h2.2.2.2.2.2.1
    omega
end Go.Proofs.YtkifjpaoncjokaaGreatDoor
