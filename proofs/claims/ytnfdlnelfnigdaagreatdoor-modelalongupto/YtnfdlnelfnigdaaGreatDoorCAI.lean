/-
  Copy: what the program answers, at every depth.
  Copy: what the program answers: every message in new memory.
  Those of a list that are so; whether all are so; the first one that is so.
  Get, Clear: what the program answers.
  Depth, Get: what the document answers.
  Get: what the document answers.
-/
import Derived.Test.YtnfdlnelfnigdaaGreatDoorCAH
import Derived.Laws.EntriesVeiled
import Derived.Test.YtnfdlnelfnigdaaGreatDoorCAB
import Derived.Test.YtnfdlnelfnigdaaGreatDoorCTX0
namespace Go.Proofs.YtnfdlnelfnigdaaGreatDoor
open Go.RowKit
set_option maxRecDepth 1000000
set_option linter.unusedVariables false
set_option linter.unusedSimpArgs false
set_option maxHeartbeats 2000000
theorem nothingT (w : World) (cs : List Value) (x : CF CM) (Z : Nat → Prop) (d : Nat) (h : FldE w Z (MsgE w Z d) cs x) : Calls Tryz.prog 101 #[.agg #[], .agg cs.toArray] w fun e w' => e = .returned (.agg #[]) ∧ Below w.heap.size w w' := by
  obtain ⟨ka, kc, va, vc, rfl, -⟩ := fld_open h
  clear h
  go_enter Tryz.func101, Tryz.ntmps101
  go_wp2
  exact bodyPost_ret (v := .agg #[]) (by simp [results, Tryz.results101, go_sem]) rfl ⟨rfl, by exact blBy⟩
theorem wholeT (w : World) (cs : List Value) (m : CM) (Z : Nat → Prop) (d : Nat) (h : MsgE w Z d cs m) : Calls Tryz.prog 100 #[.agg #[], .agg cs.toArray] w fun e w' => e = .returned (.agg cs.toArray) ∧ Below w.heap.size w w' := by
  obtain ⟨ka, kc, va, vc, rfl, -⟩ := msg_openD h
  clear h
  go_enter Tryz.func100, Tryz.ntmps100
  go_wp2
  exact bodyPost_ret (v := .agg #[.slice ka m.fs.length kc, .slice va m.us.length vc]) (by simp [results, Tryz.results100, go_sem]) rfl ⟨rfl, by exact blBy⟩
theorem newFieldT (d : Nat) (HC : CpAt d) (w : World) (Z : Nat → Prop) (cs : List Value) (x : CF CM) (h : FldE w Z (MsgE w Z d) cs x) (p4 p6 p7 : Nat) (hB : CpB w p4 p6 p7) : Calls Tryz.prog 129 #[.agg cs.toArray, .pointer (some ⟨p7, 0, none⟩), .pointer (some ⟨p4, 0, none⟩), .pointer (some ⟨p6, 0, none⟩)] w (NewE (FmF d) w x) := by
  have h0 := h
  obtain ⟨ka, kc, va, vc, rfl, g, q, -, -, hu⟩ := fld_open h
  have HV : Hid (∀ (W : World) (pi q8 : Nat), Below w.heap.size w W → CpB W pi p6 p7 → Blk W q8 102 #[.func (.func 130) #[] #[.pointer (some ⟨pi, 0, none⟩), .pointer (some ⟨p6, 0, none⟩), .pointer (some ⟨p7, 0, none⟩)]] → ∀ (xs : List (CV CM)) (a : Option Addr) (c : Nat), VlsR W Z d (.slice a xs.length c) xs → Calls Tryz.prog 64 #[.slice a xs.length c, .func (.func 131) #[] #[.pointer (some ⟨q8, 0, none⟩)]] W (NewL 3 (FmV d) W xs)) := hid fun W pi q8 hW hB2 hN xs a c hx => by
    have := turnedV W Z d d xs a c hx 131 #[.pointer (some ⟨q8, 0, none⟩)] cfV id (fun W' hW' cs m _ hm => newValT d HC W' Z cs m hm pi p6 p7 q8 (hB2.kept hW') (hN.kept hW'))
    rw [List.map_id] at this
    exact this
  have HNO := hid (fun W (hW : Below w.heap.size w W) => nothingT W _ x Z d (h0.kept hW))
  have HU := hid hu
  have G := hid g
  have Q := hid q
  have HBB := hid hB
  have xs6 := hB.s.cellF
  have zs6 := hB.s.lt
  have xb7 := hB.b.cellF
  have zb7 := hB.b.lt
  have zk4 := hB.k.lt
  clear h h0 hB g q hu HC
  go_enter Tryz.func129, Tryz.ntmps129
  go_wp2_with fail
  refine (HNO.out _ (by exact blBy)).mono ?_
  rintro e w1 ⟨rfl, hbx⟩
  have Bx : Blk w1 w.heap.size 29 #[.int .i64 x.num, .slice ka x.ks.length kc, .slice va x.vs.length vc] := ((Blk.new _ _ _).kept (below_alloc _)).kept hbx
  have Br : Blk w1 (w.heap.size + 1) 29 #[.int .i64 0, .slice none 0 0, .slice none 0 0] := (Blk.newAt (by simp)).kept hbx
  have hbz : Hid (Below w.heap.size w w1) := hid (bl_then (by exact blBy) hbx)
  have hs1 : w.heap.size + 2 ≤ w1.heap.size := by have := hbx.size; simpa using this
  clear hbx xs6 zs6 xb7 zb7 zk4 HNO
  go_upto_region 4 with fail
  have BB : CpB ((w1.alloc (.cells #[] 137)).alloc (.cells #[.func (.func 130) #[] #[.pointer (some ⟨w1.heap.size, 0, none⟩), .pointer (some ⟨p6, 0, none⟩), .pointer (some ⟨p7, 0, none⟩)]] 102)) w1.heap.size p6 p7 := ⟨(Blk.new _ _ _).kept (below_alloc _), ((HBB.out.kept hbz.out).s.kept (below_alloc _)).kept (below_alloc _), ((HBB.out.kept hbz.out).b.kept (below_alloc _)).kept (below_alloc _)⟩
  have BN : Blk ((w1.alloc (.cells #[] 137)).alloc (.cells #[.func (.func 130) #[] #[.pointer (some ⟨w1.heap.size, 0, none⟩), .pointer (some ⟨p6, 0, none⟩), .pointer (some ⟨p7, 0, none⟩)]] 102)) (w1.heap.size + 1) 102 #[.func (.func 130) #[] #[.pointer (some ⟨w1.heap.size, 0, none⟩), .pointer (some ⟨p6, 0, none⟩), .pointer (some ⟨p7, 0, none⟩)]] := Blk.newAt (by simp)
  replace Bx := (Bx.kept (below_alloc (.cells #[] 137))).kept (below_alloc (.cells #[.func (.func 130) #[] #[.pointer (some ⟨w1.heap.size, 0, none⟩), .pointer (some ⟨p6, 0, none⟩), .pointer (some ⟨p7, 0, none⟩)]] 102))
  replace Br := (Br.kept (below_alloc (.cells #[] 137))).kept (below_alloc (.cells #[.func (.func 130) #[] #[.pointer (some ⟨w1.heap.size, 0, none⟩), .pointer (some ⟨p6, 0, none⟩), .pointer (some ⟨p7, 0, none⟩)]] 102))
  have HB : Hid (Below w.heap.size w ((w1.alloc (.cells #[] 137)).alloc (.cells #[.func (.func 130) #[] #[.pointer (some ⟨w1.heap.size, 0, none⟩), .pointer (some ⟨p6, 0, none⟩), .pointer (some ⟨p7, 0, none⟩)]] 102))) := hid (by have := hbz.out; exact blBy)
  have HS : Hid (w.heap.size + 2 ≤ ((w1.alloc (.cells #[] 137)).alloc (.cells #[.func (.func 130) #[] #[.pointer (some ⟨w1.heap.size, 0, none⟩), .pointer (some ⟨p6, 0, none⟩), .pointer (some ⟨p7, 0, none⟩)]] 102)).heap.size) := hid (by simp; omega)
  generalize ((w1.alloc (.cells #[] 137)).alloc (.cells #[.func (.func 130) #[] #[.pointer (some ⟨w1.heap.size, 0, none⟩), .pointer (some ⟨p6, 0, none⟩), .pointer (some ⟨p7, 0, none⟩)]] 102)) = W at *
  have HT : Hid (∀ W', Below W.heap.size W W' → ∀ (xs : List (CV CM)) (a : Option Addr) (c : Nat), VlsR w Z d (.slice a xs.length c) xs → Calls Tryz.prog 64 #[.slice a xs.length c, .func (.func 131) #[] #[.pointer (some ⟨w1.heap.size + 1, 0, none⟩)]] W' (NewL 3 (FmV d) W' xs)) := hid fun W' hW' xs a c hx => HV.out W' w1.heap.size (w1.heap.size + 1) (below_trans HB.out hW') (BB.kept hW') (BN.kept hW') xs a c (hx.kept (below_trans HB.out hW'))
  have HG : Hid (Below W.heap.size W W) := hid (Below.refl _ _)
  have f0 : W.cell? ⟨w.heap.size, 0, none⟩ = some (.int .i64 x.num) := Bx.cell 0 _ rfl
  have f1 : W.cell? ⟨w.heap.size, 1, none⟩ = some (.slice ka x.ks.length kc) := Bx.cell 1 _ rfl
  have f2 : W.cell? ⟨w.heap.size, 2, none⟩ = some (.slice va x.vs.length vc) := Bx.cell 2 _ rfl
  have hp1 : w.heap.size ≠ w.heap.size + 1 := by omega
  have xr := Br.cellF
  have yr := Br.frz
  have zr := Br.lt
  clear Bx BB BN HBB HV hbz hs1
  generalize w1.heap.size + 1 = q8 at *
  go_region_held3 (fun W => W.cell? ⟨w.heap.size, 0, none⟩ = some (.int .i64 x.num) ∧ W.cell? ⟨w.heap.size, 1, none⟩ = some (.slice ka x.ks.length kc) ∧ W.cell? ⟨w.heap.size, 2, none⟩ = some (.slice va x.vs.length vc)) (first | exact ⟨f0, f1, f2⟩ | exact ⟨cs3 f0 hp1, cs3 f1 hp1, cs3 f2 hp1⟩) (first | (go_at_call_of 64 (Value.slice ka x.ks.length kc); refine (HT.out _ (by have := HG.out; exact blBy) x.ks ka kc G.out).mono ?_; rintro e w2 ⟨a1, c1, rfl, hn, hbx⟩; replace f0 := cell_below f0 (below_trans (by first | exact Below.refl _ _ | exact below_drew1 _ | exact below_drewN _ _) hbx); replace f1 := cell_below f1 (below_trans (by first | exact Below.refl _ _ | exact below_drew1 _ | exact below_drewN _ _) hbx); replace f2 := cell_below f2 (below_trans (by first | exact Below.refl _ _ | exact below_drew1 _ | exact below_drewN _ _) hbx); replace Br := Br.kept (below_trans (by first | exact Below.refl _ _ | exact below_drew1 _ | exact below_drewN _ _) hbx); replace xr := Br.cellF; replace yr := Br.frz; replace zr := Br.lt; replace HB := hid (below_trans HB.out (below_trans (by first | exact Below.refl _ _ | exact below_drew1 _ | exact below_drewN _ _) hbx)); replace HG := hid (below_trans HG.out (below_trans (by first | exact Below.refl _ _ | exact below_drew1 _ | exact below_drewN _ _) hbx)); have H1 : Hid (VlsR w2 (w.heap.size + 2 ≤ ·) d (.slice a1 x.ks.length c1) x.ks) := hid (VlsR.go hn (Keep.refl (fun _ => True) w2) (fun _ _ => trivial) (fun k hk => Nat.le_trans HS.out hk)); (try replace H2 := hid (VlsR.kept H2.out (below_trans (by first | exact Below.refl _ _ | exact below_drew1 _ | exact below_drewN _ _) hbx))); replace HS := hid (Nat.le_trans HS.out (Below.size (below_trans (by first | exact Below.refl _ _ | exact below_drew1 _ | exact below_drewN _ _) hbx))); clear hn hbx) | (go_at_call_of 64 (Value.slice va x.vs.length vc); refine (HT.out _ (by have := HG.out; exact blBy) x.vs va vc Q.out).mono ?_; rintro e w3 ⟨a2, c2, rfl, hn, hbx⟩; replace f0 := cell_below f0 (below_trans (by first | exact Below.refl _ _ | exact below_drew1 _ | exact below_drewN _ _) hbx); replace f1 := cell_below f1 (below_trans (by first | exact Below.refl _ _ | exact below_drew1 _ | exact below_drewN _ _) hbx); replace f2 := cell_below f2 (below_trans (by first | exact Below.refl _ _ | exact below_drew1 _ | exact below_drewN _ _) hbx); replace Br := Br.kept (below_trans (by first | exact Below.refl _ _ | exact below_drew1 _ | exact below_drewN _ _) hbx); replace xr := Br.cellF; replace yr := Br.frz; replace zr := Br.lt; replace HB := hid (below_trans HB.out (below_trans (by first | exact Below.refl _ _ | exact below_drew1 _ | exact below_drewN _ _) hbx)); replace HG := hid (below_trans HG.out (below_trans (by first | exact Below.refl _ _ | exact below_drew1 _ | exact below_drewN _ _) hbx)); have H2 : Hid (VlsR w3 (w.heap.size + 2 ≤ ·) d (.slice a2 x.vs.length c2) x.vs) := hid (VlsR.go hn (Keep.refl (fun _ => True) w3) (fun _ _ => trivial) (fun k hk => Nat.le_trans HS.out hk)); (try replace H1 := hid (VlsR.kept H1.out (below_trans (by first | exact Below.refl _ _ | exact below_drew1 _ | exact below_drewN _ _) hbx))); replace HS := hid (Nat.le_trans HS.out (Below.size (below_trans (by first | exact Below.refl _ _ | exact below_drew1 _ | exact below_drewN _ _) hbx))); clear hn hbx))
  all_goals go_wp2
  all_goals exact bodyPost_ret (v := .agg #[.int .i64 x.num, .slice a1 x.ks.length c1, .slice a2 x.vs.length c2]) (by simp [results, Tryz.results129, go_sem, xr, zr, yr]) rfl (NewE.mk [.int .i64 x.num, .slice a1 x.ks.length c1, .slice a2 x.vs.length c2] ⟨_, _, rfl, VlsR.go H1.out (f := (w.heap.size + 2 ≤ ·)) (by with_reducible repeat (first | exact Keep.refl _ _ | refine kpS ?_ (by first | (simp; done) | (simp; omega) | omega) | refine kpA ?_ _ | refine kpD ?_ | refine kpN ?_ _)) (fun _ h => h) (fun k hk => by omega), VlsR.go H2.out (f := (w.heap.size + 2 ≤ ·)) (by with_reducible repeat (first | exact Keep.refl _ _ | refine kpS ?_ (by first | (simp; done) | (simp; omega) | omega) | refine kpA ?_ _ | refine kpD ?_ | refine kpN ?_ _)) (fun _ h => h) (fun k hk => by omega), HU.out⟩ (by have := HB.out; exact blBy))
theorem rebuiltT : ∀ d, CpAt d
  | 0 => fun _ _ _ _ h => h.elim
  | d + 1 => fun w Z cs m h => by
    have HC := rebuiltT d
    have h0 := h
    obtain ⟨ka, kc, va, vc, rfl, g, q, -⟩ := msg_open h
    have HT : Hid (∀ (W : World) (p4 p6 p7 : Nat), Below w.heap.size w W → CpB W p4 p6 p7 → Calls Tryz.prog 65 #[.slice ka m.fs.length kc, .func (.func 129) #[] #[.pointer (some ⟨p7, 0, none⟩), .pointer (some ⟨p4, 0, none⟩), .pointer (some ⟨p6, 0, none⟩)]] W (NewL 3 (FmF d) W m.fs)) := hid fun W p4 p6 p7 hW hB => by
      have := turnedF W Z d d m.fs ka kc (g.kept hW) 129 #[.pointer (some ⟨p7, 0, none⟩), .pointer (some ⟨p4, 0, none⟩), .pointer (some ⟨p6, 0, none⟩)] cfF id (fun W' hW' cs x _ hx => newFieldT d HC W' Z cs x hx p4 p6 p7 (hB.kept hW'))
      rw [List.map_id] at this
      exact this
    have HE : Hid (∀ (W : World), Below w.heap.size w W → Calls Tryz.prog 66 #[.slice va m.us.length vc, .func (.func 67) #[] #[]] W (NewL 4 FmE W m.us)) := hid fun W hW => by
      have := turnedE W Z m.us va vc (q.kept hW) 67 #[] cfE id (fun W' hW' cs x _ hx => newEntryT W' Z cs x hx)
      rw [List.map_id] at this
      exact this
    have HW := hid (fun W (hW : Below w.heap.size w W) => wholeT W _ m Z (d + 1) (h0.kept hW))
    clear h h0 g q HC
    go_enter Tryz.func102, Tryz.ntmps102
    go_wp2_with fail
    refine (HW.out _ (by exact blBy)).mono ?_
    rintro e w1 ⟨rfl, hbx⟩
    have B4 : Blk w1 w.heap.size 137 #[] := (((((Blk.new _ _ _).kept (below_alloc _)).kept (below_alloc _)).kept (below_alloc _)).kept (below_alloc _)).kept hbx
    have B5 : Blk w1 (w.heap.size + 1) 35 #[.slice ka m.fs.length kc, .slice va m.us.length vc] := ((((Blk.newAt (by simp)).kept (below_alloc _)).kept (below_alloc _)).kept (below_alloc _)).kept hbx
    have B6 : Blk w1 (w.heap.size + 1 + 1) 138 #[.func (.func 100) #[] #[]] := (((Blk.newAt (by simp)).kept (below_alloc _)).kept (below_alloc _)).kept hbx
    have B7 : Blk w1 (w.heap.size + 1 + 1 + 1) 139 #[.func (.func 101) #[] #[]] := ((Blk.newAt (by simp)).kept (below_alloc _)).kept hbx
    have Br : Blk w1 (w.heap.size + 1 + 1 + 1 + 1) 35 #[.slice none 0 0, .slice none 0 0] := (Blk.newAt (by simp)).kept hbx
    have hbz : Hid (Below w.heap.size w w1) := hid (bl_then (by exact blBy) hbx)
    have hs1 : w.heap.size + 5 ≤ w1.heap.size := by have := hbx.size; simpa using this
    clear hbx HW
    have x5 := B5.cellF
    have y5 := B5.frz
    have z5 := B5.lt
    go_upto_region 3 with fail
    have BB : CpB ((w1.setCell ⟨w.heap.size + 1, 0, none⟩ (.slice ka m.fs.length kc)).setCell ⟨w.heap.size + 1, 1, none⟩ (.slice va m.us.length vc)) w.heap.size (w.heap.size + 1 + 1) (w.heap.size + 1 + 1 + 1) := ⟨(B4.other (by simp) _).other (by simp) _, (B6.other (by simp) _).other (by simp) _, (B7.other (by simp; omega) _).other (by simp; omega) _⟩
    replace B5 := (B5.set 0 (.slice ka m.fs.length kc)).set 1 (.slice va m.us.length vc)
    replace Br := (Br.other (a := ⟨w.heap.size + 1, 0, none⟩) (by simp; omega) (.slice ka m.fs.length kc)).other (a := ⟨w.heap.size + 1, 1, none⟩) (by simp; omega) (.slice va m.us.length vc)
    have HB : Hid (Below w.heap.size w ((w1.setCell ⟨w.heap.size + 1, 0, none⟩ (.slice ka m.fs.length kc)).setCell ⟨w.heap.size + 1, 1, none⟩ (.slice va m.us.length vc))) := hid (by have := hbz.out; exact blBy)
    have HS : Hid (w.heap.size + 5 ≤ ((w1.setCell ⟨w.heap.size + 1, 0, none⟩ (.slice ka m.fs.length kc)).setCell ⟨w.heap.size + 1, 1, none⟩ (.slice va m.us.length vc)).heap.size) := hid (by simpa using hs1)
    clear x5 y5 z5 B4 B6 B7 hs1 hbz
    generalize ((w1.setCell ⟨w.heap.size + 1, 0, none⟩ (.slice ka m.fs.length kc)).setCell ⟨w.heap.size + 1, 1, none⟩ (.slice va m.us.length vc)) = W at *
    have f0 : W.cell? ⟨w.heap.size + 1, 0, none⟩ = some (.slice ka m.fs.length kc) := B5.cell 0 _ (by simp)
    have f1 : W.cell? ⟨w.heap.size + 1, 1, none⟩ = some (.slice va m.us.length vc) := B5.cell 1 _ (by simp)
    have hp1 : w.heap.size + 1 ≠ w.heap.size + 1 + 1 + 1 + 1 := by omega
    have HBB := hid BB
    have xr := Br.cellF
    have yr := Br.frz
    have zr := Br.lt
    clear B5 BB
    go_region_held3 (fun W => W.cell? ⟨w.heap.size + 1, 0, none⟩ = some (.slice ka m.fs.length kc) ∧ W.cell? ⟨w.heap.size + 1, 1, none⟩ = some (.slice va m.us.length vc)) (first | exact ⟨f0, f1⟩ | exact ⟨cs2 f0 hp1, cs2 f1 hp1⟩) (first | (go_at_call 65; refine (HT.out _ _ _ _ (by have := HB.out; exact blBy) (HBB.out.kept (by first | exact Below.refl _ _ | exact below_drew1 _ | exact below_drewN _ _))).mono ?_; rintro e w2 ⟨a1, c1, rfl, hn, hbx⟩; replace f0 := cell_below f0 (below_trans (by first | exact Below.refl _ _ | exact below_drew1 _ | exact below_drewN _ _) hbx); replace f1 := cell_below f1 (below_trans (by first | exact Below.refl _ _ | exact below_drew1 _ | exact below_drewN _ _) hbx); replace Br := Br.kept (below_trans (by first | exact Below.refl _ _ | exact below_drew1 _ | exact below_drewN _ _) hbx); replace xr := Br.cellF; replace yr := Br.frz; replace zr := Br.lt; replace HB := hid (below_trans HB.out (below_trans (by first | exact Below.refl _ _ | exact below_drew1 _ | exact below_drewN _ _) hbx)); replace HBB := hid (HBB.out.kept (below_trans (by first | exact Below.refl _ _ | exact below_drew1 _ | exact below_drewN _ _) hbx)); have H1 : Hid (FlsR w2 (w.heap.size + 5 ≤ ·) d (.slice a1 m.fs.length c1) m.fs) := hid (FlsR.go hn (Keep.refl (fun _ => True) w2) (fun _ _ => trivial) (fun k hk => Nat.le_trans HS.out hk)); (try replace H2 := hid (EnsR.kept H2.out (below_trans (by first | exact Below.refl _ _ | exact below_drew1 _ | exact below_drewN _ _) hbx))); replace HS := hid (Nat.le_trans HS.out (Below.size (below_trans (by first | exact Below.refl _ _ | exact below_drew1 _ | exact below_drewN _ _) hbx))); clear hn hbx) | (go_at_call 66; refine (HE.out _ (by have := HB.out; exact blBy)).mono ?_; rintro e w3 ⟨a2, c2, rfl, hn, hbx⟩; replace f0 := cell_below f0 (below_trans (by first | exact Below.refl _ _ | exact below_drew1 _ | exact below_drewN _ _) hbx); replace f1 := cell_below f1 (below_trans (by first | exact Below.refl _ _ | exact below_drew1 _ | exact below_drewN _ _) hbx); replace Br := Br.kept (below_trans (by first | exact Below.refl _ _ | exact below_drew1 _ | exact below_drewN _ _) hbx); replace xr := Br.cellF; replace yr := Br.frz; replace zr := Br.lt; replace HB := hid (below_trans HB.out (below_trans (by first | exact Below.refl _ _ | exact below_drew1 _ | exact below_drewN _ _) hbx)); replace HBB := hid (HBB.out.kept (below_trans (by first | exact Below.refl _ _ | exact below_drew1 _ | exact below_drewN _ _) hbx)); have H2 : Hid (EnsR w3 (w.heap.size + 5 ≤ ·) (.slice a2 m.us.length c2) m.us) := hid (EnsR.go hn (Keep.refl (fun _ => True) w3) (fun _ _ => trivial) (fun k hk => Nat.le_trans HS.out hk)); (try replace H1 := hid (FlsR.kept H1.out (below_trans (by first | exact Below.refl _ _ | exact below_drew1 _ | exact below_drewN _ _) hbx))); replace HS := hid (Nat.le_trans HS.out (Below.size (below_trans (by first | exact Below.refl _ _ | exact below_drew1 _ | exact below_drewN _ _) hbx))); clear hn hbx))
    all_goals go_wp2
    all_goals exact bodyPost_ret (v := .agg #[.slice a1 m.fs.length c1, .slice a2 m.us.length c2]) (by simp [results, Tryz.results102, go_sem, xr, zr, yr]) rfl (NewE.mk [.slice a1 m.fs.length c1, .slice a2 m.us.length c2] ⟨_, _, rfl, FlsR.go H1.out (f := (w.heap.size + 5 ≤ ·)) (by with_reducible repeat (first | exact Keep.refl _ _ | refine kpS ?_ (by first | (simp; done) | (simp; omega) | omega) | refine kpA ?_ _ | refine kpD ?_ | refine kpN ?_ _)) (fun _ h => h) (fun k hk => by omega), EnsR.go H2.out (f := (w.heap.size + 5 ≤ ·)) (by with_reducible repeat (first | exact Keep.refl _ _ | refine kpS ?_ (by first | (simp; done) | (simp; omega) | omega) | refine kpA ?_ _ | refine kpD ?_ | refine kpN ?_ _)) (fun _ h => h) (fun k hk => by omega)⟩ (by have := HB.out; exact blBy))
theorem copyT (d : Nat) (w : World) (Z : Nat → Prop) (cs : List Value) (m : CM) (h : MsgE w Z d cs m) : Calls Tryz.prog 55 #[.agg cs.toArray] w (NewE (FmM d) w m) := by
  have HR := hid (fun W (hW : Below w.heap.size w W) => rebuiltT d W Z cs m (h.kept hW))
  obtain ⟨ka, kc, va, vc, rfl, -⟩ := msg_openD h
  clear h
  go_enter Tryz.func55, Tryz.ntmps55
  go_wp2_with fail
  refine (HR.out _ (by exact blBy)).mono ?_
  rintro e w1 ⟨ds, rfl, hn, hbx⟩
  have Br : Blk w1 (w.heap.size + 1) 35 #[.slice none 0 0, .slice none 0 0] := (Blk.newAt (by simp)).kept hbx
  have HN : Hid (MsgE w1 (w.heap.size + 2 ≤ ·) d ds m) := hid (MsgE.go (Keep.refl (fun _ => True) w1) (fun _ _ => trivial) (fun k hk => by simpa using hk) d _ _ hn)
  have hbz : Hid (Below w.heap.size w w1) := hid (bl_then (by exact blBy) hbx)
  clear hbx hn HR
  obtain ⟨fa, fc, ua, uc, rfl, -⟩ := msg_openD HN.out
  have xr := Br.cellF
  have yr := Br.frz
  have zr := Br.lt
  go_wp2
  exact bodyPost_ret (v := .agg #[.slice fa m.fs.length fc, .slice ua m.us.length uc]) (by simp [results, Tryz.results55, go_sem, xr, zr, yr]) rfl (NewE.mk [.slice fa m.fs.length fc, .slice ua m.us.length uc] (MsgE.go (f := (w.heap.size + 2 ≤ ·)) (by with_reducible repeat (first | exact Keep.refl _ _ | refine kpS ?_ (by first | (simp; done) | (simp; omega) | omega) | refine kpA ?_ _ | refine kpD ?_ | refine kpN ?_ _)) (fun _ h => h) (fun k hk => by omega) d _ _ HN.out) (by have := hbz.out; exact blBy))
set_option maxHeartbeats 1000000
/-- Old memory, but for v's own block. -/
def ZofA (w : World) (Y : Nat → Prop) (v : Value) (b : Nat) : Prop := Y b ∧ b < w.heap.size ∧ v.ownBlock ≠ some b
/-- A row of one's own, each struct as E says, in other memory. -/
def OwnA {α : Type} (w : World) (base : Nat) (Y : Nat → Prop) (t : TypeId) (k : Nat) (E : World → (Nat → Prop) → List Value → α → Prop) (v : Value) (xs : List α) : Prop :=
  ∃ ts : List (Tup k), w.ownsRow base t k v xs.length (ts.flatMap Subtype.val) ∧ ts.length = xs.length ∧ ∀ (i : Nat) (t : Tup k) (x : α), ts[i]? = some t → xs[i]? = some x → E w (ZofA w Y v) t.1 x
theorem OwnA.nil {α : Type} (w : World) (base : Nat) (Y : Nat → Prop) (t : TypeId) (k : Nat) (E : World → (Nat → Prop) → List Value → α → Prop) : OwnA w base Y t k E (.slice none 0 0) [] := ⟨[], World.ownsRow_nil _ _ _ _, rfl, fun i t x ht => by simp at ht⟩
theorem OwnA.own {α : Type} {w : World} {base : Nat} {Y : Nat → Prop} {t : TypeId} {k : Nat} {E : World → (Nat → Prop) → List Value → α → Prop} {v : Value} {xs : List α} (h : OwnA w base Y t k E v xs) {b : Nat} (hb : v.ownBlock = some b) : base ≤ b ∧ b < w.heap.size := by
  obtain ⟨ts, h1, _⟩ := h
  have := own_type h1 hb
  exact ⟨this.1, this.2.1⟩
theorem OwnA.kept {α : Type} {w w' : World} {base : Nat} {Y : Nat → Prop} {t : TypeId} {k : Nat} {E : World → (Nat → Prop) → List Value → α → Prop} (F : Fam k E) {v : Value} {xs : List α} (h : OwnA w base Y t k E v xs) (hb : Below w.heap.size w w') : OwnA w' base Y t k E v xs := by
  obtain ⟨ts, h1, h2, h3⟩ := h
  exact ⟨ts, own_kept h1 hb, h2, fun i t x ht hx => F.go (h3 i t x ht hx) (keepT hb) (fun _ _ => trivial) (fun b hz => ⟨hz.1, Nat.lt_of_lt_of_le hz.2.1 hb.size, hz.2.2⟩)⟩
theorem OwnA.row {α : Type} {w : World} {base : Nat} {Y : Nat → Prop} {t : TypeId} {k : Nat} {E : World → (Nat → Prop) → List Value → α → Prop} (F : Fam k E) {v : Value} {xs : List α} (h : OwnA w base Y t k E v xs) (hn : xs.length ≤ 4000000) : RowM w (fun b => Y b ∨ base ≤ b) k (E w (fun b => Y b ∨ base ≤ b)) v xs := by
  obtain ⟨ts, h1, h2, h3⟩ := h
  exact ⟨ts, own_row h1 (fun b hb => Or.inr (own_type h1 hb).1), h2, hn, fun i t x ht hx => F.go (h3 i t x ht hx) (Keep.refl (fun _ => True) w) (fun _ _ => trivial) (fun b hz => Or.inl hz.1)⟩
/-- One struct more. -/
theorem OwnA.push {α : Type} {k : Nat} {E : World → (Nat → Prop) → List Value → α → Prop} (F : Fam k E) (t ts : TypeId) (bytes : Nat) (z : Value) (hts : Tryz.prog.underlying ts = some (.slice t)) (hinfo : (Tryz.prog.info? t).map (fun i => (i.zero, i.size, i.bytes)) = some (some z, k, bytes)) (hzs : z.cells.size = k) (h0 : 0 < k) (hby : bytes ≤ 400)
    {base : Nat} {Y : Nat → Prop} {v : Value} {xs : List α} {w : World} {cs : List Value} {x : α} (h : OwnA w base Y t k E v xs) (hx : E w (ZofA w Y v) cs x) (hb : base ≤ w.heap.size) (hn : xs.length ≤ 4000000) :
    ∃ a c w', Hid ((Builtin.append_ #[ts, ts] ts #[v, .slice (some ⟨w.heap.size, 0, none⟩) 1 1]).run Tryz.prog (w.alloc (.cells cs.toArray t)) = .ok (.slice a (xs.length + 1) c) w') ∧ Hid (OwnA w' base Y t k E (.slice a (xs.length + 1) c) (xs ++ [x])) ∧ Hid (Grow w w' v (.slice a (xs.length + 1) c)) := by
  obtain ⟨us, h1, h2, h3⟩ := h
  obtain ⟨v', w', r1, r2, r3⟩ := append_st t ts k bytes z hts hinfo hzs h0 hby base v xs.length (us.flatMap Subtype.val) w cs.toArray (by simp [F.len hx]) (by simpa using F.one hx) h1 hb hn
  obtain ⟨a, c, rfl⟩ := own_shape r2
  refine ⟨a, c, w', hid r1, hid ⟨us ++ [⟨cs, F.len hx⟩], ?_, by simp [h2], ?_⟩, hid r3⟩
  · rw [List.length_append, List.flatMap_append]
    simpa using r2
  · have hz : ∀ b, ZofA w Y v b → ZofA w' Y (.slice a (xs.length + 1) c) b := fun b hzb => by
      refine ⟨hzb.1, Nat.lt_of_lt_of_le hzb.2.1 r3.size, ?_⟩
      intro e
      rcases r3.own with q | q
      · rw [q] at e; exact hzb.2.2 e
      · have := q b e; have := hzb.2.1; omega
    have hk : Keep (fun b => v.ownBlock ≠ some b) w w' := Keep.ofGrow r3 (fun _ hk => hk)
    intro i u y hu hy
    by_cases hi : i < us.length
    · rw [List.getElem?_append_left hi] at hu
      rw [List.getElem?_append_left (by omega)] at hy
      exact F.go (h3 i u y hu hy) hk (fun b hz => hz.2.2) hz
    · have ei : i = us.length := by
        have := (List.getElem?_eq_some_iff.1 hu).1
        simp at this
        omega
      subst ei
      rw [List.getElem?_append_right (Nat.le_refl _), Nat.sub_self] at hu
      rw [h2, List.getElem?_append_right (Nat.le_refl _), Nat.sub_self] at hy
      simp at hu hy
      subst hu hy
      exact F.go hx hk (fun b hz => hz.2.2) hz
theorem OwnA.bel {α : Type} {w w' : World} {base : Nat} {Y : Nat → Prop} {t : TypeId} {k : Nat} {E : World → (Nat → Prop) → List Value → α → Prop} {v v' : Value} {xs : List α} (h : OwnA w base Y t k E v xs) (g : Grow w w' v v') {B : Nat} (hB : B ≤ base) (hs : B ≤ w.heap.size) : Below B w w' := g.below hs (fun b hb => Nat.le_trans hB (h.own hb).1)
theorem zofA_old {α : Type} {w w1 w2 : World} {Z : Nat → Prop} {t : TypeId} {k : Nat} {E : World → (Nat → Prop) → List Value → α → Prop} (F : Fam k E) {v : Value} {xs : List α} (h : OwnA w1 w.heap.size Z t k E v xs) {cs : List Value} {x : α} (hx : E w Z cs x) (hb : Below w.heap.size w w2) : E w2 (ZofA w2 Z v) cs x :=
  F.go (F.old hx) (keepT hb) (fun _ _ => trivial) (fun b hz => ⟨hz.1, Nat.lt_of_lt_of_le hz.2 hb.size, fun e => by have := (h.own e).1; have := hz.2; omega⟩)
theorem fl_le {α : Type} {xs : List α} {P : α → Bool} (h : xs.length ≤ 4000000) : (xs.filter P).length ≤ 4000000 := Nat.le_trans (List.length_filter_le _ _) h
theorem fl_len {α : Type} {xs : List α} {P : α → Bool} (h : xs.length ≤ 4000000) (j : Nat) : ((xs.take j).filter P).length ≤ 4000000 := Nat.le_trans (List.length_filter_le _ _) (by rw [List.length_take]; omega)
theorem RowM.el {α : Type} {w : World} {Z : Nat → Prop} {k : Nat} {E : List Value → α → Prop} {v : Value} {xs : List α} (h : RowM w Z k E v xs) (hk : 0 < k) {i : Nat} (hi : i < xs.length) {cs : List Value} (hl : cs.length = k) {a : Option Addr} {n c b o : Nat} (ev : v = .slice a n c) (ea : a = some ⟨b, o, none⟩) (hc : ∀ j u, cs[j]? = some u → w.cell? ⟨b, o + i * k + j, none⟩ = some u) : E cs xs[i] := by
  subst ev
  obtain ⟨b', o', cs', e, -, -, hl', he, hc'⟩ := RowM.at h hk hi
  rw [ea] at e
  cases e
  have : cs = cs' := by
    apply List.ext_getElem?
    intro j
    by_cases hj : j < k
    · have e1 := hc j _ (List.getElem?_eq_getElem (show j < cs.length by omega))
      have e2 := hc' j _ (List.getElem?_eq_getElem (show j < cs'.length by omega))
      rw [e1] at e2
      rw [List.getElem?_eq_getElem (show j < cs.length by omega), List.getElem?_eq_getElem (show j < cs'.length by omega)]
      exact e2
    · rw [List.getElem?_eq_none (by omega), List.getElem?_eq_none (by omega)]
  rw [this]
  exact he
theorem chosenF (w : World) (Z : Nat → Prop) (d : Nat) (xs : List (CF CM)) (a : Option Addr) (c : Nat) (h : FlsR w Z d (.slice a xs.length c) xs) (fn : FuncId) (caps : Array Value) (hcf : ∀ (args : Array Value) (W : World), (callFunc fn args).run Tryz.prog W = .ok (.enter fn args) W) (P : CF CM → Bool)
    (hf : ∀ (W : World), Below w.heap.size w W → ∀ (cs : List Value) (x : CF CM), x ∈ xs → FmF d W Z cs x → Calls Tryz.prog fn (#[.agg cs.toArray] ++ caps) W fun e w' => e = .returned (.bool (P x)) ∧ Below W.heap.size W w') : Calls Tryz.prog 72 #[.slice a xs.length c, .func (.func fn) #[] caps] w fun e w' => ∃ a' c', e = .returned (.slice a' (xs.filter P).length c') ∧ RowM w' (fun b => Z b ∨ w.heap.size ≤ b) 3 (FmF d w' (fun b => Z b ∨ w.heap.size ≤ b)) (.slice a' (xs.filter P).length c') (xs.filter P) ∧ Below w.heap.size w w' := by
  obtain ⟨_, _, e1, l1⟩ := RowM.sl h
  clear e1
  have m1 : (xs.length : Int) ≤ 9223372036854775807 := by omega
  have H1 := hid h
  have HF := hid hf
  clear h hf
  go_enter Tryz.func72, Tryz.ntmps72
  go_wp2
  go_loopw [5, 10] (fun s5 s10 wr => ∃ (j n : Nat) (oa : Option Addr) (oc : Nat), s5 = .slice oa n oc ∧ s10 = .int .i64 j ∧ j ≤ xs.length ∧ Hid (((xs.take j).filter P).length = n) ∧ Hid (OwnA wr w.heap.size Z 29 3 (FmF d) (.slice oa n oc) ((xs.take j).filter P)) ∧ Hid (Below w.heap.size w wr)) (fun s5 s10 wr => xs.length - numAt wr s10)
  case atStart => exact ⟨0, 0, none, 0, rfl, rfl, by omega, hid rfl, hid (OwnA.nil _ _ _ _ _ _), hid (Below.refl _ _)⟩
  case round =>
    obtain ⟨j, n, oa, oc, rfl, rfl, hj, HLN, HO, hb⟩ := hrel
    by_cases hlt : j < xs.length
    · have k2 : (j : Int) < (xs.length : Int) := by omega
      obtain ⟨b1, o1, ka1, kc1, va1, vc1, rfl, -, hb1, c0, c1, c2, he⟩ := fls_at H1.out hlt
      have HE := hid he
      have HTK : Hid ((xs.take (j + 1)).filter P = (xs.take j).filter P ++ (if P xs[j] = true then [xs[j]] else [])) := hid (by rw [List.take_succ_eq_append_getElem hlt, List.filter_append]; simp only [List.filter_cons, List.filter_nil])
      have HME := hid (List.getElem_mem hlt)
      have HLB : Hid (n ≤ 4000000) := hid (by rw [← HLN.out]; exact fl_len l1 j)
      replace c0 := cell_below c0 hb.out
      replace c1 := cell_below c1 hb.out
      replace c2 := cell_below c2 hb.out
      replace hb1 : b1 < wr.heap.size := World.block_lt_of_cell? _ _ c0
      clear he
      generalize xs[j] = x at *
      go_wp2_with fail
      refine (HF.out _ (by have := hb.out; exact blBy) [.int .i64 x.num, .slice ka1 x.ks.length kc1, .slice va1 x.vs.length vc1] x HME.out (Fam.go (famF d) HE.out (keepT (by have := hb.out; exact blBy)) (fun _ _ => trivial) (fun _ h => h))).mono ?_
      rintro e w1 ⟨rfl, hbx⟩
      have Bx : Blk w1 wr.heap.size 29 #[.int .i64 x.num, .slice ka1 x.ks.length kc1, .slice va1 x.vs.length vc1] := (Blk.new _ _ _).kept hbx
      have HO1 := hid (HO.out.kept (famF d) (below_trans (below_alloc _) hbx))
      have hbw : Hid (Below w.heap.size w w1) := hid (bl_then (by have := hb.out; exact blBy) hbx)
      clear hbx HO c0 c1 c2
      cases hq : P x with
      | false =>
        rw [hq, if_neg (by simp), List.append_nil] at HTK
        go_wp2
        exact ⟨⟨j + 1, n, oa, oc, rfl, by simp, by omega, hid (by rw [HTK.out]; exact HLN.out), hid (by rw [HTK.out]; exact HO1.out), hbw⟩, by simp [numAt]; omega⟩
      | true =>
        rw [hq, if_pos rfl] at HTK
        have HZ : Hid (FmF d w1 (ZofA w1 Z (.slice oa n oc)) [.int .i64 x.num, .slice ka1 x.ks.length kc1, .slice va1 x.vs.length vc1] x) := hid (zofA_old (famF d) HO1.out HE.out hbw.out)
        obtain ⟨la, lc, x1, HRUN, HO2, HG⟩ := OwnA.push (famF d) 29 32 56 (.agg #[.int .i64 0, .slice none 0 0, .slice none 0 0]) Tryz.underlying32 Tryz.infoF rfl (by decide) (by decide) HO1.out HZ.out hbw.out.size (by rw [HLN.out]; exact HLB.out)
        rw [HLN.out] at HRUN HO2 HG
        have hb2 : Hid (Below w.heap.size w x1) := hid (hbw.out.trans (HO1.out.bel HG.out (Nat.le_refl _) hbw.out.size))
        have xx := Bx.cellF
        have zx := Bx.lt
        go_wp2_with (first | (at_builtin; refine wpList_append_ran rfl _ _ 32 32 rfl rfl _ _ (.slice la (n + 1) lc) x1 rfl rfl HRUN.out ?_))
        exact ⟨⟨j + 1, n + 1, la, lc, rfl, by simp, by omega, hid (by rw [HTK.out, List.length_append, HLN.out]; rfl), hid (by rw [HTK.out]; exact HO2.out), hb2⟩, by simp [numAt]; omega⟩
    · have k2 : ¬ (j : Int) < (xs.length : Int) := by omega
      have e1 : xs.take j = xs := List.take_of_length_le (by omega)
      rw [e1] at HO HLN
      have HRW := hid (HO.out.row (famF d) (fl_le l1))
      rw [← HLN.out] at HRW ⊢
      clear e1 HLN HO
      go_wp2
      go_ret
      exact ⟨oa, oc, rfl, HRW.out, hb.out⟩
theorem chosenE (w : World) (Z : Nat → Prop) (xs : List (CE)) (a : Option Addr) (c : Nat) (h : EnsR w Z (.slice a xs.length c) xs) (fn : FuncId) (caps : Array Value) (hcf : ∀ (args : Array Value) (W : World), (callFunc fn args).run Tryz.prog W = .ok (.enter fn args) W) (P : CE → Bool)
    (hf : ∀ (W : World), Below w.heap.size w W → ∀ (cs : List Value) (x : CE), x ∈ xs → FmE W Z cs x → Calls Tryz.prog fn (#[.agg cs.toArray] ++ caps) W fun e w' => e = .returned (.bool (P x)) ∧ Below W.heap.size W w') : Calls Tryz.prog 73 #[.slice a xs.length c, .func (.func fn) #[] caps] w fun e w' => ∃ a' c', e = .returned (.slice a' (xs.filter P).length c') ∧ RowM w' (fun b => Z b ∨ w.heap.size ≤ b) 4 (FmE w' (fun b => Z b ∨ w.heap.size ≤ b)) (.slice a' (xs.filter P).length c') (xs.filter P) ∧ Below w.heap.size w w' := by
  obtain ⟨_, _, e1, l1⟩ := RowM.sl h
  clear e1
  have m1 : (xs.length : Int) ≤ 9223372036854775807 := by omega
  have H1 := hid h
  have HF := hid hf
  clear h hf
  go_enter Tryz.func73, Tryz.ntmps73
  go_wp2
  go_loopw [5, 10] (fun s5 s10 wr => ∃ (j n : Nat) (oa : Option Addr) (oc : Nat), s5 = .slice oa n oc ∧ s10 = .int .i64 j ∧ j ≤ xs.length ∧ Hid (((xs.take j).filter P).length = n) ∧ Hid (OwnA wr w.heap.size Z 40 4 (FmE) (.slice oa n oc) ((xs.take j).filter P)) ∧ Hid (Below w.heap.size w wr)) (fun s5 s10 wr => xs.length - numAt wr s10)
  case atStart => exact ⟨0, 0, none, 0, rfl, rfl, by omega, hid rfl, hid (OwnA.nil _ _ _ _ _ _), hid (Below.refl _ _)⟩
  case round =>
    obtain ⟨j, n, oa, oc, rfl, rfl, hj, HLN, HO, hb⟩ := hrel
    by_cases hlt : j < xs.length
    · have k2 : (j : Int) < (xs.length : Int) := by omega
      obtain ⟨b1, o1, ka1, kc1, rfl, -, hb1, c0, c1, c2, c3, he⟩ := ens_at H1.out hlt
      have HE := hid he
      have HTK : Hid ((xs.take (j + 1)).filter P = (xs.take j).filter P ++ (if P xs[j] = true then [xs[j]] else [])) := hid (by rw [List.take_succ_eq_append_getElem hlt, List.filter_append]; simp only [List.filter_cons, List.filter_nil])
      have HME := hid (List.getElem_mem hlt)
      have HLB : Hid (n ≤ 4000000) := hid (by rw [← HLN.out]; exact fl_len l1 j)
      replace c0 := cell_below c0 hb.out
      replace c1 := cell_below c1 hb.out
      replace c2 := cell_below c2 hb.out
      replace c3 := cell_below c3 hb.out
      replace hb1 : b1 < wr.heap.size := World.block_lt_of_cell? _ _ c0
      clear he
      generalize xs[j] = x at *
      go_wp2_with fail
      refine (HF.out _ (by have := hb.out; exact blBy) [.int .i64 x.num, .int .i64 x.kind, .int .u64 x.n, .slice ka1 x.b.length kc1] x HME.out (Fam.go (famE) HE.out (keepT (by have := hb.out; exact blBy)) (fun _ _ => trivial) (fun _ h => h))).mono ?_
      rintro e w1 ⟨rfl, hbx⟩
      have Bx : Blk w1 wr.heap.size 40 #[.int .i64 x.num, .int .i64 x.kind, .int .u64 x.n, .slice ka1 x.b.length kc1] := (Blk.new _ _ _).kept hbx
      have HO1 := hid (HO.out.kept (famE) (below_trans (below_alloc _) hbx))
      have hbw : Hid (Below w.heap.size w w1) := hid (bl_then (by have := hb.out; exact blBy) hbx)
      clear hbx HO c0 c1 c2 c3
      cases hq : P x with
      | false =>
        rw [hq, if_neg (by simp), List.append_nil] at HTK
        go_wp2
        exact ⟨⟨j + 1, n, oa, oc, rfl, by simp, by omega, hid (by rw [HTK.out]; exact HLN.out), hid (by rw [HTK.out]; exact HO1.out), hbw⟩, by simp [numAt]; omega⟩
      | true =>
        rw [hq, if_pos rfl] at HTK
        have HZ : Hid (FmE w1 (ZofA w1 Z (.slice oa n oc)) [.int .i64 x.num, .int .i64 x.kind, .int .u64 x.n, .slice ka1 x.b.length kc1] x) := hid (zofA_old (famE) HO1.out HE.out hbw.out)
        obtain ⟨la, lc, x1, HRUN, HO2, HG⟩ := OwnA.push (famE) 40 33 48 (.agg #[.int .i64 0, .int .i64 0, .int .u64 0, .slice none 0 0]) Tryz.underlying33 Tryz.infoE rfl (by decide) (by decide) HO1.out HZ.out hbw.out.size (by rw [HLN.out]; exact HLB.out)
        rw [HLN.out] at HRUN HO2 HG
        have hb2 : Hid (Below w.heap.size w x1) := hid (hbw.out.trans (HO1.out.bel HG.out (Nat.le_refl _) hbw.out.size))
        have xx := Bx.cellF
        have zx := Bx.lt
        go_wp2_with (first | (at_builtin; refine wpList_append_ran rfl _ _ 33 33 rfl rfl _ _ (.slice la (n + 1) lc) x1 rfl rfl HRUN.out ?_))
        exact ⟨⟨j + 1, n + 1, la, lc, rfl, by simp, by omega, hid (by rw [HTK.out, List.length_append, HLN.out]; rfl), hid (by rw [HTK.out]; exact HO2.out), hb2⟩, by simp [numAt]; omega⟩
    · have k2 : ¬ (j : Int) < (xs.length : Int) := by omega
      have e1 : xs.take j = xs := List.take_of_length_le (by omega)
      rw [e1] at HO HLN
      have HRW := hid (HO.out.row (famE) (fl_le l1))
      rw [← HLN.out] at HRW ⊢
      clear e1 HLN HO
      go_wp2
      go_ret
      exact ⟨oa, oc, rfl, HRW.out, hb.out⟩
theorem everyF (w : World) (Z : Nat → Prop) (d : Nat) (xs : List (CF CM)) (a : Option Addr) (c : Nat) (h : FlsR w Z d (.slice a xs.length c) xs) (fn : FuncId) (caps : Array Value) (hcf : ∀ (args : Array Value) (W : World), (callFunc fn args).run Tryz.prog W = .ok (.enter fn args) W) (P : CF CM → Bool)
    (hf : ∀ (W : World), Below w.heap.size w W → ∀ (cs : List Value) (x : CF CM), x ∈ xs → FmF d W Z cs x → Calls Tryz.prog fn (#[.agg cs.toArray] ++ caps) W fun e w' => e = .returned (.bool (P x)) ∧ Below W.heap.size W w') : Calls Tryz.prog 114 #[.slice a xs.length c, .func (.func fn) #[] caps] w fun e w' => e = .returned (.bool (xs.all P)) ∧ Below w.heap.size w w' := by
  obtain ⟨_, _, e1, l1⟩ := RowM.sl h
  clear e1
  have m1 : (xs.length : Int) ≤ 9223372036854775807 := by omega
  have H1 := hid h
  have HF := hid hf
  clear h hf
  go_enter Tryz.func114, Tryz.ntmps114
  go_wp2
  go_loopw [9] (fun s9 wr => ∃ j : Nat, s9 = .int .i64 j ∧ j ≤ xs.length ∧ Hid (xs.all P = (xs.drop j).all P) ∧ Hid (Below w.heap.size w wr)) (fun s9 wr => xs.length - numAt wr s9)
  case atStart => exact ⟨0, rfl, by omega, hid rfl, hid (Below.refl _ _)⟩
  case round =>
    obtain ⟨j, rfl, hj, HA, hb⟩ := hrel
    by_cases hlt : j < xs.length
    · have k2 : (j : Int) < (xs.length : Int) := by omega
      obtain ⟨b1, o1, ka1, kc1, va1, vc1, rfl, -, hb1, c0, c1, c2, he⟩ := fls_at (H1.out.kept hb.out) hlt
      have HE := hid he
      have HD : Hid ((xs.drop j).all P = (P xs[j] && (xs.drop (j + 1)).all P)) := hid (by rw [List.drop_eq_getElem_cons hlt, List.all_cons])
      have HME := hid (List.getElem_mem hlt)
      clear he
      generalize xs[j] = x at *
      go_wp2_with fail
      refine (HF.out _ (by have := hb.out; exact blBy) [.int .i64 x.num, .slice ka1 x.ks.length kc1, .slice va1 x.vs.length vc1] x HME.out (Fam.go (famF d) HE.out (keepT (below_alloc _)) (fun _ _ => trivial) (fun _ h => h))).mono ?_
      rintro e w1 ⟨rfl, hbx⟩
      have hbw : Hid (Below w.heap.size w w1) := hid (bl_then (by have := hb.out; exact blBy) hbx)
      clear hbx c0 c1 c2
      cases hq : P x with
      | false =>
        have HX : Hid (xs.all P = false) := hid (by rw [HA.out, HD.out, hq]; rfl)
        go_wp2
        go_ret
        exact ⟨ret_bool HX.out.symm, hbw.out⟩
      | true =>
        have HX : Hid (xs.all P = (xs.drop (j + 1)).all P) := hid (by rw [HA.out, HD.out, hq]; rfl)
        go_wp2
        exact ⟨⟨j + 1, by simp, by omega, HX, hbw⟩, by simp [numAt]; omega⟩
    · have k2 : ¬ (j : Int) < (xs.length : Int) := by omega
      have HX : Hid (xs.all P = true) := hid (by rw [HA.out, List.drop_of_length_le (by omega)]; rfl)
      go_wp2
      go_ret
      exact ⟨ret_bool HX.out.symm, hb.out⟩
theorem everyE (w : World) (Z : Nat → Prop) (xs : List (CE)) (a : Option Addr) (c : Nat) (h : EnsR w Z (.slice a xs.length c) xs) (fn : FuncId) (caps : Array Value) (hcf : ∀ (args : Array Value) (W : World), (callFunc fn args).run Tryz.prog W = .ok (.enter fn args) W) (P : CE → Bool)
    (hf : ∀ (W : World), Below w.heap.size w W → ∀ (cs : List Value) (x : CE), x ∈ xs → FmE W Z cs x → Calls Tryz.prog fn (#[.agg cs.toArray] ++ caps) W fun e w' => e = .returned (.bool (P x)) ∧ Below W.heap.size W w') : Calls Tryz.prog 116 #[.slice a xs.length c, .func (.func fn) #[] caps] w fun e w' => e = .returned (.bool (xs.all P)) ∧ Below w.heap.size w w' := by
  obtain ⟨_, _, e1, l1⟩ := RowM.sl h
  clear e1
  have m1 : (xs.length : Int) ≤ 9223372036854775807 := by omega
  have H1 := hid h
  have HF := hid hf
  clear h hf
  go_enter Tryz.func116, Tryz.ntmps116
  go_wp2
  go_loopw [9] (fun s9 wr => ∃ j : Nat, s9 = .int .i64 j ∧ j ≤ xs.length ∧ Hid (xs.all P = (xs.drop j).all P) ∧ Hid (Below w.heap.size w wr)) (fun s9 wr => xs.length - numAt wr s9)
  case atStart => exact ⟨0, rfl, by omega, hid rfl, hid (Below.refl _ _)⟩
  case round =>
    obtain ⟨j, rfl, hj, HA, hb⟩ := hrel
    by_cases hlt : j < xs.length
    · have k2 : (j : Int) < (xs.length : Int) := by omega
      obtain ⟨b1, o1, ka1, kc1, rfl, -, hb1, c0, c1, c2, c3, he⟩ := ens_at (H1.out.kept hb.out) hlt
      have HE := hid he
      have HD : Hid ((xs.drop j).all P = (P xs[j] && (xs.drop (j + 1)).all P)) := hid (by rw [List.drop_eq_getElem_cons hlt, List.all_cons])
      have HME := hid (List.getElem_mem hlt)
      clear he
      generalize xs[j] = x at *
      go_wp2_with fail
      refine (HF.out _ (by have := hb.out; exact blBy) [.int .i64 x.num, .int .i64 x.kind, .int .u64 x.n, .slice ka1 x.b.length kc1] x HME.out (Fam.go (famE) HE.out (keepT (below_alloc _)) (fun _ _ => trivial) (fun _ h => h))).mono ?_
      rintro e w1 ⟨rfl, hbx⟩
      have hbw : Hid (Below w.heap.size w w1) := hid (bl_then (by have := hb.out; exact blBy) hbx)
      clear hbx c0 c1 c2 c3
      cases hq : P x with
      | false =>
        have HX : Hid (xs.all P = false) := hid (by rw [HA.out, HD.out, hq]; rfl)
        go_wp2
        go_ret
        exact ⟨ret_bool HX.out.symm, hbw.out⟩
      | true =>
        have HX : Hid (xs.all P = (xs.drop (j + 1)).all P) := hid (by rw [HA.out, HD.out, hq]; rfl)
        go_wp2
        exact ⟨⟨j + 1, by simp, by omega, HX, hbw⟩, by simp [numAt]; omega⟩
    · have k2 : ¬ (j : Int) < (xs.length : Int) := by omega
      have HX : Hid (xs.all P = true) := hid (by rw [HA.out, List.drop_of_length_le (by omega)]; rfl)
      go_wp2
      go_ret
      exact ⟨ret_bool HX.out.symm, hb.out⟩
theorem everyV (w : World) (Z : Nat → Prop) (d : Nat) (xs : List (CV CM)) (a : Option Addr) (c : Nat) (h : VlsR w Z d (.slice a xs.length c) xs) (fn : FuncId) (caps : Array Value) (hcf : ∀ (args : Array Value) (W : World), (callFunc fn args).run Tryz.prog W = .ok (.enter fn args) W) (P : CV CM → Bool)
    (hf : ∀ (W : World), Below w.heap.size w W → ∀ (cs : List Value) (x : CV CM), x ∈ xs → FmV d W Z cs x → Calls Tryz.prog fn (#[.agg cs.toArray] ++ caps) W fun e w' => e = .returned (.bool (P x)) ∧ Below W.heap.size W w') : Calls Tryz.prog 146 #[.slice a xs.length c, .func (.func fn) #[] caps] w fun e w' => e = .returned (.bool (xs.all P)) ∧ Below w.heap.size w w' := by
  obtain ⟨_, _, e1, l1⟩ := RowM.sl h
  clear e1
  have m1 : (xs.length : Int) ≤ 9223372036854775807 := by omega
  have H1 := hid h
  have HF := hid hf
  clear h hf
  go_enter Tryz.func146, Tryz.ntmps146
  go_wp2
  go_loopw [9] (fun s9 wr => ∃ j : Nat, s9 = .int .i64 j ∧ j ≤ xs.length ∧ Hid (xs.all P = (xs.drop j).all P) ∧ Hid (Below w.heap.size w wr)) (fun s9 wr => xs.length - numAt wr s9)
  case atStart => exact ⟨0, rfl, by omega, hid rfl, hid (Below.refl _ _)⟩
  case round =>
    obtain ⟨j, rfl, hj, HA, hb⟩ := hrel
    by_cases hlt : j < xs.length
    · have k2 : (j : Int) < (xs.length : Int) := by omega
      obtain ⟨b1, o1, ka1, kc1, va1, vc1, rfl, -, hb1, c0, c1, c2, he⟩ := vls_at (H1.out.kept hb.out) hlt
      have HE := hid he
      have HD : Hid ((xs.drop j).all P = (P xs[j] && (xs.drop (j + 1)).all P)) := hid (by rw [List.drop_eq_getElem_cons hlt, List.all_cons])
      have HME := hid (List.getElem_mem hlt)
      clear he
      generalize xs[j] = x at *
      go_wp2_with fail
      refine (HF.out _ (by have := hb.out; exact blBy) [.int .u64 x.n, .slice ka1 x.b.length kc1, .slice va1 x.ms.length vc1] x HME.out (Fam.go (famV d) HE.out (keepT (below_alloc _)) (fun _ _ => trivial) (fun _ h => h))).mono ?_
      rintro e w1 ⟨rfl, hbx⟩
      have hbw : Hid (Below w.heap.size w w1) := hid (bl_then (by have := hb.out; exact blBy) hbx)
      clear hbx c0 c1 c2
      cases hq : P x with
      | false =>
        have HX : Hid (xs.all P = false) := hid (by rw [HA.out, HD.out, hq]; rfl)
        go_wp2
        go_ret
        exact ⟨ret_bool HX.out.symm, hbw.out⟩
      | true =>
        have HX : Hid (xs.all P = (xs.drop (j + 1)).all P) := hid (by rw [HA.out, HD.out, hq]; rfl)
        go_wp2
        exact ⟨⟨j + 1, by simp, by omega, HX, hbw⟩, by simp [numAt]; omega⟩
    · have k2 : ¬ (j : Int) < (xs.length : Int) := by omega
      have HX : Hid (xs.all P = true) := hid (by rw [HA.out, List.drop_of_length_le (by omega)]; rfl)
      go_wp2
      go_ret
      exact ⟨ret_bool HX.out.symm, hb.out⟩
theorem idxFld (w : World) (Z : Nat → Prop) (d : Nat) (xs : List (CF CM)) (a : Option Addr) (c : Nat) (h : FlsR w Z d (.slice a xs.length c) xs) (fn : FuncId) (caps : Array Value) (hcf : ∀ (args : Array Value) (W : World), (callFunc fn args).run Tryz.prog W = .ok (.enter fn args) W) (P : CF CM → Bool)
    (hf : ∀ (W : World), Below w.heap.size w W → ∀ (cs : List Value) (x : CF CM), x ∈ xs → FmF d W Z cs x → Calls Tryz.prog fn (#[.agg cs.toArray] ++ caps) W fun e w' => e = .returned (.bool (P x)) ∧ Below W.heap.size W w') : Calls Tryz.prog 56 #[.slice a xs.length c, .func (.func fn) #[] caps] w fun e w' => e = .returned (.int .i64 (fnd P xs 0)) ∧ Below w.heap.size w w' := by
  obtain ⟨_, _, e1, l1⟩ := RowM.sl h
  clear e1
  have m1 : (xs.length : Int) ≤ 9223372036854775807 := by omega
  have H1 := hid h
  have HF := hid hf
  clear h hf
  go_enter Tryz.func56, Tryz.ntmps56
  go_wp2
  go_loopw [8] (fun r wr => ∃ j : Nat, r = .int .i64 j ∧ j ≤ xs.length ∧ Hid (fnd P xs 0 = fnd P (xs.drop j) j) ∧ Hid (Below w.heap.size w wr)) (fun r wr => xs.length - numAt wr r)
  case atStart => exact ⟨0, rfl, by omega, hid rfl, hid (Below.refl _ _)⟩
  case round =>
    obtain ⟨j, rfl, hj, hf, hb⟩ := hrel
    by_cases hlt : j < xs.length
    · have h2 : (j : Int) < (xs.length : Int) := by omega
      obtain ⟨b1, o1, ka1, kc1, va1, vc1, rfl, -, hb1, c0, c1, c2, he⟩ := fls_at (H1.out.kept hb.out) hlt
      have HE := hid he
      have HST := hid (fnd_at (p := P) hlt)
      have HME := hid (List.getElem_mem hlt)
      clear he
      generalize xs[j] = x at *
      go_wp2_with fail
      refine (HF.out _ (by have := hb.out; exact blBy) [.int .i64 x.num, .slice ka1 x.ks.length kc1, .slice va1 x.vs.length vc1] x HME.out (Fam.go (famF d) HE.out (keepT (by exact blBy)) (fun _ _ => trivial) (fun _ h => h))).mono ?_
      rintro e w1 ⟨rfl, hb1⟩
      have HB1 : Hid (Below w.heap.size w w1) := hid (bl_then (by have := hb.out; exact blBy) hb1)
      clear hb1
      cases hq : P x with
      | true =>
        go_wp2
        go_ret
        exact ⟨ret_int (by rw [hf.out, HST.out, hq]; simp), HB1.out⟩
      | false =>
        go_wp2
        exact ⟨⟨j + 1, by simp, by omega, hid (by rw [hf.out, HST.out, hq]; simp), HB1⟩, by simp [numAt]; omega⟩
    · have h2 : ¬ (j : Int) < (xs.length : Int) := by omega
      have HE : Hid (fnd P xs 0 = -1) := hid (by rw [hf.out, List.drop_of_length_le (by omega)]; rfl)
      go_wp2
      go_ret
      exact ⟨ret_int (by rw [HE.out]), hb.out⟩
def isN (n : Int) (x : CF CM) : Bool := decide (x.num = n)
theorem getFn (w : World) (Z : Nat → Prop) (d : Nat) (cs : List Value) (x : CF CM) (h : FmF d w Z cs x) (p : Nat) (n : Int) (hp : Blk w p 3 #[.int .i64 n]) : Calls Tryz.prog 57 #[.agg cs.toArray, .pointer (some ⟨p, 0, none⟩)] w fun e w' => e = .returned (.bool (isN n x)) ∧ Below w.heap.size w w' := by
  obtain ⟨ka, kc, va, vc, rfl, -⟩ := fld_open h
  have xp := hp.cellF
  have zp := hp.lt
  clear h hp
  go_enter Tryz.func57, Tryz.ntmps57
  go_wp2
  go_ret
  exact ⟨ret_bool (by unfold isN; by_cases q : x.num = n <;> simp [q]), by exact blBy⟩
theorem cfGet (args : Array Value) (W : World) : (callFunc 57 args).run Tryz.prog W = .ok (.enter 57 args) W := cf_enter Tryz.func57 (by kernel_rfl) (by kernel_rfl) args W
theorem RowM.sub {α : Type} {w : World} {Z : Nat → Prop} {k : Nat} {E : List Value → α → Prop} {b o n c : Nat} {xs : List α} (h : RowM w Z k E (.slice (some ⟨b, o, none⟩) n c) xs) (hk : 0 < k) {i : Nat} (hi : i < xs.length) {c' : Nat} (h1 : 1 ≤ c') (h2 : c' ≤ 9223372036854775807) : RowM w Z k E (.slice (some ⟨b, o + i * k, none⟩) 1 c') [xs[i]] := by
  obtain ⟨b', o', cs, e, hz, -, hl, he, hc⟩ := RowM.at h hk hi
  cases e
  refine ⟨[⟨cs, hl⟩], ⟨_, _, rfl, by simp [hl], h1, h2, .inr ⟨b, o + i * k, rfl, hz, fun j u hu => hc j u (by simpa using hu)⟩⟩, rfl, by simp, fun j t x ht hx => ?_⟩
  have e0 : j = 0 := by
    have := (List.getElem?_eq_some_iff.1 ht).1
    simpa using this
  subst e0
  simp at ht hx
  subst ht hx
  exact he
theorem RowM.cap {α : Type} {w : World} {Z : Nat → Prop} {k : Nat} {E : List Value → α → Prop} {a : Option Addr} {n c : Nat} {xs : List α} (h : RowM w Z k E (.slice a n c) xs) : xs.length ≤ c ∧ c ≤ 9223372036854775807 := by
  obtain ⟨ts, ⟨a', c', e, hv⟩, _⟩ := h
  cases e
  exact ⟨hv.le, hv.max⟩
theorem fieldRun (s u : Value) (W : World) (hs : s.cells = #[s]) : (Instr.field 35 (.agg #[s, u]) 0).run Tryz.prog W = .ok s W := by
  simp [Instr.field, part, asAgg, go_sem]
def cfZ : CF CM := ⟨0, [], []⟩
/-- A field, and whether it is there. -/
def GetR (d : Nat) (w : World) (o : Option (CF CM)) (e : Ending) (w' : World) : Prop := ∃ cs : List Value, e = .returned (.tuple #[.agg cs.toArray, .bool o.isSome]) ∧ FmF d w' (w.heap.size ≤ ·) cs (o.getD cfZ) ∧ Below w.heap.size w w'
theorem getT (d : Nat) (w : World) (Z : Nat → Prop) (cs : List Value) (m : CM) (h : MsgE w Z (d + 1) cs m) (n : Int) : Calls Tryz.prog 26 #[.agg cs.toArray, .int .i64 n] w (GetR d w (m.fs.find? (isN n))) := by
  obtain ⟨ka, kc, va, vc, rfl, g, q, l1, -⟩ := msg_open h
  have HI := hid fun W (hW : Below w.heap.size w W) (p : Nat) (hp : Blk W p 3 #[.int .i64 n]) => idxFld W Z d m.fs ka kc (g.kept hW) 57 #[.pointer (some ⟨p, 0, none⟩)] cfGet (isN n) (fun W' hW' cs x _ hx => getFn W' Z d cs x hx p n (hp.kept hW'))
  have G := hid g
  have LC := RowM.cap g
  have LC1 : (m.fs.length : Int) ≤ (kc : Int) := by omega
  have LC2 : (kc : Int) ≤ 9223372036854775807 := by omega
  clear h g q
  go_enter Tryz.func26, Tryz.ntmps26
  go_wp2_with fail
  refine (HI.out _ (by exact blBy) _ ((Blk.newAt (by simp)).kept (below_alloc _))).mono ?_
  rintro e w1 ⟨rfl, hbx⟩
  have Bx : Blk w1 w.heap.size 35 #[.slice ka m.fs.length kc, .slice va m.us.length vc] := (((Blk.new _ _ _).kept (below_alloc _)).kept (below_alloc _)).kept hbx
  have Br : Blk w1 (w.heap.size + 1 + 1) 29 #[.int .i64 0, .slice none 0 0, .slice none 0 0] := (Blk.newAt (by simp)).kept hbx
  have hbz : Hid (Below w.heap.size w w1) := hid (bl_then (by exact blBy) hbx)
  clear hbx HI
  have xx := Bx.cellF
  have zx := Bx.lt
  have xr := Br.cellF
  have yr := Br.frz
  have zr := Br.lt
  rcases fnd_find (isN n) m.fs 0 with ⟨h1, h2⟩ | ⟨j, hj, h1, h2⟩
  · have H2 := hid h2
    generalize fnd (isN n) m.fs 0 = i at *
    have k0 : (i < 0) = True := eq_true h1
    clear h1 h2
    go_wp2
    exact bodyPost_ret (v := .tuple #[.agg #[.int .i64 0, .slice none 0 0, .slice none 0 0], .bool false]) (by simp [results, Tryz.results26, go_sem, xr, zr, yr]) rfl ⟨[.int .i64 0, .slice none 0 0, .slice none 0 0], by rw [H2.out]; rfl, by rw [H2.out]; exact ⟨_, _, rfl, RowM.nil _ _ _ _, RowM.nil _ _ _ _, by constructor <;> decide⟩, by have := hbz.out; exact blBy⟩
  · have H2 := hid h2
    rw [h1, Nat.zero_add]
    have k0 : ((j : Int) < 0) = False := eq_false (by omega)
    have k1 : (j : Int) < (m.fs.length : Int) := by omega
    have k2 : (j : Int) + 1 ≤ (m.fs.length : Int) := by omega
    clear h1 h2
    obtain ⟨b1, o1, _, _, _, _, rfl, -⟩ := fls_at G.out hj
    have HSB : Hid (∀ W, Below w.heap.size w W → MsgE W Z (d + 1) [.slice (some ⟨b1, o1 + j * 3, none⟩) 1 (kc - j), .slice none 0 0] (CM.mk [m.fs[j]] [])) := hid fun W hW => ⟨_, _, rfl, RowM.sub (G.out.kept hW) (by decide) hj (by omega) (by omega), RowM.nil _ _ _ _⟩
    generalize m.fs[j] = x at *
    go_wp2_with fail
    refine (copyT (d + 1) _ Z [.slice (some ⟨b1, o1 + j * 3, none⟩) 1 (kc - j), .slice none 0 0] (CM.mk [x] []) (HSB.out _ hbz.out)).mono ?_
    rintro e w2 ⟨ds, rfl, hn, hbx⟩
    obtain ⟨fa, fc, ua, uc, rfl, g1, -⟩ := msg_open hn
    obtain ⟨b2, o2, pa, pc, qa, qc, hfa, hz2, hb2, c0, c1, c2, he⟩ := fls_at g1 (i := 0) (by simp [CM.fs])
    subst hfa
    replace Br := Br.kept hbx
    have hne : b2 ≠ w.heap.size + 1 + 1 := by
      have hz3 : w1.heap.size ≤ b2 := hz2
      omega
    have d0 : w2.cell? ⟨b2, o2, none⟩ = some (.int .i64 x.num) := by simpa [CM.fs] using c0
    have d1 : w2.cell? ⟨b2, o2 + 1, none⟩ = some (.slice pa x.ks.length pc) := by simpa [CM.fs] using c1
    have d2 : w2.cell? ⟨b2, o2 + 2, none⟩ = some (.slice qa x.vs.length qc) := by simpa [CM.fs] using c2
    have HN : Hid (FmF d w2 (w.heap.size + 3 ≤ ·) [.int .i64 x.num, .slice pa x.ks.length pc, .slice qa x.vs.length qc] x) := hid ((famF d).go he (Keep.refl (fun _ => True) w2) (fun _ _ => trivial) (fun k hk => by have hk2 : w1.heap.size ≤ k := hk; omega))
    have hby : Hid (Below w.heap.size w w2) := hid (bl_then hbz.out hbx)
    clear c0 c1 c2 he hn g1 hz2 xx zx xr yr zr hbx hbz HSB
    have xr := Br.cellF
    have yr := Br.frz
    have zr := Br.lt
    have ef : (CM.mk [x] []).fs.length = 1 := rfl
    have eu : (CM.mk [x] []).us.length = 0 := rfl
    rw [ef, eu]
    have HFD := fieldRun (.slice (some ⟨b2, o2, none⟩) 1 fc) (.slice ua 0 uc) w2 rfl
    go_wp2
    exact bodyPost_ret (v := .tuple #[.agg #[.int .i64 x.num, .slice pa x.ks.length pc, .slice qa x.vs.length qc], .bool true]) (by simp [results, Tryz.results26, go_sem, xr, zr, yr]) rfl ⟨[.int .i64 x.num, .slice pa x.ks.length pc, .slice qa x.vs.length qc], by rw [H2.out]; rfl, by rw [H2.out]; exact (famF d).go HN.out (f := (w.heap.size + 3 ≤ ·)) (by with_reducible repeat (first | exact Keep.refl _ _ | refine kpS ?_ (by first | (simp; done) | (simp; omega) | omega) | refine kpA ?_ _ | refine kpD ?_ | refine kpN ?_ _)) (fun _ h => h) (fun k hk => by omega), by have := hby.out; exact blBy⟩
set_option maxHeartbeats 2000000
/-- The greatest of a list, and of a number. -/
def mxL {α : Type} (f : α → Nat) (a : Nat) (l : List α) : Nat := l.foldl (fun a x => max a (f x)) a
def depVs (dm : CM → Nat) (a : Nat) (l : List (CV CM)) : Nat := l.foldl (fun a v => mxL dm a v.ms) a
/-- How deep, so far down. -/
def depM : Nat → CM → Nat
  | 0, _ => 0
  | d + 1, m => m.fs.foldl (fun a f => max (max a (depVs (depM d) 0 f.ks)) (depVs (depM d) 0 f.vs)) 0 + 1
theorem mxL_le {α : Type} {f : α → Nat} {b : Nat} : ∀ {l : List α} {a : Nat}, a ≤ b → (∀ x ∈ l, f x ≤ b) → mxL f a l ≤ b
  | [], a, ha, _ => ha
  | x :: r, a, ha, h => by
    show mxL f (max a (f x)) r ≤ b
    exact mxL_le (Nat.max_le.2 ⟨ha, h x List.mem_cons_self⟩) (fun y hy => h y (List.mem_cons_of_mem _ hy))
theorem depVs_le {dm : CM → Nat} {b : Nat} (hd : ∀ m, dm m ≤ b) : ∀ {l : List (CV CM)} {a : Nat}, a ≤ b → depVs dm a l ≤ b
  | [], a, ha => ha
  | v :: r, a, ha => by
    show depVs dm (mxL dm a v.ms) r ≤ b
    exact depVs_le hd (mxL_le ha (fun m _ => hd m))
theorem depFs_le {dm : CM → Nat} {b : Nat} (hd : ∀ m, dm m ≤ b) : ∀ {l : List (CF CM)} {a : Nat}, a ≤ b → l.foldl (fun a f => max (max a (depVs dm 0 f.ks)) (depVs dm 0 f.vs)) a ≤ b
  | [], a, ha => ha
  | f :: r, a, ha => by
    rw [List.foldl_cons]
    exact depFs_le hd (Nat.max_le.2 ⟨Nat.max_le.2 ⟨ha, depVs_le hd (Nat.zero_le _)⟩, depVs_le hd (Nat.zero_le _)⟩)
theorem depM_le : ∀ (d : Nat) (m : CM), depM d m ≤ d
  | 0, _ => Nat.le_refl _
  | d + 1, m => by
    unfold depM
    exact Nat.succ_le_succ (depFs_le (depM_le d) (Nat.zero_le _))
end Go.Proofs.YtnfdlnelfnigdaaGreatDoor
