/-
  Two messages merged.
  Merge: of what is typed, of what is not.
-/
import Derived.Test.YtmiemocdjkeefaaGreatDoorCGO
import Derived.Test.YtmiemocdjkeefaaGreatDoorCCA
import Derived.Test.YtmiemocdjkeefaaGreatDoorCw8M4
namespace Go.Proofs.YtmiemocdjkeefaaGreatDoor
open Go.RowKit
set_option maxRecDepth 1000000
set_option linter.unusedVariables false
set_option linter.unusedSimpArgs false
set_option maxHeartbeats 4000000
theorem keepR2 {w : World} (p : Nat) (x y : Value) : Keep (fun b => b ≠ p) w ((w.setCell ⟨p, 0, none⟩ x).setCell ⟨p, 1, none⟩ y) := (Keep.setCell _ _ _ (by simp)).trans (Keep.setCell _ _ _ (by simp))
theorem msg_ans {d q : Nat} {w W : World} {Z : Nat → Prop} {fv uv : Value} {fs : List (CF CM)} {us : List CE} (hq : w.heap.size ≤ q) (hb : Below w.heap.size w W) (h : FlsR W (fun b => (Z b ∧ b < w.heap.size) ∨ q < b) d fv fs) (g : EnsR W (fun b => (Z b ∧ b < w.heap.size) ∨ q < b) uv us) (x y : Value) : MsgE ((W.setCell ⟨q, 0, none⟩ x).setCell ⟨q, 1, none⟩ y) (fun b => Z b ∨ w.heap.size ≤ b) (d + 1) [fv, uv] (CM.mk fs us) ∧ Below w.heap.size w ((W.setCell ⟨q, 0, none⟩ x).setCell ⟨q, 1, none⟩ y) :=
  ⟨⟨_, _, rfl, FlsR.go h (keepR2 q x y) (fun b hb => by rcases hb with hb | hb <;> (show b ≠ q) <;> omega) (fun b hb => hb.elim (fun h => Or.inl h.1) (fun h => Or.inr (by omega))), EnsR.go g (keepR2 q x y) (fun b hb => by rcases hb with hb | hb <;> (show b ≠ q) <;> omega) (fun b hb => hb.elim (fun h => Or.inl h.1) (fun h => Or.inr (by omega)))⟩, Below.trans hb ((keepR2 q x y).below hb.size (fun k hk => by show k ≠ q; omega))⟩
theorem merged2T (l : List TV) (mg : TV → CM → CM → CM) (d : Nat) (w : World) (ta : Option Addr) (tc : Nat) (h : TbR w (.slice ta l.length tc) l) (hg : goodB l = true) (x : TV) (hx : x ∈ l) (Z : Nat → Prop) (cs ds : List Value) (a b : CF CM) (ha : FmF d w Z cs a) (hb : FmF d w Z ds b) (hh : hasF x.t.fs a.num = true) (tya : fieldB l (ownF x.t.fs a.num) a = true) (tyb : fieldB l (ownF x.t.fs a.num) b = true) (hs1 : a.ks.length + b.ks.length ≤ 4000000) (hs2 : a.vs.length + b.vs.length ≤ 4000000)
    (hM : (ownF x.t.fs a.num).lab = 1 → (ownF x.t.fs a.num).kind = 17 → ∀ (W : World), Below w.heap.size w W → ∀ ys zs : List Value, MsgE W (fun b => Z b ∧ b < w.heap.size) d ys (wM a) → MsgE W (fun b => Z b ∧ b < w.heap.size) d zs (wM b) → Calls Tryz.prog 35 #[.slice ta l.length tc, .agg (cTV (blwB l x a)).toArray, .agg ys.toArray, .agg zs.toArray] W fun e w' => ∃ es : List Value, e = .returned (.agg es.toArray) ∧ MsgE w' (fun b => (Z b ∧ b < w.heap.size) ∨ W.heap.size ≤ b) d es (mg (blwB l x a) (wM a) (wM b)) ∧ Below W.heap.size W w')
    (p q : Nat) (hp : Blk w p 63 (cTV x).toArray) (hq : Blk w q 75 #[.slice ta l.length tc]) :
    Calls Tryz.prog 54 #[.agg cs.toArray, .agg ds.toArray, .pointer (some ⟨p, 0, none⟩), .pointer (some ⟨q, 0, none⟩)] w fun e w' => ∃ es : List Value, e = .returned (.agg es.toArray) ∧ FmF d w' (fun b => Z b ∨ w.heap.size ≤ b) es (bothF l mg x a b) ∧ Below w.heap.size w w' := by
  obtain ⟨a1, c1, a2, c2, a3, c3, a4, c4, e1, e2, e3, e4⟩ := shT_of (h.ty x hx)
  have ec : cTV x = [.string (strOfNums x.t.name), .bool x.t.enum, .slice a1 x.t.fs.length c1, .slice a2 x.t.os.length c2, .slice a3 x.t.ss.length c3, .slice a4 x.t.rs.length c4] := by unfold cTV; rw [e1, e2, e3, e4]
  have HFI := hid fun W (hW : Below w.heap.size w W) (n : Int) => findT x.t.fs n W a1 c1 (by rw [← e1]; exact ((h.ty x hx).kept hW).f) (good_rise hg hx).1 (good_rise hg hx).2
  have HBO := hid fun W (hW : Below w.heap.size w W) => bothT l mg d W ta tc (h.kept hW) hg x hx (fun b => Z b ∧ b < w.heap.size) cs ds a b (FldE.kept (Fam.old (famF d) ha) hW) (FldE.kept (Fam.old (famF d) hb) hW) hh tya tyb hs1 hs2 (fun g1 g2 W' hW' ys zs m1 m2 => (hM g1 g2 W' (below_trans hW hW') ys zs (MsgE.go (Keep.refl (fun _ => True) _) (fun _ _ => trivial) (fun b h => h.1) d _ _ m1) (MsgE.go (Keep.refl (fun _ => True) _) (fun _ _ => trivial) (fun b h => h.1) d _ _ m2)).mono fun e w' ⟨es, he, hm, hb⟩ => ⟨es, he, MsgE.go (Keep.refl (fun _ => True) _) (fun _ _ => trivial) (fun b h => h.elim (fun g => Or.inl ⟨g, Nat.lt_of_lt_of_le g.2 hW.size⟩) Or.inr) d _ _ hm, hb⟩)
  obtain ⟨ka, kc, va, vc, rfl, -⟩ := fld_open ha
  obtain ⟨kb, kd, vb, vd, rfl, -⟩ := fld_open hb
  have hp' : Blk w p 63 #[.string (strOfNums x.t.name), .bool x.t.enum, .slice a1 x.t.fs.length c1, .slice a2 x.t.os.length c2, .slice a3 x.t.ss.length c3, .slice a4 x.t.rs.length c4] := by rw [ec] at hp; exact hp
  have xp := hp'.cellF
  have zp := hp'.lt
  have BQ := hid hq
  have BP := hid hp'
  clear e1 e2 e3 e4 ec ha hb tya tyb hs1 hs2 hM hp hp' hq h
  go_enter Tryz.func54, Tryz.ntmps54
  go_upto_region 1 with fail
  generalize hw0 : World.alloc (World.alloc (World.alloc w _) _) _ = w9
  have HB9 : Hid (Below w.heap.size w w9) := hid (hw0 ▸ (by exact blBy))
  have HS9 : Hid (w9.heap.size = w.heap.size + 3) := hid (by rw [← hw0]; simp)
  have BA9 : Hid (Blk w9 w.heap.size 33 #[.int .i64 a.num, .slice ka a.ks.length kc, .slice va a.vs.length vc]) := hid (hw0 ▸ (((Blk.new _ _ _).kept (below_alloc _)).kept (below_alloc _)))
  have BB9 : Hid (Blk w9 (w.heap.size + 1) 33 #[.int .i64 b.num, .slice kb b.ks.length kd, .slice vb b.vs.length vd]) := hid (hw0 ▸ ((Blk.newAt (by simp)).kept (below_alloc _)))
  have BR9 : Hid (Blk w9 (w.heap.size + 1 + 1) 33 #[.int .i64 0, .slice none 0 0, .slice none 0 0]) := hid (hw0 ▸ (Blk.newAt (by simp)))
  clear hw0
  replace xp := (BP.out.kept HB9.out).cellF
  replace zp := (BP.out.kept HB9.out).lt
  have xa := BA9.out.cellF
  have za := BA9.out.lt
  go_wp2_with fail
  refine (HFI.out _ (by have := HB9.out; exact blBy) _).mono ?_
  rintro e w0 ⟨rfl, hbx⟩
  have BA := hid (BA9.out.kept hbx)
  have BB := hid (BB9.out.kept hbx)
  have BR := hid (BR9.out.kept hbx)
  have HB0 : Hid (Below w.heap.size w w0) := hid (bl_then HB9.out hbx)
  have HS0 : Hid (w.heap.size + 3 ≤ w0.heap.size) := hid (by have := hbx.size; have := HS9.out; omega)
  clear hbx xp zp xa za BA9 BB9 BR9 HB9 HS9
  unfold tFT
  have xq := (BQ.out.kept HB0.out).cellF
  have zq := (BQ.out.kept HB0.out).lt
  have xa := BA.out.cellF
  have za := BA.out.lt
  have xb := BB.out.cellF
  have zb := BB.out.lt
  go_wp2_with fail
  refine (HBO.out _ (by have := HB0.out; exact blBy)).mono ?_
  rintro e w1 ⟨es, rfl, hes, hbx⟩
  have BR1 := hid ((BR.out.kept (below_alloc _)).kept hbx)
  have HB1 : Hid (Below w.heap.size w w1) := hid (bl_then (by have := HB0.out; exact blBy) hbx)
  have HE : Hid (FmF d w1 (fun b => (Z b ∧ b < w.heap.size) ∨ w.heap.size + 1 + 1 < b) es (bothF l mg x a b)) := hid (Fam.go (famF d) hes (Keep.refl (fun _ => True) _) (fun _ _ => trivial) (fun b hb => hb.elim Or.inl (fun h => Or.inr (by have h2 := HS0.out; simp at h; omega))))
  clear hes hbx xq zq xa za xb zb
  obtain ⟨ra, rc, sa, sc, rfl, -⟩ := fld_open HE.out
  have xr := BR1.out.cellF
  have yr := BR1.out.frz
  have zr := BR1.out.lt
  have HA := hid fun (x y z : Value) => fld_ans (q := w.heap.size + 1 + 1) (by omega) HB1.out HE.out x y z
  go_wp2
  exact bodyPost_ret (v := .agg #[.int .i64 (bothF l mg x a b).num, .slice ra (bothF l mg x a b).ks.length rc, .slice sa (bothF l mg x a b).vs.length sc]) (by simp [results, Tryz.results54, go_sem, xr, yr, zr]) rfl ⟨_, rfl, (HA.out _ _ _).1, (HA.out _ _ _).2⟩
/-- What is said of merged, so deep. -/
def MgdP (l : List TV) (d : Nat) : Prop := ∀ (w : World) (ta : Option Addr) (tc : Nat), TbR w (.slice ta l.length tc) l → ∀ (x : TV), x ∈ l → ∀ (Z : Nat → Prop) (cs ds : List Value) (a b : CM), MsgE w Z d cs a → MsgE w Z d ds b → keptB l d x a = true → keptB l d x b = true → ∀ (L1 L2 : Nat), sizM L1 d a → sizM L2 d b → L1 + L2 ≤ 4000000 → Calls Tryz.prog 35 #[.slice ta l.length tc, .agg (cTV x).toArray, .agg cs.toArray, .agg ds.toArray] w fun e w' => ∃ es : List Value, e = .returned (.agg es.toArray) ∧ MsgE w' (fun b => Z b ∨ w.heap.size ≤ b) d es (mergM l d x a b) ∧ Below w.heap.size w w'
theorem unionM (l : List TV) (hg : goodB l = true) (d : Nat) (w : World) (ta : Option Addr) (tc : Nat) (h : TbR w (.slice ta l.length tc) l) (x : TV) (hx : x ∈ l) (Z : Nat → Prop) (a b : CM) (ra : Option Addr) (rc : Nat) (fb : Option Addr) (fd : Nat) (h1 : FlsR w Z d (.slice ra (a.fs.filter (rivB x.t.fs b.fs)).length rc) (a.fs.filter (rivB x.t.fs b.fs))) (h2 : FlsR w Z d (.slice fb b.fs.length fd) b.fs) (hn : (a.fs.filter (rivB x.t.fs b.fs)).length + b.fs.length ≤ 4000000) (fa : ∀ f ∈ a.fs, hasF x.t.fs f.num = true ∧ fieldB l (ownF x.t.fs f.num) f = true) (fb' : ∀ f ∈ b.fs, hasF x.t.fs f.num = true ∧ fieldB l (ownF x.t.fs f.num) f = true) (ka : ∀ f ∈ a.fs, ∀ z ∈ allM f, keptB l d (blwB l x f) z = true) (kb : ∀ f ∈ b.fs, ∀ z ∈ allM f, keptB l d (blwB l x f) z = true) (L1 L2 : Nat) (sa : sizM L1 (d + 1) a) (sb : sizM L2 (d + 1) b) (hL : L1 + L2 ≤ 4000000)
    (IH : MgdP l d)
    (p q : Nat) (hp : Blk w p 63 (cTV x).toArray) (hq : Blk w q 75 #[.slice ta l.length tc]) :
    Calls Tryz.prog 56 #[.slice ra (a.fs.filter (rivB x.t.fs b.fs)).length rc, .slice fb b.fs.length fd, .func (.func 52) #[] #[], .func (.func 54) #[] #[.pointer (some ⟨p, 0, none⟩), .pointer (some ⟨q, 0, none⟩)]] w fun e w' => ∃ a' c', e = .returned (.slice a' (mergM l (d + 1) x a b).fs.length c') ∧ FlsR w' (fun b => Z b ∨ w.heap.size ≤ b) d (.slice a' (mergM l (d + 1) x a b).fs.length c') (mergM l (d + 1) x a b).fs ∧ Below w.heap.size w w' := by
  rw [merg_fs]
  refine unionF d w Z _ _ ra fb rc fd h1 h2 _ (bothF l (mergM l d) x) hn ?_
  intro W hW cs ds u v hu hv he gu gv
  have hu' := (List.mem_filter.1 hu).1
  have en := fOrd_eq.1 he
  have su := sa.2.2 u hu'
  have sv := sb.2.2 v hv
  have tu := fa u hu'
  have tv := (fb' v hv).2
  rw [← en] at tv
  refine merged2T l (mergM l d) d W ta tc (h.kept hW) hg x hx (fun b => Z b ∧ b < w.heap.size) cs ds u v gu gv tu.1 tu.2 tv (by omega) (by omega) ?_ p q (hp.kept hW) (hq.kept hW)
  intro g1 g17 W' hW' ys zs m1 m2
  have w1 := (wM_in tu.2 g1 g17).1
  have w2 := (wM_in tv g1 g17).1
  refine IH W' ta tc ((h.kept hW).kept hW') (blwB l x u) (blw_in hx u) _ ys zs (wM u) (wM v) m1 m2 (ka u hu' _ w1) ?_ L1 L2 (su.2.2 _ w1) (sv.2.2 _ w2) hL
  rw [blw_num l x en]
  exact kb v hv _ w2
/-- Of two typed messages, so deep at most, whose lists together are not too long. -/
theorem mergedStep (l : List TV) (hg : goodB l = true) (d : Nat) (IH : MgdP l d) : MgdP l (d + 1) := by
  intro w ta tc h x hx Z cs ds a b ha hb ka kb L1 L2 sa sb hL
  obtain ⟨a1, c1, a2, c2, a3, c3, a4, c4, e1, e2, e3, e4⟩ := shT_of (h.ty x hx)
  have ec : cTV x = [.string (strOfNums x.t.name), .bool x.t.enum, .slice a1 x.t.fs.length c1, .slice a2 x.t.os.length c2, .slice a3 x.t.ss.length c3, .slice a4 x.t.rs.length c4] := by unfold cTV; rw [e1, e2, e3, e4]
  obtain ⟨fa, fc, ua, uc, rfl, ga1, ga2, -⟩ := msg_open (MsgE.old (d + 1) _ _ ha)
  obtain ⟨fb, fd, ub, ud, rfl, gb1, gb2, -⟩ := msg_open (MsgE.old (d + 1) _ _ hb)
  have HRI := hid fun W (hW : Below w.heap.size w W) => rivalsT d W (fun b => Z b ∧ b < w.heap.size) x ((h.ty x hx).kept hW) (good_rise hg hx).1 (good_rise hg hx).2 a.fs b.fs fa fb fc fd (FlsR.kept ga1 hW) (FlsR.kept gb1 hW)
  have HGB := hid fun W (hW : Below w.heap.size w W) => FlsR.kept gb1 hW
  have HUA := hid fun W (hW : Below w.heap.size w W) => EnsR.kept ga2 hW
  have HUB := hid fun W (hW : Below w.heap.size w W) => EnsR.kept gb2 hW
  have HTB := hid fun W (hW : Below w.heap.size w W) => h.kept hW
  obtain ⟨ha1, ha2⟩ := kept_all ka
  obtain ⟨hb1, hb2⟩ := kept_all kb
  have HFA := hid (hold_facts ha1).2.1
  have HFB := hid (hold_facts hb1).2.1
  have HKA := hid ha2
  have HKB := hid hb2
  have HSA := hid sa
  have HSB := hid sb
  have HLL := hid hL
  have HFL : Hid ((a.fs.filter (rivB x.t.fs b.fs)).length + b.fs.length ≤ 4000000) := hid (by have := List.length_filter_le (rivB x.t.fs b.fs) a.fs; have := sa.1; have := sb.1; omega)
  have HUL : Hid (a.us.length + b.us.length ≤ 4000000) := hid (by have := sa.2.1; have := sb.2.1; omega)
  have HIH := hid IH
  rw [ec] at HRI
  rw [ec]
  clear ha hb ga1 ga2 gb1 gb2 ha1 ha2 hb1 hb2 sa sb hL ka kb IH
  go_enter Tryz.func35, Tryz.ntmps35
  go_wp2_with fail
  generalize hw0 : World.alloc (World.alloc (World.alloc (World.alloc (World.alloc w _) _) _) _) _ = w0
  have HB0 : Hid (Below w.heap.size w w0) := hid (hw0 ▸ (by exact blBy))
  have HS0 : Hid (w0.heap.size = w.heap.size + 1 + 1 + 1 + 1 + 1) := hid (by rw [← hw0]; simp)
  have BT : Hid (Blk w0 w.heap.size 75 #[.slice ta l.length tc]) := hid (hw0 ▸ (((((Blk.new _ _ _).kept (below_alloc _)).kept (below_alloc _)).kept (below_alloc _)).kept (below_alloc _)))
  have BX : Hid (Blk w0 (w.heap.size + 1) 63 #[.string (strOfNums x.t.name), .bool x.t.enum, .slice a1 x.t.fs.length c1, .slice a2 x.t.os.length c2, .slice a3 x.t.ss.length c3, .slice a4 x.t.rs.length c4]) := hid (hw0 ▸ ((((Blk.newAt (by simp)).kept (below_alloc _)).kept (below_alloc _)).kept (below_alloc _)))
  have BA : Hid (Blk w0 (w.heap.size + 1 + 1) 29 #[.slice fa a.fs.length fc, .slice ua a.us.length uc]) := hid (hw0 ▸ (((Blk.newAt (by simp)).kept (below_alloc _)).kept (below_alloc _)))
  have BB : Hid (Blk w0 (w.heap.size + 1 + 1 + 1) 29 #[.slice fb b.fs.length fd, .slice ub b.us.length ud]) := hid (hw0 ▸ ((Blk.newAt (by simp)).kept (below_alloc _)))
  have BR : Hid (Blk w0 (w.heap.size + 1 + 1 + 1 + 1) 29 #[.slice none 0 0, .slice none 0 0]) := hid (hw0 ▸ (Blk.newAt (by simp)))
  clear hw0
  generalize hq1 : w.heap.size + 1 = q1 at *
  generalize hq2 : q1 + 1 = q2 at *
  generalize hq3 : q2 + 1 = q3 at *
  generalize hq4 : q3 + 1 = q4 at *
  have HQ : Hid (q1 = w.heap.size + 1 ∧ q2 = w.heap.size + 2 ∧ q3 = w.heap.size + 3 ∧ q4 = w.heap.size + 4) := hid (by omega)
  clear hq1 hq2 hq3 hq4
  have HW : Hid (Below w0.heap.size w0 w0) := hid (Below.refl _ _)
  have hne : q1 ≠ q4 ∧ q2 ≠ q4 ∧ q3 ≠ q4 := by have := HQ.out; omega
  have hq4' : w.heap.size ≤ q4 := by have := HQ.out; omega
  have HSF : Hid (∀ W, Below w0.heap.size w0 W → (fun W => W.cell? ⟨q1, 0, none⟩ = some (.string (strOfNums x.t.name)) ∧ W.cell? ⟨q1, 1, none⟩ = some (.bool x.t.enum) ∧ W.cell? ⟨q1, 2, none⟩ = some (.slice a1 x.t.fs.length c1) ∧ W.cell? ⟨q1, 3, none⟩ = some (.slice a2 x.t.os.length c2) ∧ W.cell? ⟨q1, 4, none⟩ = some (.slice a3 x.t.ss.length c3) ∧ W.cell? ⟨q1, 5, none⟩ = some (.slice a4 x.t.rs.length c4) ∧ W.cell? ⟨q2, 0, none⟩ = some (.slice fa a.fs.length fc) ∧ W.cell? ⟨q2, 1, none⟩ = some (.slice ua a.us.length uc) ∧ W.cell? ⟨q3, 0, none⟩ = some (.slice fb b.fs.length fd) ∧ W.cell? ⟨q3, 1, none⟩ = some (.slice ub b.us.length ud)) W) := hid fun W hW => ⟨(BX.out.kept hW).cell 0 _ rfl, (BX.out.kept hW).cell 1 _ rfl, (BX.out.kept hW).cell 2 _ rfl, (BX.out.kept hW).cell 3 _ rfl, (BX.out.kept hW).cell 4 _ rfl, (BX.out.kept hW).cell 5 _ rfl, (BA.out.kept hW).cell 0 _ rfl, (BA.out.kept hW).cell 1 _ rfl, (BB.out.kept hW).cell 0 _ rfl, (BB.out.kept hW).cell 1 _ rfl⟩
  have HSS : Hid (∀ (W : World) (u1 u2 : Value), Below w0.heap.size w0 W → (fun W => W.cell? ⟨q1, 0, none⟩ = some (.string (strOfNums x.t.name)) ∧ W.cell? ⟨q1, 1, none⟩ = some (.bool x.t.enum) ∧ W.cell? ⟨q1, 2, none⟩ = some (.slice a1 x.t.fs.length c1) ∧ W.cell? ⟨q1, 3, none⟩ = some (.slice a2 x.t.os.length c2) ∧ W.cell? ⟨q1, 4, none⟩ = some (.slice a3 x.t.ss.length c3) ∧ W.cell? ⟨q1, 5, none⟩ = some (.slice a4 x.t.rs.length c4) ∧ W.cell? ⟨q2, 0, none⟩ = some (.slice fa a.fs.length fc) ∧ W.cell? ⟨q2, 1, none⟩ = some (.slice ua a.us.length uc) ∧ W.cell? ⟨q3, 0, none⟩ = some (.slice fb b.fs.length fd) ∧ W.cell? ⟨q3, 1, none⟩ = some (.slice ub b.us.length ud)) ((W.setCell ⟨q4, 0, none⟩ u1).setCell ⟨q4, 1, none⟩ u2)) := hid fun W u1 u2 hW => ⟨cs2 (HSF.out W hW).1 hne.1, cs2 (HSF.out W hW).2.1 hne.1, cs2 (HSF.out W hW).2.2.1 hne.1, cs2 (HSF.out W hW).2.2.2.1 hne.1, cs2 (HSF.out W hW).2.2.2.2.1 hne.1, cs2 (HSF.out W hW).2.2.2.2.2.1 hne.1, cs2 (HSF.out W hW).2.2.2.2.2.2.1 hne.2.1, cs2 (HSF.out W hW).2.2.2.2.2.2.2.1 hne.2.1, cs2 (HSF.out W hW).2.2.2.2.2.2.2.2.1 hne.2.2, cs2 (HSF.out W hW).2.2.2.2.2.2.2.2.2 hne.2.2⟩
  have xr := BR.out.cellF
  have yr := BR.out.frz
  have zr := BR.out.lt
  obtain ⟨us, hus⟩ : ∃ us, us = a.us ++ b.us := ⟨_, rfl⟩
  have HRW : rwL [(ua, uc, a.us), (ub, ud, b.us)] = us := by rw [hus]; simp [rwL]
  have HUN : Hid (us.length ≤ 4000000) := hid (by rw [hus, List.length_append]; exact HUL.out)
  have HUE : Hid ((mergM l (d + 1) x a b) = CM.mk (mergM l (d + 1) x a b).fs us) := hid (by rw [hus]; rfl)
  clear hus
  go_region_held3 (fun W => W.cell? ⟨q1, 0, none⟩ = some (.string (strOfNums x.t.name)) ∧ W.cell? ⟨q1, 1, none⟩ = some (.bool x.t.enum) ∧ W.cell? ⟨q1, 2, none⟩ = some (.slice a1 x.t.fs.length c1) ∧ W.cell? ⟨q1, 3, none⟩ = some (.slice a2 x.t.os.length c2) ∧ W.cell? ⟨q1, 4, none⟩ = some (.slice a3 x.t.ss.length c3) ∧ W.cell? ⟨q1, 5, none⟩ = some (.slice a4 x.t.rs.length c4) ∧ W.cell? ⟨q2, 0, none⟩ = some (.slice fa a.fs.length fc) ∧ W.cell? ⟨q2, 1, none⟩ = some (.slice ua a.us.length uc) ∧ W.cell? ⟨q3, 0, none⟩ = some (.slice fb b.fs.length fd) ∧ W.cell? ⟨q3, 1, none⟩ = some (.slice ub b.us.length ud)) (first | (with_reducible exact HSS.out _ _ _ (by have := HW.out; exact blBy)) | exact HSF.out _ (by have := HW.out; exact blBy)) (first | (go_at_call 57; refine (HRI.out _ (bl_then HB0.out (by have := HW.out; exact blBy))).mono ?_; rintro e w1 ⟨ra, rc, rfl, hr, hbx⟩; have HR : Hid (FlsR w1 (fun b => (Z b ∧ b < w.heap.size) ∨ q4 < b) d (.slice ra (a.fs.filter (rivB x.t.fs b.fs)).length rc) (a.fs.filter (rivB x.t.fs b.fs))) := hid (FlsR.go hr (Keep.refl (fun _ => True) _) (fun _ _ => trivial) (fun b hz => hz.elim Or.inl (fun h => Or.inr (by have h3 := HW.out.size; have h4 := HS0.out; have h5 := HQ.out; first | omega | (have h6 : _ ≤ b := h; simp at h6; omega))))); clear hr; (first | (replace BK := hid (BK.out.kept (below_trans (by exact blBy) hbx))) | (with_reducible have BK := hid ((Blk.new _ 27 #[.slice ua a.us.length uc, .slice ub b.us.length ud]).kept hbx)) | (with_reducible have BK := hid (((Blk.new _ 27 #[.slice ua a.us.length uc, .slice ub b.us.length ud]).kept (below_drew1 _)).kept hbx)) | skip); replace HW := hid (bl_then HW.out (below_trans (by exact blBy) hbx)); replace BR := hid (BR.out.kept (below_trans (by exact blBy) hbx)); replace xr := BR.out.cellF; replace yr := BR.out.frz; replace zr := BR.out.lt; clear hbx) | (go_at_call 56; refine (unionM l hg d _ ta tc (HTB.out _ (bl_then HB0.out (by have := HW.out; exact blBy))) x hx (fun b => (Z b ∧ b < w.heap.size) ∨ q4 < b) a b ra rc fb fd (FlsR.kept HR.out (by exact blBy)) (FlsR.go (HGB.out _ (bl_then HB0.out (by have := HW.out; exact blBy))) (Keep.refl (fun _ => True) _) (fun _ _ => trivial) (fun b h => Or.inl h)) HFL.out HFA.out HFB.out HKA.out HKB.out L1 L2 HSA.out HSB.out HLL.out HIH.out q1 w.heap.size (by rw [ec]; exact BX.out.kept (by have := HW.out; exact blBy)) (BT.out.kept (by have := HW.out; exact blBy))).mono ?_; rintro e w2 ⟨va, vc, rfl, hr, hbx⟩; have HU : Hid (FlsR w2 (fun b => (Z b ∧ b < w.heap.size) ∨ q4 < b) d (.slice va (mergM l (d + 1) x a b).fs.length vc) (mergM l (d + 1) x a b).fs) := hid (FlsR.go hr (Keep.refl (fun _ => True) _) (fun _ _ => trivial) (fun b hz => hz.elim id (fun h => Or.inr (by have h3 := HW.out.size; have h4 := HS0.out; have h5 := HQ.out; first | omega | (have h6 : _ ≤ b := h; simp at h6; omega))))); clear hr; (first | (replace BK := hid (BK.out.kept (below_trans (by exact blBy) hbx))) | (with_reducible have BK := hid ((Blk.new _ 27 #[.slice ua a.us.length uc, .slice ub b.us.length ud]).kept hbx)) | (with_reducible have BK := hid (((Blk.new _ 27 #[.slice ua a.us.length uc, .slice ub b.us.length ud]).kept (below_drew1 _)).kept hbx)) | skip); replace HW := hid (bl_then HW.out (below_trans (by exact blBy) hbx)); replace BR := hid (BR.out.kept (below_trans (by exact blBy) hbx)); replace xr := BR.out.cellF; replace yr := BR.out.frz; replace zr := BR.out.lt; clear hbx) | (go_at_call 58; refine (concatEntry _ (fun b => Z b ∧ b < w.heap.size) [(ua, uc, a.us), (ub, ud, b.us)] _ (by first | exact BK.out.kept (by exact blBy) | exact Blk.new _ _ _ | exact (Blk.new _ _ _).kept (below_drew1 _)) (rows2 (HUA.out _ (bl_then HB0.out (by have := HW.out; exact blBy))) (HUB.out _ (bl_then HB0.out (by have := HW.out; exact blBy)))) (by rw [HRW]; exact HUN.out) (by simp)).mono ?_; rintro e w3 ⟨ea, ez, rfl, ho, hbx⟩; rw [HRW] at ho ⊢; have HC : Hid (EnsR w3 (fun b => (Z b ∧ b < w.heap.size) ∨ q4 < b) (.slice ea us.length ez) us) := hid (EnsR.go (ho.row famE HUN.out) (Keep.refl (fun _ => True) _) (fun _ _ => trivial) (fun b hz => hz.elim Or.inl (fun h => Or.inr (by have h3 := HW.out.size; have h4 := HS0.out; have h5 := HQ.out; first | omega | (have h6 : _ ≤ b := h; simp at h6; omega))))); clear ho; replace HU := hid (FlsR.kept HU.out (below_trans (by exact blBy) hbx)); replace HW := hid (bl_then HW.out (below_trans (by exact blBy) hbx)); replace BR := hid (BR.out.kept (below_trans (by exact blBy) hbx)); replace xr := BR.out.cellF; replace yr := BR.out.frz; replace zr := BR.out.lt; clear hbx))
  all_goals
    have HA := hid fun (x1 y1 : Value) => msg_ans (q := q4) hq4' (bl_then HB0.out HW.out) HU.out HC.out x1 y1
    go_wp2
    exact bodyPost_ret (v := .agg #[.slice va (mergM l (d + 1) x a b).fs.length vc, .slice ea us.length ez]) (by simp [results, Tryz.results35, go_sem, xr, yr, zr]) rfl ⟨[.slice va (mergM l (d + 1) x a b).fs.length vc, .slice ea us.length ez], rfl, (by rw [HUE.out]; exact (HA.out _ _).1), (HA.out _ _).2⟩
theorem mergedT (l : List TV) (hg : goodB l = true) : ∀ d, MgdP l d
  | 0 => fun w ta tc h x hx Z cs ds a b ha => absurd ha (by simp [MsgE])
  | d + 1 => mergedStep l hg d (mergedT l hg d)
theorem take_last {α : Type} {l : List α} {P : α → Bool} {j : Nat} (hj : j < l.length) (h : (l.take j).all P = true) (g : P l[j] = true) : (l.take (j + 1)).all P = true := by
  rw [List.take_succ_eq_append_getElem hj, List.all_append, h]
  simp [g]
theorem tAtOk (w : World) (l : List TV) (ta : Option Addr) (tc : Nat) (h : TbR w (.slice ta l.length tc) l) (hk : ∀ x ∈ l, OkV x) (mx : Int) (hm0 : w.cell? ⟨0, 0, none⟩ = some (.int .i64 mx)) (k : Nat) (hkl : k < l.length) (hg : goodB l = true) (he : l[k].t.enum = false) (Z : Nat → Prop) (d : Nat) (ms : List CM) (la : Option Addr) (lc : Nat) (hm : MgsR w Z d (.slice la ms.length lc) ms) (hall : ms.all (keptB l d l[k]) = true) : Calls Tryz.prog 22 #[.agg #[.slice ta l.length tc], .int .i64 (k : Int), .slice la ms.length lc] w fun e w' => e = .returned (.tuple #[.agg (cTV l[k]).toArray, .int .i64 0]) ∧ Below w.heap.size w w' := by
  have HTY := hid fun W (hW : Below w.heap.size w W) cs m (hm : MsgE W Z d cs m) => typedT W l ta tc (h.kept hW) hk mx (cell_below hm0 hW) k hkl hg he Z d cs m hm
  have HMS := hid fun W (hW : Below w.heap.size w W) => MgsR.kept hm hW
  obtain ⟨_, _, -, lm⟩ := RowM.sl hm
  have mU : (ms.length : Int) ≤ 9223372036854775807 := by omega
  obtain ⟨tb, tof, rfl, hbl, d0, d1, d2, d3, d4, d5⟩ := row6 h.row hkl
  obtain ⟨a1, c1, a2, c2, a3, c3, a4, c4, e1, e2, e3, e4⟩ := shT_of (h.ty l[k] (List.getElem_mem hkl))
  have ec : cTV l[k] = [.string (strOfNums l[k].t.name), .bool l[k].t.enum, .slice a1 l[k].t.fs.length c1, .slice a2 l[k].t.os.length c2, .slice a3 l[k].t.ss.length c3, .slice a4 l[k].t.rs.length c4] := by unfold cTV; rw [e1, e2, e3, e4]
  rw [e1] at d2
  rw [e2] at d3
  rw [e3] at d4
  rw [e4] at d5
  rw [ec]
  have HAL := hid (List.all_eq_true.1 hall)
  have kk : (k : Int) < (l.length : Int) := by omega
  clear h hk hm0 hg he hm hall e1 e2 e3 e4 ec
  have HGE : Hid (∀ m ∈ ms, keptB l d l[k] m = true) := hid HAL.out
  generalize l[k] = x at *
  go_enter Tryz.func22, Tryz.ntmps22
  go_wp2
  generalize hw0 : World.alloc (World.alloc w _) _ = w0
  have HB0 : Hid (Below w.heap.size w w0) := hid (hw0 ▸ (by exact blBy))
  have HS0 : Hid (w0.heap.size = w.heap.size + 2) := hid (by rw [← hw0]; simp)
  have BT : Hid (Blk w0 w.heap.size 24 #[.slice (some ⟨tb, tof, none⟩) l.length tc]) := hid (hw0 ▸ ((Blk.new _ _ _).kept (below_alloc _)))
  have BR : Hid (Blk w0 (w.heap.size + 1) 63 #[.string ⟨#[]⟩, .bool false, .slice none 0 0, .slice none 0 0, .slice none 0 0, .slice none 0 0]) := hid (hw0 ▸ (Blk.newAt (by simp)))
  clear hw0
  generalize hq1 : w.heap.size + 1 = q1 at *
  have hq1' : w.heap.size ≤ q1 := by omega
  clear hq1
  replace d0 := cell_below d0 HB0.out
  replace d1 := cell_below d1 HB0.out
  replace d2 := cell_below d2 HB0.out
  replace d3 := cell_below d3 HB0.out
  replace d4 := cell_below d4 HB0.out
  replace d5 := cell_below d5 HB0.out
  go_loopw [14] (fun s14 wr => ∃ (j : Nat), s14 = .int .i64 (j : Int) ∧ j ≤ ms.length ∧ Hid (Below w0.heap.size w0 wr)) (fun s14 wr => ms.length - numAt wr s14)
  case atStart => exact ⟨0, rfl, by omega, hid (Below.refl _ _)⟩
  case round =>
    obtain ⟨j, rfl, hj, HB⟩ := hrel
    by_cases hlt : j < ms.length
    ·
      have k2 : (j : Int) < (ms.length : Int) := by omega
      obtain ⟨b1, o1, cs, rfl, -, hb1, hl1, hm1, hc1⟩ := RowM.at (HMS.out _ HB0.out) (by decide) hlt
      obtain ⟨fa, fc, ua, uc, rfl, -⟩ := msg_openD hm1
      have HM1 := hid hm1
      have c0 := cell_below (hc1 0 _ rfl) HB.out
      have c1' := cell_below (hc1 1 _ rfl) HB.out
      simp only [Nat.add_zero] at c0 c1'
      have BT1 := hid (BT.out.kept HB.out)
      have BR1 := hid (BR.out.kept HB.out)
      have xt := BT1.out.cellF
      have zt := BT1.out.lt
      clear hm1 hc1
      have HKJ := hid (HGE.out ms[j] (List.getElem_mem hlt))
      generalize ms[j] = m at *
      go_wp2_with fail
      refine (HTY.out _ (bl_then HB0.out (bl_then HB.out (by exact blBy))) _ m (HM1.out.kept (bl_then HB.out (by exact blBy)))).mono ?_
      rintro e w1 ⟨rfl, hbx⟩
      rw [HKJ.out]
      have HB1 := hid (bl_then HB.out (below_trans (by exact blBy) hbx))
      clear hbx xt zt c0 c1'
      go_wp2
      exact ⟨⟨j + 1, by simp, by omega, HB1⟩, by simp [numAt]; omega⟩
    · have k2 : ¬ (j : Int) < (ms.length : Int) := by omega
      replace d0 := cell_below d0 HB.out
      replace d1 := cell_below d1 HB.out
      replace d2 := cell_below d2 HB.out
      replace d3 := cell_below d3 HB.out
      replace d4 := cell_below d4 HB.out
      replace d5 := cell_below d5 HB.out
      have BT1 := hid (BT.out.kept HB.out)
      have BR1 := hid (BR.out.kept HB.out)
      have xt := BT1.out.cellF
      have zt := BT1.out.lt
      have xr := BR1.out.cellF
      have yr := BR1.out.frz
      have zr := BR1.out.lt
      have HBF := hid (bl_then HB0.out HB.out)
      go_wp2
      exact bodyPost_ret (v := .tuple #[.agg #[.string (strOfNums x.t.name), .bool x.t.enum, .slice a1 x.t.fs.length c1, .slice a2 x.t.os.length c2, .slice a3 x.t.ss.length c3, .slice a4 x.t.rs.length c4], .int .i64 0]) (by simp [results, Tryz.results22, go_sem, xr, yr, zr]) rfl ⟨rfl, by have := HBF.out; exact blBy⟩
theorem tAtBad (w : World) (l : List TV) (ta : Option Addr) (tc : Nat) (h : TbR w (.slice ta l.length tc) l) (hk : ∀ x ∈ l, OkV x) (mx : Int) (hm0 : w.cell? ⟨0, 0, none⟩ = some (.int .i64 mx)) (k : Nat) (hkl : k < l.length) (hg : goodB l = true) (he : l[k].t.enum = false) (Z : Nat → Prop) (d : Nat) (ms : List CM) (la : Option Addr) (lc : Nat) (hm : MgsR w Z d (.slice la ms.length lc) ms) (hall : ms.all (keptB l d l[k]) = false) : Calls Tryz.prog 22 #[.agg #[.slice ta l.length tc], .int .i64 (k : Int), .slice la ms.length lc] w fun e w' => e = .returned (.tuple #[.agg #[.string ⟨#[]⟩, .bool false, .slice none 0 0, .slice none 0 0, .slice none 0 0, .slice none 0 0], .int .i64 10]) ∧ Below w.heap.size w w' := by
  have HTY := hid fun W (hW : Below w.heap.size w W) cs m (hm : MsgE W Z d cs m) => typedT W l ta tc (h.kept hW) hk mx (cell_below hm0 hW) k hkl hg he Z d cs m hm
  have HMS := hid fun W (hW : Below w.heap.size w W) => MgsR.kept hm hW
  obtain ⟨_, _, -, lm⟩ := RowM.sl hm
  have mU : (ms.length : Int) ≤ 9223372036854775807 := by omega
  have HAL := hid hall
  clear h hk hm0 hg he hm hall
  generalize l[k] = x at *
  go_enter Tryz.func22, Tryz.ntmps22
  go_wp2
  generalize hw0 : World.alloc (World.alloc w _) _ = w0
  have HB0 : Hid (Below w.heap.size w w0) := hid (hw0 ▸ (by exact blBy))
  have HS0 : Hid (w0.heap.size = w.heap.size + 2) := hid (by rw [← hw0]; simp)
  have BT : Hid (Blk w0 w.heap.size 24 #[.slice ta l.length tc]) := hid (hw0 ▸ ((Blk.new _ _ _).kept (below_alloc _)))
  have BR : Hid (Blk w0 (w.heap.size + 1) 63 #[.string ⟨#[]⟩, .bool false, .slice none 0 0, .slice none 0 0, .slice none 0 0, .slice none 0 0]) := hid (hw0 ▸ (Blk.newAt (by simp)))
  clear hw0
  generalize hq1 : w.heap.size + 1 = q1 at *
  have hq1' : w.heap.size ≤ q1 := by omega
  clear hq1
  go_loopw [14] (fun s14 wr => ∃ (j : Nat), s14 = .int .i64 (j : Int) ∧ j ≤ ms.length ∧ Hid ((ms.take j).all (keptB l d x) = true) ∧ Hid (Below w0.heap.size w0 wr)) (fun s14 wr => ms.length - numAt wr s14)
  case atStart => exact ⟨0, rfl, by omega, hid rfl, hid (Below.refl _ _)⟩
  case round =>
    obtain ⟨j, rfl, hj, HTA, HB⟩ := hrel
    by_cases hlt : j < ms.length
    ·
      have k2 : (j : Int) < (ms.length : Int) := by omega
      obtain ⟨b1, o1, cs, rfl, -, hb1, hl1, hm1, hc1⟩ := RowM.at (HMS.out _ HB0.out) (by decide) hlt
      obtain ⟨fa, fc, ua, uc, rfl, -⟩ := msg_openD hm1
      have HM1 := hid hm1
      have c0 := cell_below (hc1 0 _ rfl) HB.out
      have c1' := cell_below (hc1 1 _ rfl) HB.out
      simp only [Nat.add_zero] at c0 c1'
      have BT1 := hid (BT.out.kept HB.out)
      have BR1 := hid (BR.out.kept HB.out)
      have xt := BT1.out.cellF
      have zt := BT1.out.lt
      clear hm1 hc1
      have HTL := hid (take_last (P := keptB l d x) hlt HTA.out)
      generalize ms[j] = m at *
      go_wp2_with fail
      refine (HTY.out _ (bl_then HB0.out (bl_then HB.out (by exact blBy))) _ m (HM1.out.kept (bl_then HB.out (by exact blBy)))).mono ?_
      rintro e w1 ⟨rfl, hbx⟩
      have HB1 := hid (bl_then HB.out (below_trans (by exact blBy) hbx))
      have BR2 := hid ((BR1.out.kept (below_alloc _)).kept hbx)
      clear hbx xt zt c0 c1'
      cases hq : keptB l d x m with
      | true =>
        have HT2 := hid (HTL.out hq)
        go_wp2
        exact ⟨⟨j + 1, by simp, by omega, HT2, HB1⟩, by simp [numAt]; omega⟩
      | false =>
        have xr := BR2.out.cellF
        have yr := BR2.out.frz
        have zr := BR2.out.lt
        have HBF := hid (bl_then HB0.out HB1.out)
        clear HTL
        go_wp2
        exact bodyPost_ret (v := .tuple #[.agg #[.string ⟨#[]⟩, .bool false, .slice none 0 0, .slice none 0 0, .slice none 0 0, .slice none 0 0], .int .i64 10]) (by simp [results, Tryz.results22, go_sem, xr, yr, zr]) rfl ⟨rfl, by have := HBF.out; exact blBy⟩
    · exfalso
      have e1 : ms.take j = ms := List.take_of_length_le (by omega)
      have := HTA.out
      rw [e1, HAL.out] at this
      cases this
theorem tAtNo (w : World) (l : List TV) (ta : Option Addr) (tc : Nat) (h : TbR w (.slice ta l.length tc) l) (hk : ∀ x ∈ l, OkV x) (mx : Int) (hm0 : w.cell? ⟨0, 0, none⟩ = some (.int .i64 mx)) (idx : Int) (hno : isB l idx false = false) (fa ua : Option Addr) (fn fc un uc : Nat) (p n : Nat) (hn : 1 ≤ n) (hn2 : n ≤ 100) (c0 : w.cell? ⟨p, 0, none⟩ = some (.slice fa fn fc)) (c1' : w.cell? ⟨p, 1, none⟩ = some (.slice ua un uc)) : Calls Tryz.prog 22 #[.agg #[.slice ta l.length tc], .int .i64 idx, .slice (some ⟨p, 0, none⟩) n n] w fun e w' => e = .returned (.tuple #[.agg #[.string ⟨#[]⟩, .bool false, .slice none 0 0, .slice none 0 0, .slice none 0 0, .slice none 0 0], .int .i64 18]) ∧ Below w.heap.size w w' := by
  have HTY := hid fun W (hW : Below w.heap.size w W) => typedNo W l ta tc (h.kept hW) hk mx (cell_below hm0 hW) idx hno fa ua fn fc un uc
  have mU : (n : Int) ≤ 9223372036854775807 := by omega
  have k2 : ((0 : Int) < (n : Int)) = True := eq_true (by omega)
  have k2' : (0 < n) = True := eq_true (by omega)
  clear h hk hm0 hno
  go_enter Tryz.func22, Tryz.ntmps22
  go_wp2
  generalize hw0 : World.alloc (World.alloc w _) _ = w0
  have HB0 : Hid (Below w.heap.size w w0) := hid (hw0 ▸ (by exact blBy))
  have HS0 : Hid (w0.heap.size = w.heap.size + 2) := hid (by rw [← hw0]; simp)
  have BT : Hid (Blk w0 w.heap.size 24 #[.slice ta l.length tc]) := hid (hw0 ▸ ((Blk.new _ _ _).kept (below_alloc _)))
  have BR : Hid (Blk w0 (w.heap.size + 1) 63 #[.string ⟨#[]⟩, .bool false, .slice none 0 0, .slice none 0 0, .slice none 0 0, .slice none 0 0]) := hid (hw0 ▸ (Blk.newAt (by simp)))
  clear hw0
  generalize hq1 : w.heap.size + 1 = q1 at *
  have hq1' : w.heap.size ≤ q1 := by omega
  clear hq1
  replace c0 := cell_below c0 HB0.out
  replace c1' := cell_below c1' HB0.out
  go_loopw [14] (fun s14 wr => s14 = .int .i64 0 ∧ wr = w0) (fun s14 wr => 0)
  case atStart => exact ⟨rfl, rfl⟩
  case round =>
    obtain ⟨rfl, rfl⟩ := hrel
    have xt := BT.out.cellF
    have zt := BT.out.lt
    go_wp2_with fail
    refine (HTY.out _ (bl_then HB0.out (by exact blBy))).mono ?_
    rintro e w1 ⟨rfl, hbx⟩
    have BR2 := hid ((BR.out.kept (below_alloc _)).kept hbx)
    have HBF : Hid (Below w.heap.size w w1) := hid (bl_then HB0.out (below_trans (by exact blBy) hbx))
    have xr := BR2.out.cellF
    have yr := BR2.out.frz
    have zr := BR2.out.lt
    clear hbx xt zt c0 c1'
    go_wp2
    exact bodyPost_ret (v := .tuple #[.agg #[.string ⟨#[]⟩, .bool false, .slice none 0 0, .slice none 0 0, .slice none 0 0, .slice none 0 0], .int .i64 18]) (by simp [results, Tryz.results22, go_sem, xr, yr, zr]) rfl ⟨rfl, by have := HBF.out; exact blBy⟩
theorem mgs2 {w : World} {Z : Nat → Prop} {d p : Nat} {x1 y1 x2 y2 : Value} {a b : CM} (ha : MsgE w Z d [x1, y1] a) (hb : MsgE w Z d [x2, y2] b) (hz : Z p) (hp : Blk w p 29 #[x1, y1, x2, y2]) : MgsR w Z d (.slice (some ⟨p, 0, none⟩) [a, b].length 2) [a, b] := by
  refine ⟨[⟨[x1, y1], rfl⟩, ⟨[x2, y2], rfl⟩], ⟨_, _, rfl, by simp, by simp, by omega, .inr ⟨p, 0, rfl, hz, fun j u hu => ?_⟩⟩, rfl, by simp, fun j t x ht hx => ?_⟩
  · rw [Nat.zero_add]
    exact hp.cell j u (by simpa using hu)
  · match j, ht, hx with
    | 0, ht, hx => simp at ht hx; subst ht hx; exact ha
    | 1, ht, hx => simp at ht hx; subst ht hx; exact hb
    | j + 2, ht, hx => simp at ht
theorem mergeOk (w : World) (l : List TV) (ta : Option Addr) (tc : Nat) (h : TbR w (.slice ta l.length tc) l) (hk : ∀ x ∈ l, OkV x) (mx : Int) (hm0 : w.cell? ⟨0, 0, none⟩ = some (.int .i64 mx)) (k : Nat) (hkl : k < l.length) (hg : goodB l = true) (he : l[k].t.enum = false) (Z : Nat → Prop) (d : Nat) (cs ds : List Value) (a b : CM) (ha : MsgE w Z d cs a) (hb : MsgE w Z d ds b) (ka : keptB l d l[k] a = true) (kb : keptB l d l[k] b = true) (L1 L2 : Nat) (sa : sizM L1 d a) (sb : sizM L2 d b) (hL : L1 + L2 ≤ 4000000) : Calls Tryz.prog 20 #[.agg #[.slice ta l.length tc], .int .i64 (k : Int), .agg cs.toArray, .agg ds.toArray] w fun e w' => ∃ es : List Value, e = .returned (.tuple #[.agg es.toArray, .int .i64 0]) ∧ MsgE w' (w.heap.size ≤ ·) d es (mergM l d l[k] a b) ∧ Below w.heap.size w w' := by
  have HMG := hid fun W (hW : Below w.heap.size w W) => mergedT l hg d W ta tc (h.kept hW) l[k] (List.getElem_mem hkl) Z cs ds a b (ha.kept hW) (hb.kept hW) ka kb L1 L2 sa sb hL
  obtain ⟨fa, fc, ua, uc, rfl, -⟩ := msg_openD ha
  obtain ⟨fb, fd, ub, ud, rfl, -⟩ := msg_openD hb
  have HTA := hid fun W (hW : Below w.heap.size w W) p (hz : w.heap.size ≤ p) (hp : Blk W p 29 #[.slice fa a.fs.length fc, .slice ua a.us.length uc, .slice fb b.fs.length fd, .slice ub b.us.length ud]) => tAtOk W l ta tc (h.kept hW) hk mx (cell_below hm0 hW) k hkl hg he (fun b => Z b ∨ w.heap.size ≤ b) d [a, b] (some ⟨p, 0, none⟩) 2 (mgs2 (MsgE.go (keepT hW) (fun _ _ => trivial) (fun b h => Or.inl h) d _ _ ha) (MsgE.go (keepT hW) (fun _ _ => trivial) (fun b h => Or.inl h) d _ _ hb) (Or.inr hz) hp) (by simp [ka, kb])
  obtain ⟨a1, c1, a2, c2, a3, c3, a4, c4, e1, e2, e3, e4⟩ := shT_of (h.ty l[k] (List.getElem_mem hkl))
  have ec : cTV l[k] = [.string (strOfNums l[k].t.name), .bool l[k].t.enum, .slice a1 l[k].t.fs.length c1, .slice a2 l[k].t.os.length c2, .slice a3 l[k].t.ss.length c3, .slice a4 l[k].t.rs.length c4] := by unfold cTV; rw [e1, e2, e3, e4]
  rw [ec] at HMG HTA
  clear h hk hm0 hg he ha hb ka kb sa sb hL e1 e2 e3 e4 ec
  generalize mergM l d l[k] a b = mm at *
  generalize l[k] = x at *
  go_enter Tryz.func20, Tryz.ntmps20
  go_wp2_with fail
  refine (HTA.out _ (by exact blBy) _ ?_ (Blk.newAt (by simp))).mono ?_
  · omega
  rintro e w1 ⟨rfl, hbx⟩
  have BT : Hid (Blk w1 w.heap.size 24 #[.slice ta l.length tc]) := hid ((((((Blk.new _ _ _).kept (below_alloc _)).kept (below_alloc _)).kept (below_alloc _)).kept (below_alloc _)).kept hbx)
  have BA : Hid (Blk w1 (w.heap.size + 1) 29 #[.slice fa a.fs.length fc, .slice ua a.us.length uc]) := hid (((((Blk.newAt (by simp)).kept (below_alloc _)).kept (below_alloc _)).kept (below_alloc _)).kept hbx)
  have BB : Hid (Blk w1 (w.heap.size + 1 + 1) 29 #[.slice fb b.fs.length fd, .slice ub b.us.length ud]) := hid ((((Blk.newAt (by simp)).kept (below_alloc _)).kept (below_alloc _)).kept hbx)
  have BR : Hid (Blk w1 (w.heap.size + 1 + 1 + 1) 29 #[.slice none 0 0, .slice none 0 0]) := hid (((Blk.newAt (by simp)).kept (below_alloc _)).kept hbx)
  have HB1 : Hid (Below w.heap.size w w1) := hid (bl_then (by exact blBy) hbx)
  have HS1 : Hid (w.heap.size + 5 ≤ w1.heap.size) := hid (by have := hbx.size; simpa using this)
  clear hbx
  generalize hq1 : w.heap.size + 1 = q1 at *
  generalize hq2 : q1 + 1 = q2 at *
  generalize hq3 : q2 + 1 = q3 at *
  have HQ : Hid (q1 = w.heap.size + 1 ∧ q2 = w.heap.size + 2 ∧ q3 = w.heap.size + 3) := hid (by omega)
  have hq3' : w.heap.size ≤ q3 := by omega
  clear hq1 hq2 hq3
  have xr := BR.out.cellF
  have yr := BR.out.frz
  have zr := BR.out.lt
  have xt := BT.out.cellF
  have zt := BT.out.lt
  have xa := BA.out.cellF
  have za := BA.out.lt
  have xb := BB.out.cellF
  have zb := BB.out.lt
  go_wp2_with fail
  refine (HMG.out _ (by have := HB1.out; exact blBy)).mono ?_
  rintro e w2 ⟨es, rfl, hm, hbx⟩
  have BR2 := hid ((BR.out.kept (below_alloc _)).kept hbx)
  have HB2 : Hid (Below w.heap.size w w2) := hid (bl_then (by have := HB1.out; exact blBy) hbx)
  have HS2 : Hid (w.heap.size + 5 ≤ w2.heap.size) := hid (by have h3 := HS1.out; have h4 := hbx.size; simp at h4; omega)
  have HM := hid hm
  clear hm hbx xt zt xa za xb zb xr yr zr BT BA BB BR HB1 HS1
  go_wp2_with fail
  refine (copyT d _ _ _ mm HM.out).mono ?_
  rintro e w3 ⟨ts, rfl, hm, hbx⟩
  have BR3 := hid (BR2.out.kept hbx)
  have HB3 : Hid (Below w.heap.size w w3) := hid (bl_then HB2.out hbx)
  have HN : Hid (MsgE w3 (q3 < ·) d ts mm) := hid (MsgE.go (Keep.refl (fun _ => True) _) (fun _ _ => trivial) (fun b (h : _ ≤ b) => by have h3 := HS2.out; have h5 := HQ.out; show q3 < b; omega) d _ _ hm)
  clear hm hbx BR2 HM HB2
  have xr := BR3.out.cellF
  have yr := BR3.out.frz
  have zr := BR3.out.lt
  obtain ⟨va, vc, va', vc', rfl, -⟩ := msg_openD HN.out
  have HF := hid fun (x1 y1 : Value) => (show MsgE ((w3.setCell ⟨q3, 0, none⟩ x1).setCell ⟨q3, 1, none⟩ y1) (w.heap.size ≤ ·) d _ mm from MsgE.go (keepR2 q3 x1 y1) (fun b (hb : q3 < b) => by show b ≠ q3; omega) (fun b (hb : q3 < b) => by show w.heap.size ≤ b; omega) d _ _ HN.out)
  go_wp2
  exact bodyPost_ret (v := .tuple #[.agg #[.slice va mm.fs.length vc, .slice va' mm.us.length vc'], .int .i64 0]) (by simp [results, Tryz.results20, go_sem, xr, yr, zr]) rfl ⟨[.slice va mm.fs.length vc, .slice va' mm.us.length vc'], rfl, HF.out _ _, by have := HB3.out; exact blBy⟩
end Go.Proofs.YtmiemocdjkeefaaGreatDoor
