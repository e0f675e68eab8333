/-
  Two messages merged.
  Merge: of what is typed, of what is not.
  The field at a path: what the program answers, of typed messages.
-/
import Derived.Test.YtkifjpaoncjokaaGreatDoorCGO
import Derived.Test.YtkifjpaoncjokaaGreatDoorCCA
import Derived.Test.YtkifjpaoncjokaaGreatDoorCw8G
import Derived.Test.YtkifjpaoncjokaaGreatDoorCBN
namespace Go.Proofs.YtkifjpaoncjokaaGreatDoor
open Go.RowKit
set_option maxRecDepth 1000000
set_option linter.unusedVariables false
set_option linter.unusedSimpArgs false
set_option maxHeartbeats 4000000
theorem keepR2 {w : World} (p : Nat) (x y : Value) : Keep (fun b => b ≠ p) w ((w.setCell ⟨p, 0, none⟩ x).setCell ⟨p, 1, none⟩ y) := (Keep.setCell _ _ _ (by simp)).trans (Keep.setCell _ _ _ (by simp))
theorem msg_ans {d q : Nat} {w W : World} {Z : Nat → Prop} {fv uv : Value} {fs : List (CF CM)} {us : List CE} (hq : w.heap.size ≤ q) (hb : Below w.heap.size w W) (h : FlsR W (fun b => (Z b ∧ b < w.heap.size) ∨ q < b) d fv fs) (g : EnsR W (fun b => (Z b ∧ b < w.heap.size) ∨ q < b) uv us) (x y : Value) : MsgE ((W.setCell ⟨q, 0, none⟩ x).setCell ⟨q, 1, none⟩ y) (fun b => Z b ∨ w.heap.size ≤ b) (d + 1) [fv, uv] (CM.mk fs us) ∧ Below w.heap.size w ((W.setCell ⟨q, 0, none⟩ x).setCell ⟨q, 1, none⟩ y) :=
  ⟨⟨_, _, rfl, FlsR.go h (keepR2 q x y) (fun b hb => by rcases hb with hb | hb <;> (show b ≠ q) <;> omega) (fun b hb => hb.elim (fun h => Or.inl h.1) (fun h => Or.inr (by omega))), EnsR.go g (keepR2 q x y) (fun b hb => by rcases hb with hb | hb <;> (show b ≠ q) <;> omega) (fun b hb => hb.elim (fun h => Or.inl h.1) (fun h => Or.inr (by omega)))⟩, Below.trans hb ((keepR2 q x y).below hb.size (fun k hk => by show k ≠ q; omega))⟩
theorem merged2T (l : List TV) (mg : TV → CM → CM → CM) (d : Nat) (w : World) (ta : Option Addr) (tc : Nat) (h : TbR w (.slice ta l.length tc) l) (hg : goodB l = true) (x : TV) (hx : x ∈ l) (Z : Nat → Prop) (cs ds : List Value) (a b : CF CM) (ha : FmF d w Z cs a) (hb : FmF d w Z ds b) (hh : hasF x.t.fs a.num = true) (tya : fieldB l (ownF x.t.fs a.num) a = true) (tyb : fieldB l (ownF x.t.fs a.num) b = true) (hs1 : a.ks.length + b.ks.length ≤ 4000000) (hs2 : a.vs.length + b.vs.length ≤ 4000000)
    (hM : (ownF x.t.fs a.num).lab = 1 → (ownF x.t.fs a.num).kind = 17 → ∀ (W : World), Below w.heap.size w W → ∀ ys zs : List Value, MsgE W (fun b => Z b ∧ b < w.heap.size) d ys (wM a) → MsgE W (fun b => Z b ∧ b < w.heap.size) d zs (wM b) → Calls Tryz.prog 35 #[.slice ta l.length tc, .agg (cTV (blwB l x a)).toArray, .agg ys.toArray, .agg zs.toArray] W fun e w' => ∃ es : List Value, e = .returned (.agg es.toArray) ∧ MsgE w' (fun b => (Z b ∧ b < w.heap.size) ∨ W.heap.size ≤ b) d es (mg (blwB l x a) (wM a) (wM b)) ∧ Below W.heap.size W w')
    (p q : Nat) (hp : Blk w p 63 (cTV x).toArray) (hq : Blk w q 75 #[.slice ta l.length tc]) :
    Calls Tryz.prog 54 #[.agg cs.toArray, .agg ds.toArray, .pointer (some ⟨p, 0, none⟩), .pointer (some ⟨q, 0, none⟩)] w fun e w' => ∃ es : List Value, e = .returned (.agg es.toArray) ∧ FmF d w' (fun b => Z b ∨ w.heap.size ≤ b) es (bothF l mg x a b) ∧ Below w.heap.size w w' := by
  obtain ⟨a1, c1, a2, c2, a3, c3, a4, c4, e1, e2, e3, e4⟩ := shT_of (h.ty x hx)
  have ec : cTV x = [.string (strOfNums x.t.name), .bool x.t.enum, .slice a1 x.t.fs.length c1, .slice a2 x.t.os.length c2, .slice a3 x.t.ss.length c3, .slice a4 x.t.rs.length c4] := by unfold cTV; rw [e1, e2, e3, e4]
  have HFI := hid fun W (hW : Below w.heap.size w W) (n : Int) => findT x.t.fs n W a1 c1 (by rw [← e1]; exact ((h.ty x hx).kept hW).f) (good_rise hg hx).1 (good_rise hg hx).2
  have HBO := hid fun W (hW : Below w.heap.size w W) => bothT l mg d W ta tc (h.kept hW) hg x hx (fun b => Z b ∧ b < w.heap.size) cs ds a b (FldE.kept (Fam.old (famF d) ha) hW) (FldE.kept (Fam.old (famF d) hb) hW) hh tya tyb hs1 hs2 (fun g1 g2 W' hW' ys zs m1 m2 => (hM g1 g2 W' (below_trans hW hW') ys zs (MsgE.go (Keep.refl (fun _ => True) _) (fun _ _ => trivial) (fun b h => h.1) d _ _ m1) (MsgE.go (Keep.refl (fun _ => True) _) (fun _ _ => trivial) (fun b h => h.1) d _ _ m2)).mono fun e w' ⟨es, he, hm, hb⟩ => ⟨es, he, MsgE.go (Keep.refl (fun _ => True) _) (fun _ _ => trivial) (fun b h => h.elim (fun g => Or.inl ⟨g, Nat.lt_of_lt_of_le g.2 hW.size⟩) Or.inr) d _ _ hm, hb⟩)
  obtain ⟨ka, kc, va, vc, rfl, -⟩ := fld_open ha
  obtain ⟨kb, kd, vb, vd, rfl, -⟩ := fld_open hb
  have hp' : Blk w p 63 #[.string (strOfNums x.t.name), .bool x.t.enum, .slice a1 x.t.fs.length c1, .slice a2 x.t.os.length c2, .slice a3 x.t.ss.length c3, .slice a4 x.t.rs.length c4] := by rw [ec] at hp; exact hp
  have xp := hp'.cellF
  have zp := hp'.lt
  have BQ := hid hq
  have BP := hid hp'
  clear e1 e2 e3 e4 ec ha hb tya tyb hs1 hs2 hM hp hp' hq h
  go_enter Tryz.func54, Tryz.ntmps54
  go_upto_region 1 with fail
  generalize hw0 : World.alloc (World.alloc (World.alloc w _) _) _ = w9
  have HB9 : Hid (Below w.heap.size w w9) := hid (hw0 ▸ (by exact blBy))
  have HS9 : Hid (w9.heap.size = w.heap.size + 3) := hid (by rw [← hw0]; simp)
  have BA9 : Hid (Blk w9 w.heap.size 33 #[.int .i64 a.num, .slice ka a.ks.length kc, .slice va a.vs.length vc]) := hid (hw0 ▸ (((Blk.new _ _ _).kept (below_alloc _)).kept (below_alloc _)))
  have BB9 : Hid (Blk w9 (w.heap.size + 1) 33 #[.int .i64 b.num, .slice kb b.ks.length kd, .slice vb b.vs.length vd]) := hid (hw0 ▸ ((Blk.newAt (by simp)).kept (below_alloc _)))
  have BR9 : Hid (Blk w9 (w.heap.size + 1 + 1) 33 #[.int .i64 0, .slice none 0 0, .slice none 0 0]) := hid (hw0 ▸ (Blk.newAt (by simp)))
  clear hw0
  replace xp := (BP.out.kept HB9.out).cellF
  replace zp := (BP.out.kept HB9.out).lt
  have xa := BA9.out.cellF
  have za := BA9.out.lt
  go_wp2_with fail
  refine (HFI.out _ (by have := HB9.out; exact blBy) _).mono ?_
  rintro e w0 ⟨rfl, hbx⟩
  have BA := hid (BA9.out.kept hbx)
  have BB := hid (BB9.out.kept hbx)
  have BR := hid (BR9.out.kept hbx)
  have HB0 : Hid (Below w.heap.size w w0) := hid (bl_then HB9.out hbx)
  have HS0 : Hid (w.heap.size + 3 ≤ w0.heap.size) := hid (by have := hbx.size; have := HS9.out; omega)
  clear hbx xp zp xa za BA9 BB9 BR9 HB9 HS9
  unfold tFT
  have xq := (BQ.out.kept HB0.out).cellF
  have zq := (BQ.out.kept HB0.out).lt
  have xa := BA.out.cellF
  have za := BA.out.lt
  have xb := BB.out.cellF
  have zb := BB.out.lt
  go_wp2_with fail
  refine (HBO.out _ (by have := HB0.out; exact blBy)).mono ?_
  rintro e w1 ⟨es, rfl, hes, hbx⟩
  have BR1 := hid ((BR.out.kept (below_alloc _)).kept hbx)
  have HB1 : Hid (Below w.heap.size w w1) := hid (bl_then (by have := HB0.out; exact blBy) hbx)
  have HE : Hid (FmF d w1 (fun b => (Z b ∧ b < w.heap.size) ∨ w.heap.size + 1 + 1 < b) es (bothF l mg x a b)) := hid (Fam.go (famF d) hes (Keep.refl (fun _ => True) _) (fun _ _ => trivial) (fun b hb => hb.elim Or.inl (fun h => Or.inr (by have h2 := HS0.out; simp at h; omega))))
  clear hes hbx xq zq xa za xb zb
  obtain ⟨ra, rc, sa, sc, rfl, -⟩ := fld_open HE.out
  have xr := BR1.out.cellF
  have yr := BR1.out.frz
  have zr := BR1.out.lt
  have HA := hid fun (x y z : Value) => fld_ans (q := w.heap.size + 1 + 1) (by omega) HB1.out HE.out x y z
  go_wp2
  exact bodyPost_ret (v := .agg #[.int .i64 (bothF l mg x a b).num, .slice ra (bothF l mg x a b).ks.length rc, .slice sa (bothF l mg x a b).vs.length sc]) (by simp [results, Tryz.results54, go_sem, xr, yr, zr]) rfl ⟨_, rfl, (HA.out _ _ _).1, (HA.out _ _ _).2⟩
/-- What is said of merged, so deep. -/
def MgdP (l : List TV) (d : Nat) : Prop := ∀ (w : World) (ta : Option Addr) (tc : Nat), TbR w (.slice ta l.length tc) l → ∀ (x : TV), x ∈ l → ∀ (Z : Nat → Prop) (cs ds : List Value) (a b : CM), MsgE w Z d cs a → MsgE w Z d ds b → keptB l d x a = true → keptB l d x b = true → ∀ (L1 L2 : Nat), sizM L1 d a → sizM L2 d b → L1 + L2 ≤ 4000000 → Calls Tryz.prog 35 #[.slice ta l.length tc, .agg (cTV x).toArray, .agg cs.toArray, .agg ds.toArray] w fun e w' => ∃ es : List Value, e = .returned (.agg es.toArray) ∧ MsgE w' (fun b => Z b ∨ w.heap.size ≤ b) d es (mergM l d x a b) ∧ Below w.heap.size w w'
theorem unionM (l : List TV) (hg : goodB l = true) (d : Nat) (w : World) (ta : Option Addr) (tc : Nat) (h : TbR w (.slice ta l.length tc) l) (x : TV) (hx : x ∈ l) (Z : Nat → Prop) (a b : CM) (ra : Option Addr) (rc : Nat) (fb : Option Addr) (fd : Nat) (h1 : FlsR w Z d (.slice ra (a.fs.filter (rivB x.t.fs b.fs)).length rc) (a.fs.filter (rivB x.t.fs b.fs))) (h2 : FlsR w Z d (.slice fb b.fs.length fd) b.fs) (hn : (a.fs.filter (rivB x.t.fs b.fs)).length + b.fs.length ≤ 4000000) (fa : ∀ f ∈ a.fs, hasF x.t.fs f.num = true ∧ fieldB l (ownF x.t.fs f.num) f = true) (fb' : ∀ f ∈ b.fs, hasF x.t.fs f.num = true ∧ fieldB l (ownF x.t.fs f.num) f = true) (ka : ∀ f ∈ a.fs, ∀ z ∈ allM f, keptB l d (blwB l x f) z = true) (kb : ∀ f ∈ b.fs, ∀ z ∈ allM f, keptB l d (blwB l x f) z = true) (L1 L2 : Nat) (sa : sizM L1 (d + 1) a) (sb : sizM L2 (d + 1) b) (hL : L1 + L2 ≤ 4000000)
    (IH : MgdP l d)
    (p q : Nat) (hp : Blk w p 63 (cTV x).toArray) (hq : Blk w q 75 #[.slice ta l.length tc]) :
    Calls Tryz.prog 56 #[.slice ra (a.fs.filter (rivB x.t.fs b.fs)).length rc, .slice fb b.fs.length fd, .func (.func 52) #[] #[], .func (.func 54) #[] #[.pointer (some ⟨p, 0, none⟩), .pointer (some ⟨q, 0, none⟩)]] w fun e w' => ∃ a' c', e = .returned (.slice a' (mergM l (d + 1) x a b).fs.length c') ∧ FlsR w' (fun b => Z b ∨ w.heap.size ≤ b) d (.slice a' (mergM l (d + 1) x a b).fs.length c') (mergM l (d + 1) x a b).fs ∧ Below w.heap.size w w' := by
  rw [merg_fs]
  refine unionF d w Z _ _ ra fb rc fd h1 h2 _ (bothF l (mergM l d) x) hn ?_
  intro W hW cs ds u v hu hv he gu gv
  have hu' := (List.mem_filter.1 hu).1
  have en := fOrd_eq.1 he
  have su := sa.2.2 u hu'
  have sv := sb.2.2 v hv
  have tu := fa u hu'
  have tv := (fb' v hv).2
  rw [← en] at tv
  refine merged2T l (mergM l d) d W ta tc (h.kept hW) hg x hx (fun b => Z b ∧ b < w.heap.size) cs ds u v gu gv tu.1 tu.2 tv (by omega) (by omega) ?_ p q (hp.kept hW) (hq.kept hW)
  intro g1 g17 W' hW' ys zs m1 m2
  have w1 := (wM_in tu.2 g1 g17).1
  have w2 := (wM_in tv g1 g17).1
  refine IH W' ta tc ((h.kept hW).kept hW') (blwB l x u) (blw_in hx u) _ ys zs (wM u) (wM v) m1 m2 (ka u hu' _ w1) ?_ L1 L2 (su.2.2 _ w1) (sv.2.2 _ w2) hL
  rw [blw_num l x en]
  exact kb v hv _ w2
/-- Of two typed messages, so deep at most, whose lists together are not too long. -/
theorem mergedStep (l : List TV) (hg : goodB l = true) (d : Nat) (IH : MgdP l d) : MgdP l (d + 1) := by
  intro w ta tc h x hx Z cs ds a b ha hb ka kb L1 L2 sa sb hL
  obtain ⟨a1, c1, a2, c2, a3, c3, a4, c4, e1, e2, e3, e4⟩ := shT_of (h.ty x hx)
  have ec : cTV x = [.string (strOfNums x.t.name), .bool x.t.enum, .slice a1 x.t.fs.length c1, .slice a2 x.t.os.length c2, .slice a3 x.t.ss.length c3, .slice a4 x.t.rs.length c4] := by unfold cTV; rw [e1, e2, e3, e4]
  obtain ⟨fa, fc, ua, uc, rfl, ga1, ga2, -⟩ := msg_open (MsgE.old (d + 1) _ _ ha)
  obtain ⟨fb, fd, ub, ud, rfl, gb1, gb2, -⟩ := msg_open (MsgE.old (d + 1) _ _ hb)
  have HRI := hid fun W (hW : Below w.heap.size w W) => rivalsT d W (fun b => Z b ∧ b < w.heap.size) x ((h.ty x hx).kept hW) (good_rise hg hx).1 (good_rise hg hx).2 a.fs b.fs fa fb fc fd (FlsR.kept ga1 hW) (FlsR.kept gb1 hW)
  have HGB := hid fun W (hW : Below w.heap.size w W) => FlsR.kept gb1 hW
  have HUA := hid fun W (hW : Below w.heap.size w W) => EnsR.kept ga2 hW
  have HUB := hid fun W (hW : Below w.heap.size w W) => EnsR.kept gb2 hW
  have HTB := hid fun W (hW : Below w.heap.size w W) => h.kept hW
  obtain ⟨ha1, ha2⟩ := kept_all ka
  obtain ⟨hb1, hb2⟩ := kept_all kb
  have HFA := hid (hold_facts ha1).2.1
  have HFB := hid (hold_facts hb1).2.1
  have HKA := hid ha2
  have HKB := hid hb2
  have HSA := hid sa
  have HSB := hid sb
  have HLL := hid hL
  have HFL : Hid ((a.fs.filter (rivB x.t.fs b.fs)).length + b.fs.length ≤ 4000000) := hid (by have := List.length_filter_le (rivB x.t.fs b.fs) a.fs; have := sa.1; have := sb.1; omega)
  have HUL : Hid (a.us.length + b.us.length ≤ 4000000) := hid (by have := sa.2.1; have := sb.2.1; omega)
  have HIH := hid IH
  rw [ec] at HRI
  rw [ec]
  clear ha hb ga1 ga2 gb1 gb2 ha1 ha2 hb1 hb2 sa sb hL ka kb IH
  go_enter Tryz.func35, Tryz.ntmps35
  go_wp2_with fail
  generalize hw0 : World.alloc (World.alloc (World.alloc (World.alloc (World.alloc w _) _) _) _) _ = w0
  have HB0 : Hid (Below w.heap.size w w0) := hid (hw0 ▸ (by exact blBy))
  have HS0 : Hid (w0.heap.size = w.heap.size + 1 + 1 + 1 + 1 + 1) := hid (by rw [← hw0]; simp)
  have BT : Hid (Blk w0 w.heap.size 75 #[.slice ta l.length tc]) := hid (hw0 ▸ (((((Blk.new _ _ _).kept (below_alloc _)).kept (below_alloc _)).kept (below_alloc _)).kept (below_alloc _)))
  have BX : Hid (Blk w0 (w.heap.size + 1) 63 #[.string (strOfNums x.t.name), .bool x.t.enum, .slice a1 x.t.fs.length c1, .slice a2 x.t.os.length c2, .slice a3 x.t.ss.length c3, .slice a4 x.t.rs.length c4]) := hid (hw0 ▸ ((((Blk.newAt (by simp)).kept (below_alloc _)).kept (below_alloc _)).kept (below_alloc _)))
  have BA : Hid (Blk w0 (w.heap.size + 1 + 1) 29 #[.slice fa a.fs.length fc, .slice ua a.us.length uc]) := hid (hw0 ▸ (((Blk.newAt (by simp)).kept (below_alloc _)).kept (below_alloc _)))
  have BB : Hid (Blk w0 (w.heap.size + 1 + 1 + 1) 29 #[.slice fb b.fs.length fd, .slice ub b.us.length ud]) := hid (hw0 ▸ ((Blk.newAt (by simp)).kept (below_alloc _)))
  have BR : Hid (Blk w0 (w.heap.size + 1 + 1 + 1 + 1) 29 #[.slice none 0 0, .slice none 0 0]) := hid (hw0 ▸ (Blk.newAt (by simp)))
  clear hw0
  generalize hq1 : w.heap.size + 1 = q1 at *
  generalize hq2 : q1 + 1 = q2 at *
  generalize hq3 : q2 + 1 = q3 at *
  generalize hq4 : q3 + 1 = q4 at *
  have HQ : Hid (q1 = w.heap.size + 1 ∧ q2 = w.heap.size + 2 ∧ q3 = w.heap.size + 3 ∧ q4 = w.heap.size + 4) := hid (by omega)
  clear hq1 hq2 hq3 hq4
  have HW : Hid (Below w0.heap.size w0 w0) := hid (Below.refl _ _)
  have hne : q1 ≠ q4 ∧ q2 ≠ q4 ∧ q3 ≠ q4 := by have := HQ.out; omega
  have hq4' : w.heap.size ≤ q4 := by have := HQ.out; omega
  have HSF : Hid (∀ W, Below w0.heap.size w0 W → (fun W => W.cell? ⟨q1, 0, none⟩ = some (.string (strOfNums x.t.name)) ∧ W.cell? ⟨q1, 1, none⟩ = some (.bool x.t.enum) ∧ W.cell? ⟨q1, 2, none⟩ = some (.slice a1 x.t.fs.length c1) ∧ W.cell? ⟨q1, 3, none⟩ = some (.slice a2 x.t.os.length c2) ∧ W.cell? ⟨q1, 4, none⟩ = some (.slice a3 x.t.ss.length c3) ∧ W.cell? ⟨q1, 5, none⟩ = some (.slice a4 x.t.rs.length c4) ∧ W.cell? ⟨q2, 0, none⟩ = some (.slice fa a.fs.length fc) ∧ W.cell? ⟨q2, 1, none⟩ = some (.slice ua a.us.length uc) ∧ W.cell? ⟨q3, 0, none⟩ = some (.slice fb b.fs.length fd) ∧ W.cell? ⟨q3, 1, none⟩ = some (.slice ub b.us.length ud)) W) := hid fun W hW => ⟨(BX.out.kept hW).cell 0 _ rfl, (BX.out.kept hW).cell 1 _ rfl, (BX.out.kept hW).cell 2 _ rfl, (BX.out.kept hW).cell 3 _ rfl, (BX.out.kept hW).cell 4 _ rfl, (BX.out.kept hW).cell 5 _ rfl, (BA.out.kept hW).cell 0 _ rfl, (BA.out.kept hW).cell 1 _ rfl, (BB.out.kept hW).cell 0 _ rfl, (BB.out.kept hW).cell 1 _ rfl⟩
  have HSS : Hid (∀ (W : World) (u1 u2 : Value), Below w0.heap.size w0 W → (fun W => W.cell? ⟨q1, 0, none⟩ = some (.string (strOfNums x.t.name)) ∧ W.cell? ⟨q1, 1, none⟩ = some (.bool x.t.enum) ∧ W.cell? ⟨q1, 2, none⟩ = some (.slice a1 x.t.fs.length c1) ∧ W.cell? ⟨q1, 3, none⟩ = some (.slice a2 x.t.os.length c2) ∧ W.cell? ⟨q1, 4, none⟩ = some (.slice a3 x.t.ss.length c3) ∧ W.cell? ⟨q1, 5, none⟩ = some (.slice a4 x.t.rs.length c4) ∧ W.cell? ⟨q2, 0, none⟩ = some (.slice fa a.fs.length fc) ∧ W.cell? ⟨q2, 1, none⟩ = some (.slice ua a.us.length uc) ∧ W.cell? ⟨q3, 0, none⟩ = some (.slice fb b.fs.length fd) ∧ W.cell? ⟨q3, 1, none⟩ = some (.slice ub b.us.length ud)) ((W.setCell ⟨q4, 0, none⟩ u1).setCell ⟨q4, 1, none⟩ u2)) := hid fun W u1 u2 hW => ⟨cs2 (HSF.out W hW).1 hne.1, cs2 (HSF.out W hW).2.1 hne.1, cs2 (HSF.out W hW).2.2.1 hne.1, cs2 (HSF.out W hW).2.2.2.1 hne.1, cs2 (HSF.out W hW).2.2.2.2.1 hne.1, cs2 (HSF.out W hW).2.2.2.2.2.1 hne.1, cs2 (HSF.out W hW).2.2.2.2.2.2.1 hne.2.1, cs2 (HSF.out W hW).2.2.2.2.2.2.2.1 hne.2.1, cs2 (HSF.out W hW).2.2.2.2.2.2.2.2.1 hne.2.2, cs2 (HSF.out W hW).2.2.2.2.2.2.2.2.2 hne.2.2⟩
  have xr := BR.out.cellF
  have yr := BR.out.frz
  have zr := BR.out.lt
  obtain ⟨us, hus⟩ : ∃ us, us = a.us ++ b.us := ⟨_, rfl⟩
  have HRW : rwL [(ua, uc, a.us), (ub, ud, b.us)] = us := by rw [hus]; simp [rwL]
  have HUN : Hid (us.length ≤ 4000000) := hid (by rw [hus, List.length_append]; exact HUL.out)
  have HUE : Hid ((mergM l (d + 1) x a b) = CM.mk (mergM l (d + 1) x a b).fs us) := hid (by rw [hus]; rfl)
  clear hus
  go_region_held3 (fun W => W.cell? ⟨q1, 0, none⟩ = some (.string (strOfNums x.t.name)) ∧ W.cell? ⟨q1, 1, none⟩ = some (.bool x.t.enum) ∧ W.cell? ⟨q1, 2, none⟩ = some (.slice a1 x.t.fs.length c1) ∧ W.cell? ⟨q1, 3, none⟩ = some (.slice a2 x.t.os.length c2) ∧ W.cell? ⟨q1, 4, none⟩ = some (.slice a3 x.t.ss.length c3) ∧ W.cell? ⟨q1, 5, none⟩ = some (.slice a4 x.t.rs.length c4) ∧ W.cell? ⟨q2, 0, none⟩ = some (.slice fa a.fs.length fc) ∧ W.cell? ⟨q2, 1, none⟩ = some (.slice ua a.us.length uc) ∧ W.cell? ⟨q3, 0, none⟩ = some (.slice fb b.fs.length fd) ∧ W.cell? ⟨q3, 1, none⟩ = some (.slice ub b.us.length ud)) (first | (with_reducible exact HSS.out _ _ _ (by have := HW.out; exact blBy)) | exact HSF.out _ (by have := HW.out; exact blBy)) (first | (go_at_call 57; refine (HRI.out _ (bl_then HB0.out (by have := HW.out; exact blBy))).mono ?_; rintro e w1 ⟨ra, rc, rfl, hr, hbx⟩; have HR : Hid (FlsR w1 (fun b => (Z b ∧ b < w.heap.size) ∨ q4 < b) d (.slice ra (a.fs.filter (rivB x.t.fs b.fs)).length rc) (a.fs.filter (rivB x.t.fs b.fs))) := hid (FlsR.go hr (Keep.refl (fun _ => True) _) (fun _ _ => trivial) (fun b hz => hz.elim Or.inl (fun h => Or.inr (by have h3 := HW.out.size; have h4 := HS0.out; have h5 := HQ.out; first | omega | (have h6 : _ ≤ b := h; simp at h6; omega))))); clear hr; (first | (replace BK := hid (BK.out.kept (below_trans (by exact blBy) hbx))) | (with_reducible have BK := hid ((Blk.new _ 27 #[.slice ua a.us.length uc, .slice ub b.us.length ud]).kept hbx)) | (with_reducible have BK := hid (((Blk.new _ 27 #[.slice ua a.us.length uc, .slice ub b.us.length ud]).kept (below_drew1 _)).kept hbx)) | skip); replace HW := hid (bl_then HW.out (below_trans (by exact blBy) hbx)); replace BR := hid (BR.out.kept (below_trans (by exact blBy) hbx)); replace xr := BR.out.cellF; replace yr := BR.out.frz; replace zr := BR.out.lt; clear hbx) | (go_at_call 56; refine (unionM l hg d _ ta tc (HTB.out _ (bl_then HB0.out (by have := HW.out; exact blBy))) x hx (fun b => (Z b ∧ b < w.heap.size) ∨ q4 < b) a b ra rc fb fd (FlsR.kept HR.out (by exact blBy)) (FlsR.go (HGB.out _ (bl_then HB0.out (by have := HW.out; exact blBy))) (Keep.refl (fun _ => True) _) (fun _ _ => trivial) (fun b h => Or.inl h)) HFL.out HFA.out HFB.out HKA.out HKB.out L1 L2 HSA.out HSB.out HLL.out HIH.out q1 w.heap.size (by rw [ec]; exact BX.out.kept (by have := HW.out; exact blBy)) (BT.out.kept (by have := HW.out; exact blBy))).mono ?_; rintro e w2 ⟨va, vc, rfl, hr, hbx⟩; have HU : Hid (FlsR w2 (fun b => (Z b ∧ b < w.heap.size) ∨ q4 < b) d (.slice va (mergM l (d + 1) x a b).fs.length vc) (mergM l (d + 1) x a b).fs) := hid (FlsR.go hr (Keep.refl (fun _ => True) _) (fun _ _ => trivial) (fun b hz => hz.elim id (fun h => Or.inr (by have h3 := HW.out.size; have h4 := HS0.out; have h5 := HQ.out; first | omega | (have h6 : _ ≤ b := h; simp at h6; omega))))); clear hr; (first | (replace BK := hid (BK.out.kept (below_trans (by exact blBy) hbx))) | (with_reducible have BK := hid ((Blk.new _ 27 #[.slice ua a.us.length uc, .slice ub b.us.length ud]).kept hbx)) | (with_reducible have BK := hid (((Blk.new _ 27 #[.slice ua a.us.length uc, .slice ub b.us.length ud]).kept (below_drew1 _)).kept hbx)) | skip); replace HW := hid (bl_then HW.out (below_trans (by exact blBy) hbx)); replace BR := hid (BR.out.kept (below_trans (by exact blBy) hbx)); replace xr := BR.out.cellF; replace yr := BR.out.frz; replace zr := BR.out.lt; clear hbx) | (go_at_call 58; refine (concatEntry _ (fun b => Z b ∧ b < w.heap.size) [(ua, uc, a.us), (ub, ud, b.us)] _ (by first | exact BK.out.kept (by exact blBy) | exact Blk.new _ _ _ | exact (Blk.new _ _ _).kept (below_drew1 _)) (rows2 (HUA.out _ (bl_then HB0.out (by have := HW.out; exact blBy))) (HUB.out _ (bl_then HB0.out (by have := HW.out; exact blBy)))) (by rw [HRW]; exact HUN.out) (by simp)).mono ?_; rintro e w3 ⟨ea, ez, rfl, ho, hbx⟩; rw [HRW] at ho ⊢; have HC : Hid (EnsR w3 (fun b => (Z b ∧ b < w.heap.size) ∨ q4 < b) (.slice ea us.length ez) us) := hid (EnsR.go (ho.row famE HUN.out) (Keep.refl (fun _ => True) _) (fun _ _ => trivial) (fun b hz => hz.elim Or.inl (fun h => Or.inr (by have h3 := HW.out.size; have h4 := HS0.out; have h5 := HQ.out; first | omega | (have h6 : _ ≤ b := h; simp at h6; omega))))); clear ho; replace HU := hid (FlsR.kept HU.out (below_trans (by exact blBy) hbx)); replace HW := hid (bl_then HW.out (below_trans (by exact blBy) hbx)); replace BR := hid (BR.out.kept (below_trans (by exact blBy) hbx)); replace xr := BR.out.cellF; replace yr := BR.out.frz; replace zr := BR.out.lt; clear hbx))
  all_goals
    have HA := hid fun (x1 y1 : Value) => msg_ans (q := q4) hq4' (bl_then HB0.out HW.out) HU.out HC.out x1 y1
    go_wp2
    exact bodyPost_ret (v := .agg #[.slice va (mergM l (d + 1) x a b).fs.length vc, .slice ea us.length ez]) (by simp [results, Tryz.results35, go_sem, xr, yr, zr]) rfl ⟨[.slice va (mergM l (d + 1) x a b).fs.length vc, .slice ea us.length ez], rfl, (by rw [HUE.out]; exact (HA.out _ _).1), (HA.out _ _).2⟩
theorem mergedT (l : List TV) (hg : goodB l = true) : ∀ d, MgdP l d
  | 0 => fun w ta tc h x hx Z cs ds a b ha => absurd ha (by simp [MsgE])
  | d + 1 => mergedStep l hg d (mergedT l hg d)
theorem tAtOk (w : World) (l : List TV) (ta : Option Addr) (tc : Nat) (h : TbR w (.slice ta l.length tc) l) (hk : ∀ x ∈ l, OkV x) (mx : Int) (hm0 : w.cell? ⟨0, 0, none⟩ = some (.int .i64 mx)) (k : Nat) (hkl : k < l.length) (hg : goodB l = true) (he : l[k].t.enum = false) (Z : Nat → Prop) (d : Nat) (ms : List CM) (la : Option Addr) (lc : Nat) (hm : MgsR w Z d (.slice la ms.length lc) ms) (hall : ms.all (keptB l d l[k]) = true) : Calls Tryz.prog 22 #[.agg #[.slice ta l.length tc], .int .i64 (k : Int), .slice la ms.length lc] w fun e w' => e = .returned (.tuple #[.agg (cTV l[k]).toArray, .int .i64 0]) ∧ Below w.heap.size w w' := by
  have HTY := hid fun W (hW : Below w.heap.size w W) cs m (hm : MsgE W Z d cs m) => typedT W l ta tc (h.kept hW) hk mx (cell_below hm0 hW) k hkl hg he Z d cs m hm
  have HMS := hid fun W (hW : Below w.heap.size w W) => MgsR.kept hm hW
  obtain ⟨_, _, -, lm⟩ := RowM.sl hm
  have mU : (ms.length : Int) ≤ 9223372036854775807 := by omega
  obtain ⟨tb, tof, rfl, hbl, d0, d1, d2, d3, d4, d5⟩ := row6 h.row hkl
  obtain ⟨a1, c1, a2, c2, a3, c3, a4, c4, e1, e2, e3, e4⟩ := shT_of (h.ty l[k] (List.getElem_mem hkl))
  have ec : cTV l[k] = [.string (strOfNums l[k].t.name), .bool l[k].t.enum, .slice a1 l[k].t.fs.length c1, .slice a2 l[k].t.os.length c2, .slice a3 l[k].t.ss.length c3, .slice a4 l[k].t.rs.length c4] := by unfold cTV; rw [e1, e2, e3, e4]
  rw [e1] at d2
  rw [e2] at d3
  rw [e3] at d4
  rw [e4] at d5
  rw [ec]
  have HAL := hid (List.all_eq_true.1 hall)
  have kk : (k : Int) < (l.length : Int) := by omega
  clear h hk hm0 hg he hm hall e1 e2 e3 e4 ec
  have HGE : Hid (∀ m ∈ ms, keptB l d l[k] m = true) := hid HAL.out
  generalize l[k] = x at *
  go_enter Tryz.func22, Tryz.ntmps22
  go_wp2
  generalize hw0 : World.alloc (World.alloc w _) _ = w0
  have HB0 : Hid (Below w.heap.size w w0) := hid (hw0 ▸ (by exact blBy))
  have HS0 : Hid (w0.heap.size = w.heap.size + 2) := hid (by rw [← hw0]; simp)
  have BT : Hid (Blk w0 w.heap.size 24 #[.slice (some ⟨tb, tof, none⟩) l.length tc]) := hid (hw0 ▸ ((Blk.new _ _ _).kept (below_alloc _)))
  have BR : Hid (Blk w0 (w.heap.size + 1) 63 #[.string ⟨#[]⟩, .bool false, .slice none 0 0, .slice none 0 0, .slice none 0 0, .slice none 0 0]) := hid (hw0 ▸ (Blk.newAt (by simp)))
  clear hw0
  generalize hq1 : w.heap.size + 1 = q1 at *
  have hq1' : w.heap.size ≤ q1 := by omega
  clear hq1
  replace d0 := cell_below d0 HB0.out
  replace d1 := cell_below d1 HB0.out
  replace d2 := cell_below d2 HB0.out
  replace d3 := cell_below d3 HB0.out
  replace d4 := cell_below d4 HB0.out
  replace d5 := cell_below d5 HB0.out
  go_loopw [14] (fun s14 wr => ∃ (j : Nat), s14 = .int .i64 (j : Int) ∧ j ≤ ms.length ∧ Hid (Below w0.heap.size w0 wr)) (fun s14 wr => ms.length - numAt wr s14)
  case atStart => exact ⟨0, rfl, by omega, hid (Below.refl _ _)⟩
  case round =>
    obtain ⟨j, rfl, hj, HB⟩ := hrel
    by_cases hlt : j < ms.length
    ·
      have k2 : (j : Int) < (ms.length : Int) := by omega
      obtain ⟨b1, o1, cs, rfl, -, hb1, hl1, hm1, hc1⟩ := RowM.at (HMS.out _ HB0.out) (by decide) hlt
      obtain ⟨fa, fc, ua, uc, rfl, -⟩ := msg_openD hm1
      have HM1 := hid hm1
      have c0 := cell_below (hc1 0 _ rfl) HB.out
      have c1' := cell_below (hc1 1 _ rfl) HB.out
      simp only [Nat.add_zero] at c0 c1'
      have BT1 := hid (BT.out.kept HB.out)
      have BR1 := hid (BR.out.kept HB.out)
      have xt := BT1.out.cellF
      have zt := BT1.out.lt
      clear hm1 hc1
      have HKJ := hid (HGE.out ms[j] (List.getElem_mem hlt))
      generalize ms[j] = m at *
      go_wp2_with fail
      refine (HTY.out _ (bl_then HB0.out (bl_then HB.out (by exact blBy))) _ m (HM1.out.kept (bl_then HB.out (by exact blBy)))).mono ?_
      rintro e w1 ⟨rfl, hbx⟩
      rw [HKJ.out]
      have HB1 := hid (bl_then HB.out (below_trans (by exact blBy) hbx))
      clear hbx xt zt c0 c1'
      go_wp2
      exact ⟨⟨j + 1, by simp, by omega, HB1⟩, by simp [numAt]; omega⟩
    · have k2 : ¬ (j : Int) < (ms.length : Int) := by omega
      replace d0 := cell_below d0 HB.out
      replace d1 := cell_below d1 HB.out
      replace d2 := cell_below d2 HB.out
      replace d3 := cell_below d3 HB.out
      replace d4 := cell_below d4 HB.out
      replace d5 := cell_below d5 HB.out
      have BT1 := hid (BT.out.kept HB.out)
      have BR1 := hid (BR.out.kept HB.out)
      have xt := BT1.out.cellF
      have zt := BT1.out.lt
      have xr := BR1.out.cellF
      have yr := BR1.out.frz
      have zr := BR1.out.lt
      have HBF := hid (bl_then HB0.out HB.out)
      go_wp2
      exact bodyPost_ret (v := .tuple #[.agg #[.string (strOfNums x.t.name), .bool x.t.enum, .slice a1 x.t.fs.length c1, .slice a2 x.t.os.length c2, .slice a3 x.t.ss.length c3, .slice a4 x.t.rs.length c4], .int .i64 0]) (by simp [results, Tryz.results22, go_sem, xr, yr, zr]) rfl ⟨rfl, by have := HBF.out; exact blBy⟩
theorem mgs2 {w : World} {Z : Nat → Prop} {d p : Nat} {x1 y1 x2 y2 : Value} {a b : CM} (ha : MsgE w Z d [x1, y1] a) (hb : MsgE w Z d [x2, y2] b) (hz : Z p) (hp : Blk w p 29 #[x1, y1, x2, y2]) : MgsR w Z d (.slice (some ⟨p, 0, none⟩) [a, b].length 2) [a, b] := by
  refine ⟨[⟨[x1, y1], rfl⟩, ⟨[x2, y2], rfl⟩], ⟨_, _, rfl, by simp, by simp, by omega, .inr ⟨p, 0, rfl, hz, fun j u hu => ?_⟩⟩, rfl, by simp, fun j t x ht hx => ?_⟩
  · rw [Nat.zero_add]
    exact hp.cell j u (by simpa using hu)
  · match j, ht, hx with
    | 0, ht, hx => simp at ht hx; subst ht hx; exact ha
    | 1, ht, hx => simp at ht hx; subst ht hx; exact hb
    | j + 2, ht, hx => simp at ht
theorem mergeOk (w : World) (l : List TV) (ta : Option Addr) (tc : Nat) (h : TbR w (.slice ta l.length tc) l) (hk : ∀ x ∈ l, OkV x) (mx : Int) (hm0 : w.cell? ⟨0, 0, none⟩ = some (.int .i64 mx)) (k : Nat) (hkl : k < l.length) (hg : goodB l = true) (he : l[k].t.enum = false) (Z : Nat → Prop) (d : Nat) (cs ds : List Value) (a b : CM) (ha : MsgE w Z d cs a) (hb : MsgE w Z d ds b) (ka : keptB l d l[k] a = true) (kb : keptB l d l[k] b = true) (L1 L2 : Nat) (sa : sizM L1 d a) (sb : sizM L2 d b) (hL : L1 + L2 ≤ 4000000) : Calls Tryz.prog 20 #[.agg #[.slice ta l.length tc], .int .i64 (k : Int), .agg cs.toArray, .agg ds.toArray] w fun e w' => ∃ es : List Value, e = .returned (.tuple #[.agg es.toArray, .int .i64 0]) ∧ MsgE w' (w.heap.size ≤ ·) d es (mergM l d l[k] a b) ∧ Below w.heap.size w w' := by
  have HMG := hid fun W (hW : Below w.heap.size w W) => mergedT l hg d W ta tc (h.kept hW) l[k] (List.getElem_mem hkl) Z cs ds a b (ha.kept hW) (hb.kept hW) ka kb L1 L2 sa sb hL
  obtain ⟨fa, fc, ua, uc, rfl, -⟩ := msg_openD ha
  obtain ⟨fb, fd, ub, ud, rfl, -⟩ := msg_openD hb
  have HTA := hid fun W (hW : Below w.heap.size w W) p (hz : w.heap.size ≤ p) (hp : Blk W p 29 #[.slice fa a.fs.length fc, .slice ua a.us.length uc, .slice fb b.fs.length fd, .slice ub b.us.length ud]) => tAtOk W l ta tc (h.kept hW) hk mx (cell_below hm0 hW) k hkl hg he (fun b => Z b ∨ w.heap.size ≤ b) d [a, b] (some ⟨p, 0, none⟩) 2 (mgs2 (MsgE.go (keepT hW) (fun _ _ => trivial) (fun b h => Or.inl h) d _ _ ha) (MsgE.go (keepT hW) (fun _ _ => trivial) (fun b h => Or.inl h) d _ _ hb) (Or.inr hz) hp) (by simp [ka, kb])
  obtain ⟨a1, c1, a2, c2, a3, c3, a4, c4, e1, e2, e3, e4⟩ := shT_of (h.ty l[k] (List.getElem_mem hkl))
  have ec : cTV l[k] = [.string (strOfNums l[k].t.name), .bool l[k].t.enum, .slice a1 l[k].t.fs.length c1, .slice a2 l[k].t.os.length c2, .slice a3 l[k].t.ss.length c3, .slice a4 l[k].t.rs.length c4] := by unfold cTV; rw [e1, e2, e3, e4]
  rw [ec] at HMG HTA
  clear h hk hm0 hg he ha hb ka kb sa sb hL e1 e2 e3 e4 ec
  generalize mergM l d l[k] a b = mm at *
  generalize l[k] = x at *
  go_enter Tryz.func20, Tryz.ntmps20
  go_wp2_with fail
  refine (HTA.out _ (by exact blBy) _ ?_ (Blk.newAt (by simp))).mono ?_
  · omega
  rintro e w1 ⟨rfl, hbx⟩
  have BT : Hid (Blk w1 w.heap.size 24 #[.slice ta l.length tc]) := hid ((((((Blk.new _ _ _).kept (below_alloc _)).kept (below_alloc _)).kept (below_alloc _)).kept (below_alloc _)).kept hbx)
  have BA : Hid (Blk w1 (w.heap.size + 1) 29 #[.slice fa a.fs.length fc, .slice ua a.us.length uc]) := hid (((((Blk.newAt (by simp)).kept (below_alloc _)).kept (below_alloc _)).kept (below_alloc _)).kept hbx)
  have BB : Hid (Blk w1 (w.heap.size + 1 + 1) 29 #[.slice fb b.fs.length fd, .slice ub b.us.length ud]) := hid ((((Blk.newAt (by simp)).kept (below_alloc _)).kept (below_alloc _)).kept hbx)
  have BR : Hid (Blk w1 (w.heap.size + 1 + 1 + 1) 29 #[.slice none 0 0, .slice none 0 0]) := hid (((Blk.newAt (by simp)).kept (below_alloc _)).kept hbx)
  have HB1 : Hid (Below w.heap.size w w1) := hid (bl_then (by exact blBy) hbx)
  have HS1 : Hid (w.heap.size + 5 ≤ w1.heap.size) := hid (by have := hbx.size; simpa using this)
  clear hbx
  generalize hq1 : w.heap.size + 1 = q1 at *
  generalize hq2 : q1 + 1 = q2 at *
  generalize hq3 : q2 + 1 = q3 at *
  have HQ : Hid (q1 = w.heap.size + 1 ∧ q2 = w.heap.size + 2 ∧ q3 = w.heap.size + 3) := hid (by omega)
  have hq3' : w.heap.size ≤ q3 := by omega
  clear hq1 hq2 hq3
  have xr := BR.out.cellF
  have yr := BR.out.frz
  have zr := BR.out.lt
  have xt := BT.out.cellF
  have zt := BT.out.lt
  have xa := BA.out.cellF
  have za := BA.out.lt
  have xb := BB.out.cellF
  have zb := BB.out.lt
  go_wp2_with fail
  refine (HMG.out _ (by have := HB1.out; exact blBy)).mono ?_
  rintro e w2 ⟨es, rfl, hm, hbx⟩
  have BR2 := hid ((BR.out.kept (below_alloc _)).kept hbx)
  have HB2 : Hid (Below w.heap.size w w2) := hid (bl_then (by have := HB1.out; exact blBy) hbx)
  have HS2 : Hid (w.heap.size + 5 ≤ w2.heap.size) := hid (by have h3 := HS1.out; have h4 := hbx.size; simp at h4; omega)
  have HM := hid hm
  clear hm hbx xt zt xa za xb zb xr yr zr BT BA BB BR HB1 HS1
  go_wp2_with fail
  refine (copyT d _ _ _ mm HM.out).mono ?_
  rintro e w3 ⟨ts, rfl, hm, hbx⟩
  have BR3 := hid (BR2.out.kept hbx)
  have HB3 : Hid (Below w.heap.size w w3) := hid (bl_then HB2.out hbx)
  have HN : Hid (MsgE w3 (q3 < ·) d ts mm) := hid (MsgE.go (Keep.refl (fun _ => True) _) (fun _ _ => trivial) (fun b (h : _ ≤ b) => by have h3 := HS2.out; have h5 := HQ.out; show q3 < b; omega) d _ _ hm)
  clear hm hbx BR2 HM HB2
  have xr := BR3.out.cellF
  have yr := BR3.out.frz
  have zr := BR3.out.lt
  obtain ⟨va, vc, va', vc', rfl, -⟩ := msg_openD HN.out
  have HF := hid fun (x1 y1 : Value) => (show MsgE ((w3.setCell ⟨q3, 0, none⟩ x1).setCell ⟨q3, 1, none⟩ y1) (w.heap.size ≤ ·) d _ mm from MsgE.go (keepR2 q3 x1 y1) (fun b (hb : q3 < b) => by show b ≠ q3; omega) (fun b (hb : q3 < b) => by show w.heap.size ≤ b; omega) d _ _ HN.out)
  go_wp2
  exact bodyPost_ret (v := .tuple #[.agg #[.slice va mm.fs.length vc, .slice va' mm.us.length vc'], .int .i64 0]) (by simp [results, Tryz.results20, go_sem, xr, yr, zr]) rfl ⟨[.slice va mm.fs.length vc, .slice va' mm.us.length vc'], rfl, HF.out _ _, by have := HB3.out; exact blBy⟩
set_option maxHeartbeats 1000000
def valM (l : List TV) (fs : List FT) (m : CM) (p : List Int) : CF CM × Int := match wayM l (p.length + 1) fs p with
  | none => (cfZ, 12)
  | some ws => match (intoM ws.dropLast m).fs.find? (isN (ws.getLastD 0)) with
    | none => (cfZ, 20)
    | some x => (x, 0)
theorem mgs1 {w : World} {Z : Nat → Prop} {d p : Nat} {x1 y1 : Value} {a : CM} (ha : MsgE w Z d [x1, y1] a) (hz : Z p) (hp : Blk w p 29 #[x1, y1]) : MgsR w Z d (.slice (some ⟨p, 0, none⟩) [a].length 1) [a] := by
  refine ⟨[⟨[x1, y1], rfl⟩], ⟨_, _, rfl, by simp, by simp, by omega, .inr ⟨p, 0, rfl, hz, fun j u hu => ?_⟩⟩, rfl, by simp, fun j t x ht hx => ?_⟩
  · rw [Nat.zero_add]
    exact hp.cell j u (by simpa using hu)
  · match j, ht, hx with
    | 0, ht, hx => simp at ht hx; subst ht hx; exact ha
    | j + 1, ht, hx => simp at ht
theorem rowS_pre {w : World} {Z : Nat → Prop} {a : Option Addr} {n c : Nat} {pre r : List Int} (h : RowS w Z 1 (.slice a n c) (pre ++ r).length ((pre ++ r).flatMap cI64)) : RowS w Z 1 (.slice a pre.length c) pre.length (pre.flatMap cI64) := by
  obtain ⟨a', c', e, h1, h2, h3, h4⟩ := h
  simp only [Value.slice.injEq] at e
  obtain ⟨rfl, rfl, rfl⟩ := e
  refine ⟨a, c, rfl, flatM_len (k := 1) (fun _ => rfl) _, by rw [List.length_append] at h2; omega, h3, ?_⟩
  rcases h4 with ⟨q1, q2⟩ | ⟨b, off, e, hz, hc⟩
  · exact .inl ⟨by rw [List.length_append] at q1; omega, q2⟩
  · refine .inr ⟨b, off, e, hz, fun j u hu => hc j u ?_⟩
    rw [List.flatMap_append]
    rw [List.getElem?_append_left (List.getElem?_eq_some_iff.1 hu).1]
    exact hu
theorem wr64n (n : Nat) (h : (n : Int) ≤ 9223372036854775807) : wrap64 (n : Int) = (n : Int) := by
  unfold wrap64
  omega
theorem keep3 {f : Nat → Prop} {w : World} {p : Nat} {a b c : Value} (h : ¬ f p) : Keep f w (((w.setCell ⟨p, 0, none⟩ a).setCell ⟨p, 1, none⟩ b).setCell ⟨p, 2, none⟩ c) := ((Keep.setCell _ _ _ h).trans (Keep.setCell _ _ _ h)).trans (Keep.setCell _ _ _ h)
theorem cellOth3 {w : World} {b i g : Nat} {v u0 u1 u2 : Value} (h : w.cell? ⟨b, i, none⟩ = some v) (hne : b ≠ g) : (((w.setCell ⟨g, 0, none⟩ u0).setCell ⟨g, 1, none⟩ u1).setCell ⟨g, 2, none⟩ u2).cell? ⟨b, i, none⟩ = some v := by
  have k : ∀ {W : World} (j : Nat) (u : Value), W.cell? ⟨b, i, none⟩ = some v → (W.setCell ⟨g, j, none⟩ u).cell? ⟨b, i, none⟩ = some v := fun {W} j u hW => by
    have := Below.heap_setCell W ⟨g, j, none⟩ u b hne
    unfold World.cell? at hW ⊢
    rw [this]
    exact hW
  exact k 2 u2 (k 1 u1 (k 0 u0 h))
/-- What Value answers. -/
def ValA (d : Nat) (w : World) (o : CF CM × Int) (e : Ending) (w' : World) : Prop := ∃ cs : List Value, e = .returned (.tuple #[.agg cs.toArray, .int .i64 o.2]) ∧ FmF d w' (w.heap.size ≤ ·) cs o.1 ∧ Below w.heap.size w w'
theorem valueT (w : World) (l : List TV) (ta : Option Addr) (tc : Nat) (h : TbR w (.slice ta l.length tc) l) (hk : ∀ x ∈ l, OkV x) (mx : Int) (hm0 : w.cell? ⟨0, 0, none⟩ = some (.int .i64 mx)) (k : Nat) (hkl : k < l.length) (hg : goodB l = true) (he : l[k].t.enum = false) (Z : Nat → Prop) (d : Nat) (cs : List Value) (m : CM) (hm : MsgE w Z (d + 1) cs m) (ka : keptB l (d + 1) l[k] m = true) (p : List Int) (hp : TxA p) (hl : PLn p) : Calls Tryz.prog 13 #[.agg #[.slice ta l.length tc], .int .i64 (k : Int), .agg cs.toArray, .string (strOfNums p)] w (ValA d w (valM l l[k].t.fs m p)) := by
  have HWY := hid fun W (hW : Below w.heap.size w W) => wayOfT W l ta tc (h.kept hW) hk hg mx (cell_below hm0 hW) l[k] (List.getElem_mem hkl) p hp hl
  have HPO := hid fun ws (hws : wayM l (p.length + 1) l[k].t.fs p = some ws) => (⟨way_ne _ _ _ _ hws, way_pth hg w Z _ (d + 1) l[k] m p ws (List.getElem_mem hkl) ⟨cs, hm⟩ ka hws⟩ : ws ≠ [] ∧ PthOk ws.dropLast m)
  obtain ⟨fa, fc, ua, uc, rfl, -⟩ := msg_openD hm
  have HMS := hid fun W (hW : Below w.heap.size w W) => (hm.kept hW)
  have HTA := hid fun W (hW : Below w.heap.size w W) q (hz : w.heap.size ≤ q) (hq : Blk W q 29 #[.slice fa m.fs.length fc, .slice ua m.us.length uc]) => tAtOk W l ta tc (h.kept hW) hk mx (cell_below hm0 hW) k hkl hg he (fun b => Z b ∨ w.heap.size ≤ b) (d + 1) [m] (some ⟨q, 0, none⟩) 1 (mgs1 (MsgE.go (keepT hW) (fun _ _ => trivial) (fun b h => Or.inl h) (d + 1) _ _ hm) (Or.inr hz) hq) (by simp [ka])
  obtain ⟨a1, c1, a2, c2, a3, c3, a4, c4, e1, e2, e3, e4⟩ := shT_of (h.ty l[k] (List.getElem_mem hkl))
  have ec : cTV l[k] = [.string (strOfNums l[k].t.name), .bool l[k].t.enum, .slice a1 l[k].t.fs.length c1, .slice a2 l[k].t.os.length c2, .slice a3 l[k].t.ss.length c3, .slice a4 l[k].t.rs.length c4] := by unfold cTV; rw [e1, e2, e3, e4]
  rw [ec] at HWY HTA
  have HVM : Hid (valM l l[k].t.fs m p = match wayM l (p.length + 1) l[k].t.fs p with
    | none => (cfZ, 12)
    | some ws => match (intoM ws.dropLast m).fs.find? (isN (ws.getLastD 0)) with
      | none => (cfZ, 20)
      | some x => (x, 0)) := hid rfl
  generalize valM l l[k].t.fs m p = vm at *
  generalize wayM l (p.length + 1) l[k].t.fs p = wo at *
  clear h hk hm0 hg he hm ka hp hl e1 e2 e3 e4 ec
  generalize l[k] = x at *
  go_enter Tryz.func13, Tryz.ntmps13
  go_wp2_with fail
  refine (HTA.out _ (by exact blBy) _ ?_ (Blk.newAt (by simp))).mono ?_
  · omega
  rintro e w1 ⟨rfl, hbx⟩
  have BT : Hid (Blk w1 w.heap.size 24 #[.slice ta l.length tc]) := hid (((((Blk.new _ _ _).kept (below_alloc _)).kept (below_alloc _)).kept (below_alloc _)).kept hbx)
  have BA : Hid (Blk w1 (w.heap.size + 1) 29 #[.slice fa m.fs.length fc, .slice ua m.us.length uc]) := hid ((((Blk.newAt (by simp)).kept (below_alloc _)).kept (below_alloc _)).kept hbx)
  have BR : Hid (Blk w1 (w.heap.size + 1 + 1) 33 #[.int .i64 0, .slice none 0 0, .slice none 0 0]) := hid (((Blk.newAt (by simp)).kept (below_alloc _)).kept hbx)
  have HB1 : Hid (Below w.heap.size w w1) := hid (bl_then (by exact blBy) hbx)
  have HS1 : Hid (w.heap.size + 4 ≤ w1.heap.size) := hid (by have := hbx.size; simpa using this)
  clear hbx HTA
  generalize hq1 : w.heap.size + 1 = q1 at *
  generalize hq2 : q1 + 1 = q2 at *
  have HQ : Hid (q1 = w.heap.size + 1 ∧ q2 = w.heap.size + 2) := hid (by omega)
  have hq2' : w.heap.size ≤ q2 := by omega
  clear hq1 hq2
  have xr := BR.out.cellF
  have yr := BR.out.frz
  have zr := BR.out.lt
  have xt := BT.out.cellF
  have zt := BT.out.lt
  have xa := BA.out.cellF
  have za := BA.out.lt
  go_wp2_with fail
  refine (HWY.out _ (by have := HB1.out; exact blBy)).mono ?_
  rintro e w2 ⟨hb2, hres⟩
  have HB2 : Hid (Below w.heap.size w w2) := hid (bl_then (bl_alloc HB1.out _) hb2)
  have BR2 := hid ((BR.out.kept (below_alloc (w := w1) (.cells #[.string (strOfNums x.t.name), .bool x.t.enum, .slice a1 x.t.fs.length c1, .slice a2 x.t.os.length c2, .slice a3 x.t.ss.length c3, .slice a4 x.t.rs.length c4] 63))).kept hb2)
  have BA2 := hid ((BA.out.kept (below_alloc (w := w1) (.cells #[.string (strOfNums x.t.name), .bool x.t.enum, .slice a1 x.t.fs.length c1, .slice a2 x.t.os.length c2, .slice a3 x.t.ss.length c3, .slice a4 x.t.rs.length c4] 63))).kept hb2)
  have HS2 : Hid (w.heap.size + 4 ≤ w2.heap.size) := hid (by have h3 := HS1.out; have h4 := hb2.size; simp at h4; omega)
  clear xr yr zr xt zt xa za BR BA BT HB1 HS1
  have xr := BR2.out.cellF
  have yr := BR2.out.frz
  have zr := BR2.out.lt
  have xa := BA2.out.cellF
  have za := BA2.out.lt
  have HFZ : ∀ W : World, FmF d W (w.heap.size ≤ ·) [.int .i64 0, .slice none 0 0, .slice none 0 0] cfZ := fun W => ⟨_, _, rfl, RowM.nil _ _ _ _, RowM.nil _ _ _ _, by constructor <;> decide⟩
  cases wo with
  | none =>
    dsimp only at hres HVM
    subst hres
    obtain rfl : vm = (cfZ, 12) := HVM.out
    clear hb2
    go_wp2
    exact bodyPost_ret (v := .tuple #[.agg #[.int .i64 0, .slice none 0 0, .slice none 0 0], .int .i64 12]) (by simp [results, Tryz.results13, go_sem, xr, yr, zr]) rfl ⟨[.int .i64 0, .slice none 0 0, .slice none 0 0], rfl, HFZ _, by have := HB2.out; exact blBy⟩
  | some ws =>
    obtain ⟨wa, wc, rfl, ho⟩ := hres
    obtain ⟨hne, hpo⟩ := HPO.out ws rfl
    obtain ⟨pre, n, rfl⟩ : ∃ pre n, ws = pre ++ [n] := ⟨ws.dropLast, ws.getLast hne, (List.dropLast_concat_getLast hne).symm⟩
    rw [List.dropLast_concat] at hpo
    have HRW := hid (own_row ho (fun _ _ => trivial) : RowS w2 AnyZ 1 _ _ _)
    have HVM2 : Hid (vm = match (intoM pre m).fs.find? (isN n) with
      | none => (cfZ, 20)
      | some x => (x, 0)) := hid (by
      have := HVM.out
      dsimp only at this
      rw [List.dropLast_concat, List.getLastD_concat] at this
      exact this)
    have HIN := hid fun W (hW : Below w2.heap.size w2 W) => intoT W pre wa wc (rowS_pre (HRW.out.kept hW)) Z d _ m (HMS.out W (below_trans HB2.out hW)) hpo
    obtain ⟨wb, wof, ewa, hwc⟩ := rowAt (g := cI64) (fun _ => rfl) HRW.out (i := pre.length) (x := n) (by simp)
    have cw := hwc 0 _ rfl
    subst ewa
    simp only [Nat.mul_one, Nat.add_zero] at cw
    have hwb : wb < w2.heap.size := World.block_lt_of_cell? _ _ cw
    have wn : ((pre ++ [n]).length : Int) - 1 = (pre.length : Int) := by simp
    have hcap : ((pre ++ [n]).length : Int) ≤ (wc : Int) := by
      obtain ⟨_, _, e, _, hle, _⟩ := HRW.out
      cases e
      omega
    have HLN : Hid ((pre ++ [n]).length = pre.length + 1) := hid (by simp)
    rw [HLN.out] at hcap wn ⊢
    clear hb2 ho hwc hne hpo HVM HPO HWY
    have b0 : w2.cell? ⟨q1, 0, none⟩ = some (.slice fa m.fs.length fc) := BA2.out.cell 0 _ rfl
    have b1 : w2.cell? ⟨q1, 1, none⟩ = some (.slice ua m.us.length uc) := BA2.out.cell 1 _ rfl
    have s0 : (wc : Int) ≤ 9223372036854775807 := by
      obtain ⟨_, _, e, _, _, hmx, _⟩ := HRW.out
      cases e
      omega
    have w64 := wr64n pre.length (by omega)
    have s6 : (0 : Int) ≤ (pre.length : Int) := by omega
    have s7 : (pre.length : Int) < (pre.length : Int) + 1 := by omega
    have s1 : (pre.length : Int) ≤ (wc : Int) := by omega
    have s2 : pre.length ≤ wc := by omega
    have s3 : ((wc : Int) < (pre.length : Int)) = False := eq_false (by omega)
    have s4 : ((pre.length : Int) < 0) = False := eq_false (by omega)
    have s5 : (wc < pre.length) = False := eq_false (by omega)
    have HBW : Hid (Below w2.heap.size w2 w2) := hid (Below.refl _ _)
    have HGT := hid fun W ds (hds : MsgE W Z (d + 1) ds (intoM pre m)) => getT d W Z ds (intoM pre m) hds n
    generalize (intoM pre m).fs.find? (isN n) = fo at *
    go_wp2_with fail
    go_region_held3 (fun W => W.cell? ⟨q1, 0, none⟩ = some (.slice fa m.fs.length fc) ∧ W.cell? ⟨q1, 1, none⟩ = some (.slice ua m.us.length uc) ∧ W.cell? ⟨wb, wof + pre.length, none⟩ = some (.int .i64 n)) (first | (with_reducible exact ⟨b0, b1, cw⟩) | (with_reducible refine ⟨cellOth3 b0 ?_, cellOth3 b1 ?_, cellOth3 cw ?_⟩ <;> (have h1 := HQ.out; have h2 := HS2.out; have h3 := HZ3.out; omega)) | (refine ⟨cell_below b0 ?_, cell_below b1 ?_, cell_below cw ?_⟩ <;> (with_reducible (repeat (first | exact Below.refl _ _ | exact below_drew1 _ | exact below_drewN _ _ | refine bl_alloc ?_ _ | refine bl_drew ?_ | refine bl_drewN ?_ _)); done))) (first | (go_at_call 25; refine (HIN.out _ (below_trans HBW.out (by with_reducible (repeat (first | exact Below.refl _ _ | exact below_drew1 _ | exact below_drewN _ _ | refine bl_alloc ?_ _ | refine bl_drew ?_ | refine bl_drewN ?_ _))))).mono ?_; rintro e w3 ⟨ds, rfl, hds, hbx⟩; obtain ⟨fa2, fc2, ua2, uc2, rfl, -⟩ := msg_openD hds; replace b0 := cell_below b0 (below_trans (by with_reducible (repeat (first | exact Below.refl _ _ | exact below_drew1 _ | exact below_drewN _ _ | refine bl_alloc ?_ _ | refine bl_drew ?_ | refine bl_drewN ?_ _))) hbx); replace b1 := cell_below b1 (below_trans (by with_reducible (repeat (first | exact Below.refl _ _ | exact below_drew1 _ | exact below_drewN _ _ | refine bl_alloc ?_ _ | refine bl_drew ?_ | refine bl_drewN ?_ _))) hbx); replace cw := cell_below cw (below_trans (by with_reducible (repeat (first | exact Below.refl _ _ | exact below_drew1 _ | exact below_drewN _ _ | refine bl_alloc ?_ _ | refine bl_drew ?_ | refine bl_drewN ?_ _))) hbx); replace HBW := hid (below_trans HBW.out (below_trans (by with_reducible (repeat (first | exact Below.refl _ _ | exact below_drew1 _ | exact below_drewN _ _ | refine bl_alloc ?_ _ | refine bl_drew ?_ | refine bl_drewN ?_ _))) hbx)); have HDS := hid hds; have HZ3 : Hid (w2.heap.size ≤ w3.heap.size) := hid HBW.out.size; (try (have HZ4 : Hid (w2.heap.size + 1 ≤ w3.heap.size) := hid (by have := hbx.size; simpa using this))); (try (have BQ : Hid (Blk w3 w2.heap.size 33 #[.int .i64 0, .slice none 0 0, .slice none 0 0]) := hid (by first | exact (Blk.new _ _ _).kept hbx | exact ((Blk.new _ _ _).kept (below_drew1 _)).kept hbx); have xq := BQ.out.cellF; have zq := BQ.out.lt; have yq := BQ.out.frz)); clear hds hbx) | (go_at_call 24; refine (HGT.out _ _ (MsgE.kept HDS.out (by with_reducible (repeat (first | exact Below.refl _ _ | exact below_drew1 _ | exact below_drewN _ _ | refine bl_alloc ?_ _ | refine bl_drew ?_ | refine bl_drewN ?_ _))))).mono ?_; rintro e w4 ⟨gs, rfl, hgs, hbx⟩; obtain ⟨ka, kc, va, vc, rfl, -⟩ := fld_open hgs; replace b0 := cell_below b0 (below_trans (by with_reducible (repeat (first | exact Below.refl _ _ | exact below_drew1 _ | exact below_drewN _ _ | refine bl_alloc ?_ _ | refine bl_drew ?_ | refine bl_drewN ?_ _))) hbx); replace b1 := cell_below b1 (below_trans (by with_reducible (repeat (first | exact Below.refl _ _ | exact below_drew1 _ | exact below_drewN _ _ | refine bl_alloc ?_ _ | refine bl_drew ?_ | refine bl_drewN ?_ _))) hbx); replace cw := cell_below cw (below_trans (by with_reducible (repeat (first | exact Below.refl _ _ | exact below_drew1 _ | exact below_drewN _ _ | refine bl_alloc ?_ _ | refine bl_drew ?_ | refine bl_drewN ?_ _))) hbx); replace HBW := hid (below_trans HBW.out (below_trans (by with_reducible (repeat (first | exact Below.refl _ _ | exact below_drew1 _ | exact below_drewN _ _ | refine bl_alloc ?_ _ | refine bl_drew ?_ | refine bl_drewN ?_ _))) hbx)); have HGS := hid hgs; (first | (replace BQ := hid (BQ.out.kept (below_trans (by first | exact Below.refl _ _ | exact below_drew1 _ | exact below_drewN _ _) hbx)); clear xq zq yq; have xq := BQ.out.cellF; have zq := BQ.out.lt; have yq := BQ.out.frz) | (have BQ : Hid (Blk w4 w3.heap.size 33 #[.int .i64 0, .slice none 0 0, .slice none 0 0]) := hid (by first | exact (Blk.new _ _ _).kept hbx | exact ((Blk.new _ _ _).kept (below_drew1 _)).kept hbx); have xq := BQ.out.cellF; have zq := BQ.out.lt; have yq := BQ.out.frz) | skip); clear hgs hbx))
    all_goals
      have BR4 := hid (BR2.out.kept HBW.out)
      have HB4 : Hid (Below w.heap.size w w4) := hid (bl_then HB2.out HBW.out)
      clear xr yr zr xa za BR2 BA2
      have xr := BR4.out.cellF
      have yr := BR4.out.frz
      have zr := BR4.out.lt
      have q2l : q2 < w2.heap.size := by have h1 := HQ.out; have h2 := HS2.out; omega
      have q2n : q2 ≠ w2.heap.size := by omega
      have q2m : q2 ≠ w3.heap.size := by have h3 := HZ3.out; omega
      have wl2 : w.heap.size ≤ w2.heap.size := HB2.out.size
      have wl3 : w.heap.size ≤ w3.heap.size := by have h3 := HZ3.out; omega
    · have HFX : Hid (∀ W', Keep (fun b => b ≠ q2 ∧ b ≠ q2) w4 W' → FmF d W' (w.heap.size ≤ ·) [.int .i64 (fo.getD cfZ).num, .slice ka (fo.getD cfZ).ks.length kc, .slice va (fo.getD cfZ).vs.length vc] (fo.getD cfZ)) := hid (fun W' hW' => Fam.go (famF d) HGS.out hW' (fun b hb => by have hb' : w3.heap.size ≤ b := hb; have h3 := HZ3.out; exact ⟨by omega, by omega⟩) (fun b hb => by have hb' : w3.heap.size ≤ b := (by exact hb); show w.heap.size ≤ b; omega))
      clear HGS
      cases fo with
      | none =>
        obtain rfl : vm = (cfZ, 20) := HVM2.out
        simp only [Option.getD_none, Option.isSome_none]
        go_wp2
        exact bodyPost_ret (v := .tuple #[.agg #[.int .i64 0, .slice none 0 0, .slice none 0 0], .int .i64 20]) (by simp [results, Tryz.results13, go_sem, xr, yr, zr]) rfl ⟨[.int .i64 0, .slice none 0 0, .slice none 0 0], rfl, HFZ _, by have := HB4.out; exact blBy⟩
      | some y =>
        obtain rfl : vm = (y, 0) := HVM2.out
        simp only [Option.getD_some, Option.isSome_some] at HFX ⊢
        go_wp2
        exact bodyPost_ret (v := .tuple #[.agg #[.int .i64 y.num, .slice ka y.ks.length kc, .slice va y.vs.length vc], .int .i64 0]) (by simp [results, Tryz.results13, go_sem, xr, yr, zr, q2n, q2m]) rfl ⟨[.int .i64 y.num, .slice ka y.ks.length kc, .slice va y.vs.length vc], rfl, HFX.out _ (kpA (keep3 (p := q2) (fun h => absurd rfl h.1)) _), by have := HB4.out; exact blBy⟩
    · have HFX : Hid (∀ W', Keep (fun b => b ≠ q2 ∧ b ≠ w3.heap.size) w4 W' → FmF d W' (w.heap.size ≤ ·) [.int .i64 (fo.getD cfZ).num, .slice ka (fo.getD cfZ).ks.length kc, .slice va (fo.getD cfZ).vs.length vc] (fo.getD cfZ)) := hid (fun W' hW' => Fam.go (famF d) HGS.out hW' (fun b hb => by have h4 : w3.heap.size + 1 ≤ b := (by simpa using hb); have h3 := HZ3.out; exact ⟨by omega, by omega⟩) (fun b hb => by have hb' : w3.heap.size ≤ b := (by have : w3.heap.size + 1 ≤ b := (by simpa using hb); omega); show w.heap.size ≤ b; omega))
      clear HGS
      cases fo with
      | none =>
        obtain rfl : vm = (cfZ, 20) := HVM2.out
        simp only [Option.getD_none, Option.isSome_none]
        go_wp2
        exact bodyPost_ret (v := .tuple #[.agg #[.int .i64 0, .slice none 0 0, .slice none 0 0], .int .i64 20]) (by simp [results, Tryz.results13, go_sem, xr, yr, zr]) rfl ⟨[.int .i64 0, .slice none 0 0, .slice none 0 0], rfl, HFZ _, by have := HB4.out; exact blBy⟩
      | some y =>
        obtain rfl : vm = (y, 0) := HVM2.out
        simp only [Option.getD_some, Option.isSome_some] at HFX ⊢
        go_wp2
        exact bodyPost_ret (v := .tuple #[.agg #[.int .i64 y.num, .slice ka y.ks.length kc, .slice va y.vs.length vc], .int .i64 0]) (by simp [results, Tryz.results13, go_sem, xr, yr, zr, q2n, q2m]) rfl ⟨[.int .i64 y.num, .slice ka y.ks.length kc, .slice va y.vs.length vc], rfl, HFX.out _ ((keep3 (p := w3.heap.size) (fun h => absurd rfl h.2)).trans (keep3 (p := q2) (fun h => absurd rfl h.1))), by have := HB4.out; exact blBy⟩
    · have HFX : Hid (∀ W', Keep (fun b => b ≠ q2 ∧ b ≠ w2.heap.size) w4 W' → FmF d W' (w.heap.size ≤ ·) [.int .i64 (fo.getD cfZ).num, .slice ka (fo.getD cfZ).ks.length kc, .slice va (fo.getD cfZ).vs.length vc] (fo.getD cfZ)) := hid (fun W' hW' => Fam.go (famF d) HGS.out hW' (fun b hb => by have hb' : w3.heap.size ≤ b := hb; have h3 := HZ4.out; exact ⟨by omega, by omega⟩) (fun b hb => by have hb' : w3.heap.size ≤ b := (by exact hb); show w.heap.size ≤ b; omega))
      clear HGS
      cases fo with
      | none =>
        obtain rfl : vm = (cfZ, 20) := HVM2.out
        simp only [Option.getD_none, Option.isSome_none]
        go_wp2
        exact bodyPost_ret (v := .tuple #[.agg #[.int .i64 0, .slice none 0 0, .slice none 0 0], .int .i64 20]) (by simp [results, Tryz.results13, go_sem, xr, yr, zr]) rfl ⟨[.int .i64 0, .slice none 0 0, .slice none 0 0], rfl, HFZ _, by have := HB4.out; exact blBy⟩
      | some y =>
        obtain rfl : vm = (y, 0) := HVM2.out
        simp only [Option.getD_some, Option.isSome_some] at HFX ⊢
        go_wp2
        exact bodyPost_ret (v := .tuple #[.agg #[.int .i64 y.num, .slice ka y.ks.length kc, .slice va y.vs.length vc], .int .i64 0]) (by simp [results, Tryz.results13, go_sem, xr, yr, zr, q2n, q2m]) rfl ⟨[.int .i64 y.num, .slice ka y.ks.length kc, .slice va y.vs.length vc], rfl, HFX.out _ ((keep3 (p := w2.heap.size) (fun h => absurd rfl h.2)).trans (keep3 (p := q2) (fun h => absurd rfl h.1))), by have := HB4.out; exact blBy⟩
end Go.Proofs.YtkifjpaoncjokaaGreatDoor
