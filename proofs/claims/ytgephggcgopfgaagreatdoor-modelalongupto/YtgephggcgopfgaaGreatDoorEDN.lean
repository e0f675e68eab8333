/-
  Set: what the program answers.
  Settling and setting: what the laws ask.
  Equal: what the program answers, at every depth.
  Equal: what the document answers.
  Equal: what the document answers, at every depth.
  How deep a message is, as the walk reckons it.
-/
import Derived.Test.YtgephggcgopfgaaGreatDoorEDH
import Derived.Test.YtgephggcgopfgaaGreatDoorEBP
import Derived.Test.YtgephggcgopfgaaGreatDoorEBM
import Derived.Test.YtgephggcgopfgaaGreatDoorCAA
import Derived.Deep.RegionWith
import Derived.BigQuiet
import Derived.Test.YtgephggcgopfgaaGreatDoorCNG
import Derived.Test.YtgephggcgopfgaaGreatDoorCCJ
namespace Go.Proofs.YtgephggcgopfgaaGreatDoor
open Go.RowKit
set_option maxRecDepth 1000000
set_option linter.unusedVariables false
set_option linter.unusedSimpArgs false
set_option maxHeartbeats 1000000
theorem below_keepB {f : Nat → Prop} {w w1 w2 : World} (h : Below w.heap.size w w1) (g : Keep f w1 w2) (hf : ∀ k, k < w.heap.size → f k) : Below w.heap.size w w2 := ⟨g.os.trans h.os, g.tape.trans h.tape, g.output.trans h.output, Nat.le_trans h.size g.size, fun k hk => (g.block k (Nat.lt_of_lt_of_le hk h.size) (hf k hk)).trans (h.block k hk)⟩
/-- What Set answers for a typed message. -/
def SetR (d : Nat) (w : World) (b : Bool) (m : CM) (e : Ending) (w' : World) : Prop := (b = true → ∃ ds : List Value, e = .returned (.tuple #[.agg ds.toArray, .int .i64 0]) ∧ MsgE w' (w.heap.size ≤ ·) d ds m) ∧ (b = false → e = .returned (.tuple #[.agg #[.slice none 0 0, .slice none 0 0], .int .i64 10])) ∧ Below w.heap.size w w'
theorem setOk (w : World) (l : List TV) (ta : Option Addr) (tc : Nat) (h : TbR w (.slice ta l.length tc) l) (hk : ∀ x ∈ l, OkV x) (mx : Int) (hm0 : w.cell? ⟨0, 0, none⟩ = some (.int .i64 mx)) (k : Nat) (hkl : k < l.length) (hg : goodB l = true) (he : l[k].t.enum = false) (Z : Nat → Prop) (d : Nat) (cs cf : List Value) (m : CM) (f : CF CM) (hm : MsgE w Z (d + 1) cs m) (hf : FldE w Z (MsgE w Z d) cf f) (hq : keptB l (d + 1) l[k] m = true) : Calls Tryz.prog 33 #[.agg #[.slice ta l.length tc], .int .i64 (k : Int), .agg cs.toArray, .agg cf.toArray] w (SetR (d + 1) w (keptB l (d + 1) l[k] (withM l[k].t.fs m f)) (withM l[k].t.fs m f)) := by
  obtain ⟨Y, hY, hm, hf⟩ : ∃ Y : Nat → Prop, (∀ b, Y b → b < w.heap.size) ∧ MsgE w Y (d + 1) cs m ∧ FldE w Y (MsgE w Y d) cf f := ⟨_, fun b h => h.2, MsgE.old _ _ _ hm, (famF d).old hf⟩
  have hr := good_rise hg (List.getElem_mem hkl)
  have HA := hid fun W (hW : Below w.heap.size w W) => typedAtOk W l ta tc (h.kept hW) hk mx (cell_below hm0 hW) k hkl hg he Y (d + 1) cs m (hm.kept hW) hq
  have HW := hid fun W (hW : Below w.heap.size w W) => withT W l[k] ((h.kept hW).ty l[k] (List.getElem_mem hkl)) hr.1 hr.2 Y d cs cf m f (hm.kept hW) (hf.kept hW) (by have := kept_len hq; have := hr.2; omega)
  have HK := hid fun W (hW : Below w.heap.size w W) (Z' : Nat → Prop) (ds : List Value) (hd : MsgE W Z' (d + 1) ds (withM l[k].t.fs m f)) => areKeptT W l ta tc (h.kept hW) hg l[k] (List.getElem_mem hkl) Z' (d + 1) ds _ hd
  obtain ⟨ta1, tc1, ta2, tc2, ta3, tc3, ta4, tc4, e1, e2, e3, e4⟩ := shT_of (h.ty l[k] (List.getElem_mem hkl))
  have ec : cTV l[k] = [.string (strOfNums l[k].t.name), .bool false, .slice ta1 l[k].t.fs.length tc1, .slice ta2 l[k].t.os.length tc2, .slice ta3 l[k].t.ss.length tc3, .slice ta4 l[k].t.rs.length tc4] := by unfold cTV; rw [e1, e2, e3, e4, he]
  obtain ⟨fa, fc, ua, uc, rfl, -⟩ := msg_openD hm
  obtain ⟨ka, kc, va, vc, rfl, -⟩ := fld_open hf
  rw [ec] at HW HK
  rw [e1, e2, e3, e4] at HA
  clear h hg hm hf e1 e2 e3 e4 ec hm0 hk he hq hr
  generalize keptB l (d + 1) l[k] (withM l[k].t.fs m f) = kb at *
  generalize withM l[k].t.fs m f = wm at *
  generalize l[k] = x at *
  go_enter Tryz.func33, Tryz.ntmps33
  go_wp2_with fail
  refine (HA.out _ (by exact blBy)).mono ?_
  rintro e w1 ⟨rfl, hb1⟩
  have HB1 : Hid (Below w.heap.size w w1) := hid (bl_then (by exact blBy) hb1)
  have Bm : Hid (Blk w1 (w.heap.size + 1) 35 #[.slice fa m.fs.length fc, .slice ua m.us.length uc]) := hid ((((Blk.newAt (by simp)).kept (below_alloc _)).kept (below_alloc _)).kept hb1)
  have Bf : Hid (Blk w1 (w.heap.size + 1 + 1) 29 #[.int .i64 f.num, .slice ka f.ks.length kc, .slice va f.vs.length vc]) := hid (((Blk.newAt (by simp)).kept (below_alloc _)).kept hb1)
  have Br : Hid (Blk w1 (w.heap.size + 1 + 1 + 1) 35 #[.slice none 0 0, .slice none 0 0]) := hid ((Blk.newAt (by simp)).kept hb1)
  have hs1 : Hid (w.heap.size + 4 ≤ w1.heap.size) := hid (by have := hb1.size; simpa using this)
  have xm := Bm.out.cellF
  have zm := Bm.out.lt
  have xf := Bf.out.cellF
  have zf := Bf.out.lt
  have zt1 : w.heap.size < w1.heap.size := by have := hb1.size; simp at this; omega
  have zm1 : w.heap.size + 1 < w1.heap.size := by have := hb1.size; simp at this; omega
  have zf1 : w.heap.size + 1 + 1 < w1.heap.size := by have := hb1.size; simp at this; omega
  clear HA hb1
  go_wp2_with fail
  refine (HW.out _ (by have := HB1.out; exact blBy)).mono ?_
  rintro e w2 ⟨ds, rfl, hn, hb2⟩
  have hz2 : Below w1.heap.size w1 w2 := bl_then (by exact blBy) hb2
  have HN : Hid (MsgE w2 (fun b => Y b ∨ w1.heap.size + 2 ≤ b) (d + 1) ds wm) := hid (MsgE.go (Keep.refl (fun _ => True) w2) (fun _ _ => trivial) (fun b hz => by rcases hz with hz | hz; exact Or.inl hz; exact Or.inr (by simpa using hz)) _ _ _ hn)
  have Bx : Hid (Blk w2 w1.heap.size 71 #[.string (strOfNums x.t.name), .bool false, .slice ta1 x.t.fs.length tc1, .slice ta2 x.t.os.length tc2, .slice ta3 x.t.ss.length tc3, .slice ta4 x.t.rs.length tc4]) := hid (((Blk.new _ _ _).kept (below_alloc _)).kept hb2)
  have Bq : Hid (Blk w2 (w1.heap.size + 1) 73 #[.slice ta l.length tc]) := hid ((Blk.newAt (by simp)).kept hb2)
  replace Bm := hid (Bm.out.kept hz2)
  replace Br := hid (Br.out.kept hz2)
  have HB2 : Hid (Below w.heap.size w w2) := hid (below_trans HB1.out hz2)
  have hs2 : Hid (w1.heap.size + 2 ≤ w2.heap.size) := hid (by have := hb2.size; simpa using this)
  obtain ⟨na, nc, va2, vc2, rfl, -⟩ := msg_openD HN.out
  have xm := Bm.out.cellF
  have ym := Bm.out.frz
  have zm := Bm.out.lt
  have xx := Bx.out.cellF
  have zx := Bx.out.lt
  have xq := Bq.out.cellF
  have zq := Bq.out.lt
  have n1 : w1.heap.size + 1 ≠ w.heap.size + 1 := by have := hs1.out; omega
  have n2 : w1.heap.size ≠ w.heap.size + 1 := by have := hs1.out; omega
  clear hb2 hz2 hn HW xf zf
  go_wp2_with fail
  have KE : Hid (Keep (fun b => b ≠ w.heap.size + 1) w2 ((w2.setCell ⟨w.heap.size + 1, 0, none⟩ (.slice na wm.fs.length nc)).setCell ⟨w.heap.size + 1, 1, none⟩ (.slice va2 wm.us.length vc2))) := hid (by with_reducible repeat (first | exact Keep.refl _ _ | refine kpS ?_ (by first | (simp; done) | (simp; omega) | omega)))
  have Bm3 : Hid (Blk ((w2.setCell ⟨w.heap.size + 1, 0, none⟩ (.slice na wm.fs.length nc)).setCell ⟨w.heap.size + 1, 1, none⟩ (.slice va2 wm.us.length vc2)) (w.heap.size + 1) 35 #[.slice na wm.fs.length nc, .slice va2 wm.us.length vc2]) := hid (((Bm.out.set 0 _).set 1 _).is (by simp))
  generalize ((w2.setCell ⟨w.heap.size + 1, 0, none⟩ (.slice na wm.fs.length nc)).setCell ⟨w.heap.size + 1, 1, none⟩ (.slice va2 wm.us.length vc2)) = w3 at *
  have HB3 : Hid (Below w.heap.size w w3) := hid (below_keepB HB2.out KE.out (fun k hk => by omega))
  replace Br := hid (Br.out.keep KE.out (by omega))
  have HN3 : Hid (MsgE w3 AnyZ (d + 1) [.slice na wm.fs.length nc, .slice va2 wm.us.length vc2] wm) := hid (MsgE.go KE.out (fun b hz => by rcases hz with hz | hz; (have := hY b hz; omega); (have := hs1.out; omega)) (fun _ _ => trivial) _ _ _ HN.out)
  have hs3 : w2.heap.size ≤ w3.heap.size := KE.out.size
  clear xm ym zm xx zx xq zq HN HB2 Bm Bx Bq KE
  refine (HK.out _ HB3.out _ _ HN3.out).mono ?_
  rintro e w4 ⟨rfl, hb4⟩
  have Bm4 := hid (Bm3.out.kept hb4)
  replace Br := hid (Br.out.kept hb4)
  replace HB3 := hid (below_trans HB3.out hb4)
  replace HN3 := hid (HN3.out.kept hb4)
  have hs4 := hb4.size
  clear HK hb4 Bm3
  have xm := Bm4.out.cellF
  have zm := Bm4.out.lt
  have zt1 : w.heap.size < w4.heap.size := by have := hs1.out; have := hs2.out; omega
  have zr1 : w.heap.size + 1 + 1 + 1 < w4.heap.size := by have := hs1.out; have := hs2.out; omega
  cases kb with
  | false =>
    have xr := Br.out.cellF
    have yr := Br.out.frz
    have zr := Br.out.lt
    go_wp2
    exact bodyPost_ret (v := .tuple #[.agg #[.slice none 0 0, .slice none 0 0], .int .i64 10]) (by simp [results, Tryz.results33, go_sem, xr, yr, zr]) rfl ⟨fun q => (by cases q), fun _ => rfl, by have := HB3.out; exact blBy⟩
  | true =>
    go_wp2_with fail
    refine (copyT (d + 1) _ AnyZ _ wm HN3.out).mono ?_
    rintro e w5 ⟨es, rfl, hn, hb5⟩
    have HN5 : Hid (MsgE w5 (w.heap.size + 4 ≤ ·) (d + 1) es wm) := hid (MsgE.go (Keep.refl (fun _ => True) w5) (fun _ _ => trivial) (fun k hk => by have := hs1.out; have := hs2.out; have hk2 : w4.heap.size ≤ k := hk; omega) _ _ _ hn)
    replace Br := hid (Br.out.kept hb5)
    replace HB3 := hid (below_trans HB3.out hb5)
    obtain ⟨ea, ec, ga, gc, rfl, -⟩ := msg_openD HN5.out
    have xr := Br.out.cellF
    have yr := Br.out.frz
    have zr := Br.out.lt
    clear hn hb5 xm zm HN3 Bm4
    go_wp2
    exact bodyPost_ret (v := .tuple #[.agg #[.slice ea wm.fs.length ec, .slice ga wm.us.length gc], .int .i64 0]) (by simp [results, Tryz.results33, go_sem, xr, yr, zr]) rfl ⟨fun _ => ⟨[.slice ea wm.fs.length ec, .slice ga wm.us.length gc], rfl, MsgE.go (f := (w.heap.size + 4 ≤ ·)) (by with_reducible repeat (first | exact Keep.refl _ _ | refine kpS ?_ (by first | (simp; done) | (simp; omega) | omega) | refine kpA ?_ _ | refine kpD ?_ | refine kpN ?_ _)) (fun _ h => h) (fun k hk => by omega) _ _ _ HN5.out⟩, fun q => (by cases q), by have := HB3.out; exact blBy⟩
end Go.Proofs.YtgephggcgopfgaaGreatDoor
namespace Go.Proofs.YtgephggcgopfgaaGreatDoor
open Go.RowKit
set_option maxRecDepth 1000000
set_option linter.unusedVariables false
set_option linter.unusedSimpArgs false
theorem norm_no {l : List TV} {d : Nat} {x : TV} {m : CM} (h : keptB l d x m = false) : normB l d x m = false := by
  unfold normB
  rw [h]
  rfl
theorem norm_set {l : List TV} {d : Nat} {x : TV} {m : CM} (h : keptB l d x m = true) : normB l d x (setM l d x m) = true := by
  unfold normB
  rw [set_kept l d x m h, (norm_iff l d x _).2 (set_idem l d x m)]
  rfl
theorem norm_eq {l : List TV} {d : Nat} {x : TV} {m : CM} (h : keptB l d x m = true) : normB l d x m = true ↔ setM l d x m = m := by
  unfold normB
  rw [h, Bool.true_and]
  exact norm_iff l d x m
theorem with_get {l : List TV} {x : TV} {d : Nat} {fs : List FT} {m : CM} {f : CF CM} (h : keptB l (d + 1) x (withM fs m f) = true) : (withM fs m f).fs.find? (isN f.num) = some f := with_find h
end Go.Proofs.YtgephggcgopfgaaGreatDoor
namespace Go.Proofs.YtgephggcgopfgaaGreatDoor
open Go.RowKit
set_option maxRecDepth 1000000
set_option linter.unusedVariables false
set_option linter.unusedSimpArgs false
set_option maxHeartbeats 1000000
theorem CE.ext4 {x y : CE} (h1 : x.num = y.num) (h2 : x.kind = y.kind) (h3 : x.n = y.n) (h4 : x.b = y.b) : x = y := by
  cases x; cases y; simp_all
theorem CV.ext3 {x y : CV CM} (h1 : x.n = y.n) (h2 : x.b = y.b) (h3 : x.ms = y.ms) : x = y := by
  cases x; cases y; simp_all
theorem CF.ext3 {x y : CF CM} (h1 : x.num = y.num) (h2 : x.ks = y.ks) (h3 : x.vs = y.vs) : x = y := by
  cases x; cases y; simp_all
/-- Equal's contract at a depth. -/
def EqAt (d : Nat) : Prop := ∀ (w : World) (Z Z2 : Nat → Prop) (cs ds : List Value) (m m' : CM), MsgE w Z d cs m → MsgE w Z2 d ds m' → Calls Tryz.prog 26 #[.agg cs.toArray, .agg ds.toArray] w (EqR w (m = m'))
theorem sameEntryT (w : World) (Z Z2 : Nat → Prop) (cs ds : List Value) (x y : CE) (h1 : EntE w Z cs x) (h2 : EntE w Z2 ds y) : Calls Tryz.prog 58 #[.agg cs.toArray, .agg ds.toArray] w (EqR w (x = y)) := by
  obtain ⟨ka1, kc1, rfl, g1, -⟩ := ent_open h1
  obtain ⟨ka2, kc2, rfl, g2, -⟩ := ent_open h2
  have G1 := hid g1
  have G2 := hid g2
  clear g1 g2 h1 h2
  go_enter Tryz.func58, Tryz.ntmps58
  by_cases e1 : x.num = y.num
  case neg =>
    have kq : (x.num == y.num) = false := by simpa using e1
    have HX := hid e1
    clear e1
    go_wp2
    go_ret
    exact EqR.no (fun e => HX.out (by rw [e])) (by exact blBy)
  have kqe1 : (x.num == y.num) = true := by simpa using e1
  have He1 := hid e1
  clear e1
  by_cases e2 : x.kind = y.kind
  case neg =>
    have kq : (x.kind == y.kind) = false := by simpa using e2
    have HX := hid e2
    clear e2
    go_wp2
    go_ret
    exact EqR.no (fun e => HX.out (by rw [e])) (by exact blBy)
  have kqe2 : (x.kind == y.kind) = true := by simpa using e2
  have He2 := hid e2
  clear e2
  by_cases e3 : x.n = y.n
  case neg =>
    have kq : (x.n == y.n) = false := by simpa using e3
    have HX := hid e3
    clear e3
    go_wp2
    go_ret
    exact EqR.no (fun e => HX.out (by rw [e])) (by exact blBy)
  have kqe3 : (x.n == y.n) = true := by simpa using e3
  have He3 := hid e3
  clear e3
  go_wp2_with fail
  refine (bytesEqT _ Z Z2 ka1 ka2 kc1 kc2 x.b y.b (G1.out.kept (by exact blBy)) (G2.out.kept (by exact blBy))).mono ?_
  rintro e w1 ⟨r1, rfl, hr, hb⟩
  have HR := hid hr
  clear hr
  have Bx : Blk w1 w.heap.size 40 #[.int .i64 x.num, .int .i64 x.kind, .int .u64 x.n, .slice ka1 x.b.length kc1] := ((Blk.new _ _ _).kept (below_alloc _)).kept hb
  have By : Blk w1 (w.heap.size + 1) 40 #[.int .i64 y.num, .int .i64 y.kind, .int .u64 y.n, .slice ka2 y.b.length kc2] := (Blk.newAt (by simp)).kept hb
  have hbz : Hid (Below w.heap.size w w1) := hid (bl_then (by exact blBy) hb)
  clear hb
  cases r1 with
  | false =>
    have HX : Hid (¬ x.b = y.b) := hid (fun e => (by have := HR.out.2 e; cases this))
    clear HR
    go_wp2
    go_ret
    exact EqR.no (fun e => HX.out (by rw [e])) hbz.out
  | true =>
  have e4 : Hid (x.b = y.b) := hid (HR.out.1 rfl)
  clear HR
  go_wp2
  go_ret
  exact EqR.yes (CE.ext4 He1.out He2.out He3.out e4.out) hbz.out
theorem sameValT (d : Nat) (HE : EqAt d) (w : World) (Z Z2 : Nat → Prop) (cs ds : List Value) (x y : CV CM) (h1 : ValE w Z (MsgE w Z d) cs x) (h2 : ValE w Z2 (MsgE w Z2 d) ds y) : Calls Tryz.prog 106 #[.agg cs.toArray, .agg ds.toArray] w (EqR w (x = y)) := by
  obtain ⟨ka1, kc1, va1, vc1, rfl, g1, m1, -⟩ := val_open h1
  obtain ⟨ka2, kc2, va2, vc2, rfl, g2, m2, -⟩ := val_open h2
  have G1 := hid g1
  have G2 := hid g2
  have M1 := hid m1
  have M2 := hid m2
  replace HE := hid HE
  clear g1 g2 h1 h2 m1 m2
  go_enter Tryz.func106, Tryz.ntmps106
  by_cases e1 : x.n = y.n
  case neg =>
    have kq : (x.n == y.n) = false := by simpa using e1
    have HX := hid e1
    clear e1
    go_wp2
    go_ret
    exact EqR.no (fun e => HX.out (by rw [e])) (by exact blBy)
  have kqe1 : (x.n == y.n) = true := by simpa using e1
  have He1 := hid e1
  clear e1
  go_wp2_with fail
  refine (bytesEqT _ Z Z2 ka1 ka2 kc1 kc2 x.b y.b (G1.out.kept (by exact blBy)) (G2.out.kept (by exact blBy))).mono ?_
  rintro e w1 ⟨r1, rfl, hr, hb⟩
  have HR := hid hr
  clear hr
  have Bx : Blk w1 w.heap.size 26 #[.int .u64 x.n, .slice ka1 x.b.length kc1, .slice va1 x.ms.length vc1] := ((Blk.new _ _ _).kept (below_alloc _)).kept hb
  have By : Blk w1 (w.heap.size + 1) 26 #[.int .u64 y.n, .slice ka2 y.b.length kc2, .slice va2 y.ms.length vc2] := (Blk.newAt (by simp)).kept hb
  have hbz : Hid (Below w.heap.size w w1) := hid (bl_then (by exact blBy) hb)
  clear hb
  cases r1 with
  | false =>
    have HX : Hid (¬ x.b = y.b) := hid (fun e => (by have := HR.out.2 e; cases this))
    clear HR
    go_wp2
    go_ret
    exact EqR.no (fun e => HX.out (by rw [e])) hbz.out
  | true =>
  have e2 : Hid (x.b = y.b) := hid (HR.out.1 rfl)
  clear HR
  have xx := Bx.cellF
  have zx := Bx.lt
  have xy := By.cellF
  have zy := By.lt
  go_wp2_with fail
  refine (eqfM _ Z Z2 d x.ms y.ms va1 va2 vc1 vc2 (M1.out.kept hbz.out) (M2.out.kept hbz.out) (fun W hW cs ds x y => HE.out W Z Z2 cs ds x y)).mono ?_
  rintro e w2 ⟨r2, rfl, hr, hb⟩
  have HR := hid hr
  clear hr
  replace Bx := Bx.kept hb
  replace By := By.kept hb
  replace hbz : Hid (Below w.heap.size w w2) := hid (bl_then (by have := hbz.out; exact blBy) hb)
  clear xx zx xy zy
  clear hb
  cases r2 with
  | false =>
    have HX : Hid (¬ x.ms = y.ms) := hid (fun e => (by have := HR.out.2 e; cases this))
    clear HR
    go_wp2
    go_ret
    exact EqR.no (fun e => HX.out (by rw [e])) hbz.out
  | true =>
  have e3 : Hid (x.ms = y.ms) := hid (HR.out.1 rfl)
  clear HR
  go_wp2
  go_ret
  exact EqR.yes (CV.ext3 He1.out e2.out e3.out) hbz.out
theorem sameFieldT (d : Nat) (HE : EqAt d) (w : World) (Z Z2 : Nat → Prop) (cs ds : List Value) (x y : CF CM) (h1 : FldE w Z (MsgE w Z d) cs x) (h2 : FldE w Z2 (MsgE w Z2 d) ds y) : Calls Tryz.prog 56 #[.agg cs.toArray, .agg ds.toArray] w (EqR w (x = y)) := by
  obtain ⟨ka1, kc1, va1, vc1, rfl, g1, m1, -⟩ := fld_open h1
  obtain ⟨ka2, kc2, va2, vc2, rfl, g2, m2, -⟩ := fld_open h2
  have G1 := hid g1
  have G2 := hid g2
  have M1 := hid m1
  have M2 := hid m2
  replace HE := hid HE
  clear g1 g2 h1 h2 m1 m2
  go_enter Tryz.func56, Tryz.ntmps56
  by_cases e1 : x.num = y.num
  case neg =>
    have kq : (x.num == y.num) = false := by simpa using e1
    have HX := hid e1
    clear e1
    go_wp2
    go_ret
    exact EqR.no (fun e => HX.out (by rw [e])) (by exact blBy)
  have kqe1 : (x.num == y.num) = true := by simpa using e1
  have He1 := hid e1
  clear e1
  go_wp2_with fail
  refine (eqfV _ Z Z2 d x.ks y.ks ka1 ka2 kc1 kc2 (G1.out.kept (by exact blBy)) (G2.out.kept (by exact blBy)) (fun W hW cs ds x y => sameValT d HE.out W Z Z2 cs ds x y)).mono ?_
  rintro e w1 ⟨r1, rfl, hr, hb⟩
  have HR := hid hr
  clear hr
  have Bx : Blk w1 w.heap.size 29 #[.int .i64 x.num, .slice ka1 x.ks.length kc1, .slice va1 x.vs.length vc1] := ((Blk.new _ _ _).kept (below_alloc _)).kept hb
  have By : Blk w1 (w.heap.size + 1) 29 #[.int .i64 y.num, .slice ka2 y.ks.length kc2, .slice va2 y.vs.length vc2] := (Blk.newAt (by simp)).kept hb
  have hbz : Hid (Below w.heap.size w w1) := hid (bl_then (by exact blBy) hb)
  clear hb
  cases r1 with
  | false =>
    have HX : Hid (¬ x.ks = y.ks) := hid (fun e => (by have := HR.out.2 e; cases this))
    clear HR
    go_wp2
    go_ret
    exact EqR.no (fun e => HX.out (by rw [e])) hbz.out
  | true =>
  have e2 : Hid (x.ks = y.ks) := hid (HR.out.1 rfl)
  clear HR
  have xx := Bx.cellF
  have zx := Bx.lt
  have xy := By.cellF
  have zy := By.lt
  go_wp2_with fail
  refine (eqfV _ Z Z2 d x.vs y.vs va1 va2 vc1 vc2 (M1.out.kept hbz.out) (M2.out.kept hbz.out) (fun W hW cs ds x y => sameValT d HE.out W Z Z2 cs ds x y)).mono ?_
  rintro e w2 ⟨r2, rfl, hr, hb⟩
  have HR := hid hr
  clear hr
  replace Bx := Bx.kept hb
  replace By := By.kept hb
  replace hbz : Hid (Below w.heap.size w w2) := hid (bl_then (by have := hbz.out; exact blBy) hb)
  clear xx zx xy zy
  clear hb
  cases r2 with
  | false =>
    have HX : Hid (¬ x.vs = y.vs) := hid (fun e => (by have := HR.out.2 e; cases this))
    clear HR
    go_wp2
    go_ret
    exact EqR.no (fun e => HX.out (by rw [e])) hbz.out
  | true =>
  have e3 : Hid (x.vs = y.vs) := hid (HR.out.1 rfl)
  clear HR
  go_wp2
  go_ret
  exact EqR.yes (CF.ext3 He1.out e2.out e3.out) hbz.out
theorem equalT : ∀ d, EqAt d
  | 0 => fun _ _ _ _ _ _ _ h => h.elim
  | d + 1 => fun w Z Z2 cs ds x y h1 h2 => by
    have HE := hid (equalT d)
    obtain ⟨ka1, kc1, va1, vc1, rfl, g1, m1, -⟩ := msg_open h1
    obtain ⟨ka2, kc2, va2, vc2, rfl, g2, m2, -⟩ := msg_open h2
    have G1 := hid g1
    have G2 := hid g2
    have M1 := hid m1
    have M2 := hid m2
    clear g1 g2 h1 h2 m1 m2
    go_enter Tryz.func26, Tryz.ntmps26
    go_wp2_with fail
    refine (eqfF _ Z Z2 d x.fs y.fs ka1 ka2 kc1 kc2 (G1.out.kept (by exact blBy)) (G2.out.kept (by exact blBy)) (fun W hW cs ds x y => sameFieldT d HE.out W Z Z2 cs ds x y)).mono ?_
    rintro e w1 ⟨r1, rfl, hr, hb⟩
    have HR := hid hr
    clear hr
    have Bx : Blk w1 w.heap.size 35 #[.slice ka1 x.fs.length kc1, .slice va1 x.us.length vc1] := ((Blk.new _ _ _).kept (below_alloc _)).kept hb
    have By : Blk w1 (w.heap.size + 1) 35 #[.slice ka2 y.fs.length kc2, .slice va2 y.us.length vc2] := (Blk.newAt (by simp)).kept hb
    have hbz : Hid (Below w.heap.size w w1) := hid (bl_then (by exact blBy) hb)
    clear hb
    cases r1 with
    | false =>
      have HX : Hid (¬ x.fs = y.fs) := hid (fun e => (by have := HR.out.2 e; cases this))
      clear HR
      go_wp2
      go_ret
      exact EqR.no (fun e => HX.out (by rw [e])) hbz.out
    | true =>
    have e2 : Hid (x.fs = y.fs) := hid (HR.out.1 rfl)
    clear HR
    have xx := Bx.cellF
    have zx := Bx.lt
    have xy := By.cellF
    have zy := By.lt
    go_wp2_with fail
    refine (eqfE _ Z Z2 x.us y.us va1 va2 vc1 vc2 (M1.out.kept hbz.out) (M2.out.kept hbz.out) (fun W hW cs ds x y => sameEntryT W Z Z2 cs ds x y)).mono ?_
    rintro e w2 ⟨r2, rfl, hr, hb⟩
    have HR := hid hr
    clear hr
    replace Bx := Bx.kept hb
    replace By := By.kept hb
    replace hbz : Hid (Below w.heap.size w w2) := hid (bl_then (by have := hbz.out; exact blBy) hb)
    clear xx zx xy zy
    clear hb
    cases r2 with
    | false =>
      have HX : Hid (¬ x.us = y.us) := hid (fun e => (by have := HR.out.2 e; cases this))
      clear HR
      go_wp2
      go_ret
      exact EqR.no (fun e => HX.out (by rw [e])) hbz.out
    | true =>
    have e3 : Hid (x.us = y.us) := hid (HR.out.1 rfl)
    clear HR
    go_wp2
    go_ret
    exact EqR.yes (CM.ext e2.out e3.out) hbz.out
end Go.Proofs.YtgephggcgopfgaaGreatDoor
namespace Go.Proofs.YtgephggcgopfgaaGreatDoor
open Go.RowKit
set_option maxRecDepth 1000000
set_option linter.unusedVariables false
set_option linter.unusedSimpArgs false
set_option maxHeartbeats 2000000
theorem bl_drewW (w : World) : Below w.heap.size w w.drew := below_drew1 w
theorem sameD (w : World) (Z Z2 : Nat → Prop) (cs ds : List Value) (x y : CE) (h1 : EntE w Z cs x) (h2 : EntE w Z2 ds y) : Calls Tryz.prog 108 #[.agg cs.toArray, .agg ds.toArray] w (EqR w (x = y)) := by
  obtain ⟨ka1, kc1, rfl, g1, -⟩ := ent_open h1
  obtain ⟨ka2, kc2, rfl, g2, -⟩ := ent_open h2
  have k1 := by_conv (g1.kept (by exact blBy : Below w.heap.size w ((w.alloc (.cells #[.int .i64 x.num, .int .i64 x.kind, .int .u64 x.n, .slice ka1 x.b.length kc1] 40)).alloc (.cells #[.int .i64 y.num, .int .i64 y.kind, .int .u64 y.n, .slice ka2 y.b.length kc2] 40))))
  have k2 := by_conv (g2.kept (by exact blBy : Below w.heap.size w ((w.alloc (.cells #[.int .i64 x.num, .int .i64 x.kind, .int .u64 x.n, .slice ka1 x.b.length kc1] 40)).alloc (.cells #[.int .i64 y.num, .int .i64 y.kind, .int .u64 y.n, .slice ka2 y.b.length kc2] 40))))
  have HS := str_eq (xs := x.b) (ys := y.b) (fun v hv => g1.2.1 v hv) (fun v hv => g2.2.1 v hv)
  clear g1 g2 h1 h2
  go_enter Tryz.func108, Tryz.ntmps108
  by_cases e1 : x.num = y.num
  case neg =>
    have kq : (x.num == y.num) = false := by simpa using e1
    have HX := hid e1
    clear e1
    go_wp2
    go_ret
    exact EqR.no (fun e => HX.out (by rw [e])) (by exact blBy)
  have kqe1 : (x.num == y.num) = true := by simpa using e1
  have He1 := hid e1
  clear e1
  by_cases e2 : x.kind = y.kind
  case neg =>
    have kq : (x.kind == y.kind) = false := by simpa using e2
    have HX := hid e2
    clear e2
    go_wp2
    go_ret
    exact EqR.no (fun e => HX.out (by rw [e])) (by exact blBy)
  have kqe2 : (x.kind == y.kind) = true := by simpa using e2
  have He2 := hid e2
  clear e2
  by_cases e3 : x.n = y.n
  case neg =>
    have kq : (x.n == y.n) = false := by simpa using e3
    have HX := hid e3
    clear e3
    go_wp2
    go_ret
    exact EqR.no (fun e => HX.out (by rw [e])) (by exact blBy)
  have kqe3 : (x.n == y.n) = true := by simpa using e3
  have He3 := hid e3
  clear e3
  by_cases e4 : x.b = y.b
  · rw [decide_eq_true e4] at HS
    have He4 := hid e4
    clear e4
    go_wp2
    go_ret
    exact EqR.yes (CE.ext4 He1.out He2.out He3.out He4.out) (by exact blBy)
  · rw [decide_eq_false e4] at HS
    have HX := hid e4
    clear e4
    go_wp2
    go_ret
    exact EqR.no (fun e => HX.out (by rw [e])) (by exact blBy)
theorem listD (w : World) (Z Z2 : Nat → Prop) (xs ys : List CE) (a1 a2 : Option Addr) (c1 c2 : Nat) (h1 : EnsR w Z (.slice a1 xs.length c1) xs) (h2 : EnsR w Z2 (.slice a2 ys.length c2) ys) : Calls Tryz.prog 59 #[.slice a1 xs.length c1, .slice a2 ys.length c2] w (EqR w (xs = ys)) := by
  obtain ⟨_, _, e1, l1⟩ := RowM.sl h1
  clear e1
  have m1 : (xs.length : Int) ≤ 9223372036854775807 := by omega
  have H1 := hid h1
  have H2 := hid h2
  clear h1 h2
  by_cases hl : xs.length = ys.length
  · have HL := hid hl
    rw [← hl] at H2
    rw [← hl]
    clear hl
    go_enter Tryz.func59, Tryz.ntmps59
    go_wp2
    go_loopw [5] (fun r wr => ∃ j : Nat, r = .int .i64 j ∧ j ≤ xs.length ∧ Hid (xs.take j = ys.take j) ∧ Hid (Below w.heap.size w wr)) (fun r wr => xs.length - numAt wr r)
    case atStart => exact ⟨0, rfl, by omega, hid rfl, hid (Below.refl _ _)⟩
    case round =>
      obtain ⟨j, rfl, hj, hT, hb⟩ := hrel
      by_cases hlt : j < xs.length
      · have k2 : (j : Int) < (xs.length : Int) := by omega
        have hlt2 : j < ys.length := by have := HL.out; omega
        obtain ⟨b1, o1, ka1, kc1, rfl, -, hb1, c10, c11, c12, c13, he1⟩ := ens_at (H1.out.kept hb.out) hlt
        obtain ⟨b2, o2, ka2, kc2, rfl, -, hb2, c20, c21, c22, c23, he2⟩ := ens_at (H2.out.kept hb.out) hlt2
        have HE1 := hid he1
        have HE2 := hid he2
        have HN := hid (fun h => take_next hlt hlt2 hT.out h)
        have HNO := hid (fun h => ne_at (xs := xs) (ys := ys) hlt hlt2 h)
        clear he1 he2
        generalize xs[j] = x at *
        generalize ys[j] = y at *
        go_wp2_with fail
        go_region_with (go_at_call 108; refine (sameD _ Z Z2 [.int .i64 x.num, .int .i64 x.kind, .int .u64 x.n, .slice ka1 x.b.length kc1] [.int .i64 y.num, .int .i64 y.kind, .int .u64 y.n, .slice ka2 y.b.length kc2] x y (HE1.out.kept (bl_drewW _)) (HE2.out.kept (bl_drewW _))).mono ?_; rintro e w1 ⟨r, rfl, hr, hbx⟩; replace hr := hid hr; replace hbx : Hid (Below w.heap.size w w1) := hid (bl_then (bl_drew hb.out) hbx))
        all_goals
          cases r with
          | true =>
            have HX : Hid (x = y) := hid (hr.out.1 rfl)
            clear hr
            go_wp2
            exact ⟨⟨j + 1, by simp, by omega, hid (HN.out HX.out), hbx⟩, by simp [numAt]; omega⟩
          | false =>
            have HX : Hid (¬ x = y) := hid (fun e => (by have := hr.out.2 e; cases this))
            clear hr
            go_wp2
            go_ret
            exact EqR.no (HNO.out HX.out) hbx.out
      · have k2 : ¬ (j : Int) < (xs.length : Int) := by omega
        go_wp2
        go_ret
        exact EqR.yes (take_all (by omega) (by have := HL.out; omega) hT.out) hb.out
  · have q0 : ((xs.length : Int) == (ys.length : Int)) = false := by simp; omega
    have HL := hid hl
    clear hl
    go_enter Tryz.func59, Tryz.ntmps59
    go_wp2
    go_ret
    exact EqR.no (fun q => HL.out (by rw [q])) (Below.refl _ _)
/-- The document's Equal at a depth. -/
def EqDAt (d : Nat) : Prop := ∀ (w : World) (Z Z2 : Nat → Prop) (cs ds : List Value) (m m' : CM), MsgE w Z d cs m → MsgE w Z2 d ds m' → Calls Tryz.prog 27 #[.agg cs.toArray, .agg ds.toArray] w (EqR w (m = m'))
theorem valsD (d : Nat) (HE : EqDAt d) (w : World) (Z Z2 : Nat → Prop) (xs ys : List (CV CM)) (a1 a2 : Option Addr) (c1 c2 : Nat) (h1 : VlsR w Z d (.slice a1 xs.length c1) xs) (h2 : VlsR w Z2 d (.slice a2 ys.length c2) ys) : Calls Tryz.prog 64 #[.slice a1 xs.length c1, .slice a2 ys.length c2] w (EqR w (xs = ys)) := by
  obtain ⟨_, _, e1, l1⟩ := RowM.sl h1
  clear e1
  have m1 : (xs.length : Int) ≤ 9223372036854775807 := by omega
  have H1 := hid h1
  have H2 := hid h2
  replace HE := hid HE
  clear h1 h2
  by_cases hl : xs.length = ys.length
  · have HL := hid hl
    rw [← hl] at H2
    rw [← hl]
    clear hl
    go_enter Tryz.func64, Tryz.ntmps64
    go_wp2
    go_loopw [5] (fun r wr => ∃ j : Nat, r = .int .i64 j ∧ j ≤ xs.length ∧ Hid (xs.take j = ys.take j) ∧ Hid (Below w.heap.size w wr)) (fun r wr => xs.length - numAt wr r)
    case atStart => exact ⟨0, rfl, by omega, hid rfl, hid (Below.refl _ _)⟩
    case round =>
      obtain ⟨j, rfl, hj, hT, hb⟩ := hrel
      by_cases hlt : j < xs.length
      · have k2 : (j : Int) < (xs.length : Int) := by omega
        have hlt2 : j < ys.length := by have := HL.out; omega
        obtain ⟨b1, o1, ka1, kc1, va1, vc1, rfl, -, hb1, c10, c11, c12, he1⟩ := vls_at (H1.out.kept hb.out) hlt
        obtain ⟨b2, o2, ka2, kc2, va2, vc2, rfl, -, hb2, c20, c21, c22, he2⟩ := vls_at (H2.out.kept hb.out) hlt2
        obtain ⟨_, _, _, _, e1, g1, q1, -, ml1, -⟩ := val_open he1
        simp only [List.cons.injEq, Value.slice.injEq, true_and, and_true] at e1
        obtain ⟨⟨rfl, rfl⟩, rfl, rfl⟩ := e1
        obtain ⟨_, _, _, _, e2, g2, q2, -, ml2, -⟩ := val_open he2
        simp only [List.cons.injEq, Value.slice.injEq, true_and, and_true] at e2
        obtain ⟨⟨rfl, rfl⟩, rfl, rfl⟩ := e2
        have Q1 := hid q1
        have Q2 := hid q2
        have HN := hid (fun h => take_next hlt hlt2 hT.out h)
        have HNO := hid (fun h => ne_at (xs := xs) (ys := ys) hlt hlt2 h)
        have HS := str_eq (xs := xs[j].b) (ys := ys[j].b) (fun v hv => g1.2.1 v hv) (fun v hv => g2.2.1 v hv)
        have k3 : ∀ z, (convert 23 9 (.slice ka1 xs[j].b.length kc1)).run Tryz.prog (wr.drewN z) = .ok (.string (strOfNums xs[j].b)) (wr.drewN z) := fun z => by_conv (g1.kept (below_drewN _ _))
        have k4 : ∀ z, (convert 23 9 (.slice ka2 ys[j].b.length kc2)).run Tryz.prog (wr.drewN z) = .ok (.string (strOfNums ys[j].b)) (wr.drewN z) := fun z => by_conv (g2.kept (below_drewN _ _))
        clear he1 he2 g1 g2 q1 q2
        generalize xs[j] = x at *
        generalize ys[j] = y at *
        have ml3 : (x.ms.length : Int) ≤ 9223372036854775807 := by omega
        by_cases e1 : x.n = y.n
        case neg =>
          have kq : (x.n == y.n) = false := by simpa using e1
          have kn : (x.n != y.n) = true := by simp [bne, kq]
          have HX : Hid (¬ x = y) := hid (fun e => e1 (by rw [e]))
          clear e1
          go_wp2
          go_quiet (fail)
          go_wp2
          go_ret
          exact EqR.no (HNO.out HX.out) (by have := hb.out; exact blBy)
        have kq1 : (x.n == y.n) = true := by simpa using e1
        have kn1 : (x.n != y.n) = false := by simp only [bne, kq1, Bool.not_true]
        have He1 := hid e1
        clear e1
        by_cases e2 : x.b = y.b
        case neg =>
          rw [decide_eq_false e2] at HS
          have ks : ((strOfNums x.b).toList != (strOfNums y.b).toList) = true := by simp only [bne, HS, Bool.not_false]
          have HX : Hid (¬ x = y) := hid (fun e => e2 (by rw [e]))
          clear e2
          go_wp2
          go_quiet (fail)
          go_wp2
          go_ret
          exact EqR.no (HNO.out HX.out) (by have := hb.out; exact blBy)
        rw [decide_eq_true e2] at HS
        have ks : ((strOfNums x.b).toList != (strOfNums y.b).toList) = false := by simp only [bne, HS, Bool.not_true]
        have He2 := hid e2
        clear e2
        by_cases e3 : x.ms.length = y.ms.length
        case neg =>
          have kq3 : ((x.ms.length : Int) == (y.ms.length : Int)) = false := by simp; omega
          have kn3 : ((x.ms.length : Int) != (y.ms.length : Int)) = true := by simp only [bne, kq3, Bool.not_false]
          have kn4 : (x.ms.length != y.ms.length) = true := by simpa using e3
          have HX : Hid (¬ x = y) := hid (fun e => e3 (by rw [e]))
          clear e3
          go_wp2
          go_quiet (fail)
          go_wp2
          go_ret
          exact EqR.no (HNO.out HX.out) (by have := hb.out; exact blBy)
        have He3 := hid e3
        rw [← e3] at c22 Q2
        clear e3 ml2
        go_wp2
        go_quiet (fail)
        replace hb : Hid (Below w.heap.size w (wr.drewN nq)) := hid (by have := hb.out; exact blBy)
        replace c12 := cell_below c12 (below_drewN wr nq)
        replace c22 := cell_below c22 (below_drewN wr nq)
        replace Q1 := hid (Q1.out.kept (below_drewN wr nq))
        replace Q2 := hid (Q2.out.kept (below_drewN wr nq))
        clear c10 c11 c20 c21 k3 k4 HS ks hb1 hb2
        generalize wr.drewN nq = wq at *
        have hb1 : b1 < wq.heap.size := World.block_lt_of_cell? _ _ c12
        have hb2 : b2 < wq.heap.size := World.block_lt_of_cell? _ _ c22
        have C1 := hid c12
        have C2 := hid c22
        clear c12 c22
        go_wp2
        go_loopw [6] (fun r wr => ∃ i : Nat, r = .int .i64 i ∧ i ≤ x.ms.length ∧ Hid (x.ms.take i = y.ms.take i) ∧ Hid (Below wq.heap.size wq wr)) (fun r wr => x.ms.length - numAt wr r)
        case atStart => exact ⟨0, rfl, by omega, hid rfl, hid (Below.refl _ _)⟩
        case round =>
          obtain ⟨i, rfl, hi, hTi, hbi⟩ := hrel
          have c12 := cell_below C1.out hbi.out
          have c22 := cell_below C2.out hbi.out
          by_cases hil : i < x.ms.length
          · have k5 : (i : Int) < (x.ms.length : Int) := by omega
            have hil2 : i < y.ms.length := by have := He3.out; omega
            obtain ⟨p1, r1, fa1, fc1, ua1, uc1, rfl, -, hp1, m10, m11, hm1⟩ := mgs_at' (Q1.out.kept hbi.out) hil
            obtain ⟨p2, r2, fa2, fc2, ua2, uc2, rfl, -, hp2, m20, m21, hm2⟩ := mgs_at' (Q2.out.kept hbi.out) hil2
            have HM1 := hid hm1
            have HM2 := hid hm2
            have HNi := hid (fun h => take_next hil hil2 hTi.out h)
            have HNOi := hid (fun h => ne_at (xs := x.ms) (ys := y.ms) hil hil2 h)
            clear hm1 hm2
            generalize x.ms[i] = mx at *
            generalize y.ms[i] = my at *
            go_wp2_with fail
            go_region_with (go_at_call 27; refine (HE.out _ Z Z2 [.slice fa1 mx.fs.length fc1, .slice ua1 mx.us.length uc1] [.slice fa2 my.fs.length fc2, .slice ua2 my.us.length uc2] mx my (HM1.out.kept (bl_drewW _)) (HM2.out.kept (bl_drewW _))).mono ?_; rintro e w1 ⟨r, rfl, hr, hbx⟩; replace hr := hid hr; replace hbx : Hid (Below wq.heap.size wq w1) := hid (bl_then (bl_drew hbi.out) hbx))
            all_goals
              cases r with
              | true =>
                have HX : Hid (mx = my) := hid (hr.out.1 rfl)
                clear hr
                go_wp2
                exact ⟨⟨i + 1, by simp, by omega, hid (HNi.out HX.out), hbx⟩, by simp [numAt]; omega⟩
              | false =>
                have HX : Hid (¬ mx = my) := hid (fun e => (by have := hr.out.2 e; cases this))
                clear hr
                go_wp2
                go_ret
                exact EqR.no (HNO.out (fun e => HNOi.out HX.out (by rw [e]))) (below_trans hb.out hbx.out)
          · have k5 : ¬ (i : Int) < (x.ms.length : Int) := by omega
            go_wp2
            exact ⟨⟨j + 1, by simp, by omega, hid (HN.out (CV.ext3 He1.out He2.out (take_all (by omega) (by have := He3.out; omega) hTi.out))), hid (below_trans hb.out hbi.out)⟩, by simp [numAt]; omega⟩
      · have k2 : ¬ (j : Int) < (xs.length : Int) := by omega
        go_wp2
        go_ret
        exact EqR.yes (take_all (by omega) (by have := HL.out; omega) hT.out) hb.out
  · have q0 : ((xs.length : Int) == (ys.length : Int)) = false := by simp; omega
    have HL := hid hl
    clear hl
    go_enter Tryz.func64, Tryz.ntmps64
    go_wp2
    go_ret
    exact EqR.no (fun q => HL.out (by rw [q])) (Below.refl _ _)
end Go.Proofs.YtgephggcgopfgaaGreatDoor
namespace Go.Proofs.YtgephggcgopfgaaGreatDoor
open Go.RowKit
set_option maxRecDepth 1000000
set_option linter.unusedVariables false
set_option linter.unusedSimpArgs false
set_option maxHeartbeats 2000000
theorem sameFieldD (d : Nat) (HE : EqDAt d) (w : World) (Z Z2 : Nat → Prop) (cs ds : List Value) (x y : CF CM) (h1 : FldE w Z (MsgE w Z d) cs x) (h2 : FldE w Z2 (MsgE w Z2 d) ds y) : Calls Tryz.prog 30 #[.agg cs.toArray, .agg ds.toArray] w (EqR w (x = y)) := by
  obtain ⟨ka1, kc1, va1, vc1, rfl, g1, m1, -⟩ := fld_open h1
  obtain ⟨ka2, kc2, va2, vc2, rfl, g2, m2, -⟩ := fld_open h2
  have G1 := hid g1
  have G2 := hid g2
  have M1 := hid m1
  have M2 := hid m2
  replace HE := hid HE
  clear g1 g2 h1 h2 m1 m2
  go_enter Tryz.func30, Tryz.ntmps30
  by_cases e1 : x.num = y.num
  case neg =>
    have kq : (x.num == y.num) = false := by simpa using e1
    have HX := hid e1
    clear e1
    go_wp2
    go_ret
    exact EqR.no (fun e => HX.out (by rw [e])) (by exact blBy)
  have kqe1 : (x.num == y.num) = true := by simpa using e1
  have He1 := hid e1
  clear e1
  go_wp2_with fail
  refine (valsD d HE.out _ Z Z2 x.ks y.ks ka1 ka2 kc1 kc2 (G1.out.kept (by exact blBy)) (G2.out.kept (by exact blBy))).mono ?_
  rintro e w1 ⟨r1, rfl, hr, hb⟩
  have HR := hid hr
  clear hr
  have Bx : Blk w1 w.heap.size 29 #[.int .i64 x.num, .slice ka1 x.ks.length kc1, .slice va1 x.vs.length vc1] := ((Blk.new _ _ _).kept (below_alloc _)).kept hb
  have By : Blk w1 (w.heap.size + 1) 29 #[.int .i64 y.num, .slice ka2 y.ks.length kc2, .slice va2 y.vs.length vc2] := (Blk.newAt (by simp)).kept hb
  have hbz : Hid (Below w.heap.size w w1) := hid (bl_then (by exact blBy) hb)
  clear hb
  cases r1 with
  | false =>
    have HX : Hid (¬ x.ks = y.ks) := hid (fun e => (by have := HR.out.2 e; cases this))
    clear HR
    go_wp2
    go_ret
    exact EqR.no (fun e => HX.out (by rw [e])) hbz.out
  | true =>
  have e2 : Hid (x.ks = y.ks) := hid (HR.out.1 rfl)
  clear HR
  have xx := Bx.cellF
  have zx := Bx.lt
  have xy := By.cellF
  have zy := By.lt
  go_wp2_with fail
  refine (valsD d HE.out _ Z Z2 x.vs y.vs va1 va2 vc1 vc2 (M1.out.kept hbz.out) (M2.out.kept hbz.out)).mono ?_
  rintro e w2 ⟨r2, rfl, hr, hb⟩
  have HR := hid hr
  clear hr
  replace Bx := Bx.kept hb
  replace By := By.kept hb
  replace hbz : Hid (Below w.heap.size w w2) := hid (bl_then (by have := hbz.out; exact blBy) hb)
  clear xx zx xy zy
  clear hb
  cases r2 with
  | false =>
    have HX : Hid (¬ x.vs = y.vs) := hid (fun e => (by have := HR.out.2 e; cases this))
    clear HR
    go_wp2
    go_ret
    exact EqR.no (fun e => HX.out (by rw [e])) hbz.out
  | true =>
  have e3 : Hid (x.vs = y.vs) := hid (HR.out.1 rfl)
  clear HR
  go_wp2
  go_ret
  exact EqR.yes (CF.ext3 He1.out e2.out e3.out) hbz.out
theorem equalD : ∀ d, EqDAt d
  | 0 => fun _ _ _ _ _ _ _ h => h.elim
  | d + 1 => fun w Z Z2 cs ds x y h1 h2 => by
    have HE := hid (equalD d)
    obtain ⟨ka1, kc1, va1, vc1, rfl, g1, m1, lf1, -⟩ := msg_open h1
    obtain ⟨ka2, kc2, va2, vc2, rfl, g2, m2, -⟩ := msg_open h2
    have G1 := hid g1
    have G2 := hid g2
    have M1 := hid m1
    have M2 := hid m2
    have ln : (x.fs.length : Int) ≤ 9223372036854775807 := by omega
    clear g1 g2 h1 h2 m1 m2
    by_cases hl : x.fs.length = y.fs.length
    · have HL := hid hl
      rw [← hl] at G2
      rw [← hl]
      clear hl
      go_enter Tryz.func27, Tryz.ntmps27
      go_wp2_with fail
      refine (listD _ Z Z2 x.us y.us va1 va2 vc1 vc2 (M1.out.kept (by exact blBy)) (M2.out.kept (by exact blBy))).mono ?_
      rintro e w1 ⟨r1, rfl, hr, hb⟩
      have HR := hid hr
      have Bx : Blk w1 w.heap.size 35 #[.slice ka1 x.fs.length kc1, .slice va1 x.us.length vc1] := ((Blk.new _ _ _).kept (below_alloc _)).kept hb
      have By : Blk w1 (w.heap.size + 1) 35 #[.slice ka2 x.fs.length kc2, .slice va2 y.us.length vc2] := (Blk.newAt (by simp)).kept hb
      have hbz : Hid (Below w.heap.size w w1) := hid (bl_then (by exact blBy) hb)
      clear hb hr
      cases r1 with
      | false =>
        have HX : Hid (¬ x.us = y.us) := hid (fun e => (by have := HR.out.2 e; cases this))
        clear HR
        go_wp2
        go_ret
        exact EqR.no (fun e => HX.out (by rw [e])) hbz.out
      | true =>
      have HU : Hid (x.us = y.us) := hid (HR.out.1 rfl)
      clear HR
      have HBx := hid Bx
      have HBy := hid By
      clear Bx By
      go_wp2
      go_loopw [5] (fun r wr => ∃ j : Nat, r = .int .i64 j ∧ j ≤ x.fs.length ∧ Hid (x.fs.take j = y.fs.take j) ∧ Hid (Below w1.heap.size w1 wr)) (fun r wr => x.fs.length - numAt wr r)
      case atStart => exact ⟨0, rfl, by omega, hid rfl, hid (Below.refl _ _)⟩
      case round =>
        obtain ⟨j, rfl, hj, hT, hb⟩ := hrel
        have Bx := HBx.out.kept hb.out
        have By := HBy.out.kept hb.out
        have xx := Bx.cellF
        have zx := Bx.lt
        have xy := By.cellF
        have zy := By.lt
        clear Bx By
        by_cases hlt : j < x.fs.length
        · have k2 : (j : Int) < (x.fs.length : Int) := by omega
          have hlt2 : j < y.fs.length := by have := HL.out; omega
          obtain ⟨p1, o1, pa1, pc1, qa1, qc1, rfl, -, hp1, c10, c11, c12, he1⟩ := fls_at (G1.out.kept (below_trans hbz.out hb.out)) hlt
          obtain ⟨p2, o2, pa2, pc2, qa2, qc2, rfl, -, hp2, c20, c21, c22, he2⟩ := fls_at (G2.out.kept (below_trans hbz.out hb.out)) hlt2
          have HE1 := hid he1
          have HE2 := hid he2
          have HN := hid (fun h => take_next hlt hlt2 hT.out h)
          have HNO := hid (fun h => ne_at (xs := x.fs) (ys := y.fs) hlt hlt2 h)
          clear he1 he2
          generalize x.fs[j] = f at *
          generalize y.fs[j] = g at *
          go_wp2_with fail
          go_region_with (go_at_call 30; refine (sameFieldD d HE.out _ Z Z2 [.int .i64 f.num, .slice pa1 f.ks.length pc1, .slice qa1 f.vs.length qc1] [.int .i64 g.num, .slice pa2 g.ks.length pc2, .slice qa2 g.vs.length qc2] f g (HE1.out.kept (bl_drewW _)) (HE2.out.kept (bl_drewW _))).mono ?_; rintro e w2 ⟨r, rfl, hr, hbx⟩; replace hr := hid hr; replace hbx : Hid (Below w1.heap.size w1 w2) := hid (bl_then (bl_drew hb.out) hbx))
          all_goals
            cases r with
            | true =>
              have HX : Hid (f = g) := hid (hr.out.1 rfl)
              clear hr
              go_wp2
              exact ⟨⟨j + 1, by simp, by omega, hid (HN.out HX.out), hbx⟩, by simp [numAt]; omega⟩
            | false =>
              have HX : Hid (¬ f = g) := hid (fun e => (by have := hr.out.2 e; cases this))
              clear hr
              go_wp2
              go_ret
              exact EqR.no (fun e => HNO.out HX.out (by rw [e])) (below_trans hbz.out hbx.out)
        · have k2 : ¬ (j : Int) < (x.fs.length : Int) := by omega
          go_wp2
          go_ret
          exact EqR.yes (CM.ext (take_all (by omega) (by have := HL.out; omega) hT.out) HU.out) (below_trans hbz.out hb.out)
    · have q0 : ((x.fs.length : Int) == (y.fs.length : Int)) = false := by simp; omega
      have HL := hid hl
      clear hl
      go_enter Tryz.func27, Tryz.ntmps27
      go_wp2
      go_ret
      exact EqR.no (fun q => HL.out (by rw [q])) (by exact blBy)
end Go.Proofs.YtgephggcgopfgaaGreatDoor
namespace Go.Proofs.YtgephggcgopfgaaGreatDoor
set_option linter.unusedVariables false
set_option linter.unusedSimpArgs false
/-- The greatest depth so far, behind a message at the depth k. -/
def dpW : Nat → Nat → Nat → CM → Nat
  | 0, _, g, _ => g
  | d + 1, k, g, m => m.fs.foldl (fun a f => (allM f).foldl (fun a z => dpW d (k + 1) a z) a) (max g k)
theorem mxL_cons {α : Type} (f : α → Nat) (a : Nat) (x : α) (l : List α) : mxL f a (x :: l) = mxL f (max a (f x)) l := rfl
theorem mxL_app {α : Type} (f : α → Nat) (a : Nat) (l r : List α) : mxL f a (l ++ r) = mxL f (mxL f a l) r := by
  unfold mxL
  exact List.foldl_append
theorem mxL_base {α : Type} (f : α → Nat) : ∀ (l : List α) (a : Nat), mxL f a l = max a (mxL f 0 l)
  | [], a => by simp [mxL]
  | x :: l, a => by
    rw [mxL_cons, mxL_cons, mxL_base f l (max a (f x)), mxL_base f l (max 0 (f x))]
    omega
theorem depVs_mx (dm : CM → Nat) : ∀ (l : List (CV CM)) (a : Nat), depVs dm a l = mxL dm a (l.flatMap CV.ms)
  | [], a => rfl
  | v :: r, a => by
    rw [List.flatMap_cons, mxL_app]
    exact depVs_mx dm r (mxL dm a v.ms)
theorem depF_mx (dm : CM → Nat) (a : Nat) (f : CF CM) : max (max a (depVs dm 0 f.ks)) (depVs dm 0 f.vs) = mxL dm a (allM f) := by
  unfold allM
  rw [mxL_app, depVs_mx, depVs_mx, mxL_base dm _ (mxL dm a _), mxL_base dm _ a]
theorem depFs_mx (dm : CM → Nat) : ∀ (l : List (CF CM)) (a : Nat), l.foldl (fun a f => max (max a (depVs dm 0 f.ks)) (depVs dm 0 f.vs)) a = mxL dm a (l.flatMap allM)
  | [], a => rfl
  | f :: r, a => by
    rw [List.foldl_cons, List.flatMap_cons, mxL_app, depF_mx]
    exact depFs_mx dm r _
theorem depM_succ (d : Nat) (m : CM) : depM (d + 1) m = mxL (depM d) 0 (m.fs.flatMap allM) + 1 := by
  rw [← depFs_mx]
  rfl
theorem mxL_ge {α : Type} (f : α → Nat) (l : List α) (a : Nat) : a ≤ mxL f a l := by rw [mxL_base]; exact Nat.le_max_left _ _
theorem fold_mx {F : Nat → CM → Nat} {G : CM → Nat} {c : Nat} (h : ∀ a z, c ≤ a → F a z = max a (G z)) : ∀ (l : List CM) (a : Nat), c ≤ a → l.foldl F a = mxL G a l
  | [], a, _ => rfl
  | z :: l, a, ha => by
    rw [List.foldl_cons, mxL_cons, h a z ha]
    exact fold_mx h l _ (Nat.le_trans ha (Nat.le_max_left _ _))
theorem foldF_mx {F : Nat → CM → Nat} {G : CM → Nat} {c : Nat} (h : ∀ a z, c ≤ a → F a z = max a (G z)) : ∀ (l : List (CF CM)) (a : Nat), c ≤ a → l.foldl (fun a f => (allM f).foldl F a) a = mxL G a (l.flatMap allM)
  | [], a, _ => rfl
  | f :: l, a, ha => by
    rw [List.foldl_cons, List.flatMap_cons, mxL_app, fold_mx h _ _ ha]
    exact foldF_mx h l _ (Nat.le_trans ha (mxL_ge _ _ _))
theorem mxL_add (G : CM → Nat) (k : Nat) : ∀ (l : List CM) (a : Nat), k ≤ a → mxL (fun z => k + G z) a l = max a (k + mxL G 0 l)
  | [], a, ha => by
    show a = max a (k + 0)
    omega
  | z :: l, a, ha => by
    rw [mxL_cons, mxL_cons, mxL_add G k l _ (by omega), mxL_base G l (max 0 (G z))]
    omega
theorem dpW_eq : ∀ (d k g : Nat) (m : CM), k ≤ g → dpW d (k + 1) g m = max g (k + depM d m)
  | 0, k, g, m, h => by
    show g = max g (k + 0)
    omega
  | d + 1, k, g, m, h => by
    rw [depM_succ]
    show m.fs.foldl (fun a f => (allM f).foldl (fun a z => dpW d (k + 1 + 1) a z) a) (max g (k + 1)) = _
    rw [foldF_mx (c := k + 1) (G := fun z => (k + 1) + depM d z) (fun a z ha => dpW_eq d (k + 1) a z ha) _ _ (by omega), mxL_add _ _ _ _ (by omega)]
    omega
theorem dpW_le (d k g B : Nat) (m : CM) (h1 : k ≤ g) (h2 : g ≤ B) (h3 : k + d ≤ B) : dpW d (k + 1) g m ≤ B := by
  rw [dpW_eq d k g m h1]
  have := depM_le d m
  omega
theorem dpW_ge (d k g : Nat) (m : CM) (h1 : k ≤ g) : g ≤ dpW d (k + 1) g m := by
  rw [dpW_eq d k g m h1]
  exact Nat.le_max_left _ _
theorem dpL_le (d k B : Nat) : ∀ (l : List CM) (g : Nat), k ≤ g → g ≤ B → k + d ≤ B → l.foldl (fun a z => dpW d (k + 1) a z) g ≤ B ∧ g ≤ l.foldl (fun a z => dpW d (k + 1) a z) g
  | [], g, _, h2, _ => ⟨h2, Nat.le_refl _⟩
  | z :: l, g, h1, h2, h3 => by
    rw [List.foldl_cons]
    obtain ⟨a, b⟩ := dpL_le d k B l _ (Nat.le_trans h1 (dpW_ge d k g z h1)) (dpW_le d k g B z h1 h2 h3) h3
    exact ⟨a, Nat.le_trans (dpW_ge d k g z h1) b⟩
theorem depth_of (d : Nat) (m : CM) : dpW d 1 0 m = depM d m := by
  rw [dpW_eq d 0 0 m (Nat.le_refl _)]
  omega
end Go.Proofs.YtgephggcgopfgaaGreatDoor
