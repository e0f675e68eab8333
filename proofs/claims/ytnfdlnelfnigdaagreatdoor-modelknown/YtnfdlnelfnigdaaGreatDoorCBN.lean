/-
  What stays of a typed message: its lists; whether all stays.
  Whether a message is normal.
  Settle: what the program answers, at every depth.
  Settle: what the program answers.
-/
import Derived.Test.YtnfdlnelfnigdaaGreatDoorCw8M
import Derived.Test.YtnfdlnelfnigdaaGreatDoorCAO
namespace Go.Proofs.YtnfdlnelfnigdaaGreatDoor
open Go.RowKit
set_option maxRecDepth 1000000
set_option linter.unusedVariables false
set_option linter.unusedSimpArgs false
set_option maxHeartbeats 1000000
def untk (fs : List FT) (e : CE) : Bool := !(takenB fs e)
theorem toldFn (w : World) (x : TV) (hx : TyR w x) (hr : Rise x.t.fs) (hl : x.t.fs.length ≤ 128) (Z : Nat → Prop) (d : Nat) (cs : List Value) (f : CF CM) (hf : FldE w Z (MsgE w Z d) cs f) (hv : (ownF x.t.fs f.num).lab = 0 → 0 < f.vs.length) (p : Nat) (hp : Blk w p 66 (cTV x).toArray) : Calls Tryz.prog 68 #[.agg cs.toArray, .pointer (some ⟨p, 0, none⟩)] w fun e w' => e = .returned (.bool (toldB x.t.fs f)) ∧ Below w.heap.size w w' := by
  have HT := hid fun W (hW : Below w.heap.size w W) => isToldM W x (hx.kept hW) hr hl Z d cs f (hf.kept hW) hv
  obtain ⟨ta1, tc1, ta2, tc2, ta3, tc3, ta4, tc4, e1, e2, e3, e4⟩ := shT_of hx
  have ecx : cTV x = [.string (strOfNums x.t.name), .bool x.t.enum, .slice ta1 x.t.fs.length tc1, .slice ta2 x.t.os.length tc2, .slice ta3 x.t.ss.length tc3, .slice ta4 x.t.rs.length tc4] := by unfold cTV; rw [e1, e2, e3, e4]
  obtain ⟨ka, kc, va, vc, rfl, -⟩ := fld_open hf
  rw [ecx] at HT hp
  have xp := hp.cellF
  have zp := hp.lt
  clear hx hf e1 e2 e3 e4 ecx hp hr hl hv
  go_enter Tryz.func68, Tryz.ntmps68
  go_wp2_with fail
  refine (HT.out _ (by exact blBy)).mono ?_
  rintro e w1 ⟨rfl, hb1⟩
  have HB1 : Hid (Below w.heap.size w w1) := hid (bl_then (by exact blBy) hb1)
  clear hb1
  go_wp2
  go_ret
  exact ⟨rfl, HB1.out⟩
theorem untkFn (w : World) (x : TV) (hx : TyR w x) (hr : Rise x.t.fs) (hl : x.t.fs.length ≤ 128) (Z : Nat → Prop) (cs : List Value) (y : CE) (hy : EntE w Z cs y) (p : Nat) (hp : Blk w p 66 (cTV x).toArray) : Calls Tryz.prog 70 #[.agg cs.toArray, .pointer (some ⟨p, 0, none⟩)] w fun e w' => e = .returned (.bool (untk x.t.fs y)) ∧ Below w.heap.size w w' := by
  have HT := hid fun W (hW : Below w.heap.size w W) => isTakenM W x (hx.kept hW) hr hl Z cs y (hy.kept hW)
  obtain ⟨ta1, tc1, ta2, tc2, ta3, tc3, ta4, tc4, e1, e2, e3, e4⟩ := shT_of hx
  have ecx : cTV x = [.string (strOfNums x.t.name), .bool x.t.enum, .slice ta1 x.t.fs.length tc1, .slice ta2 x.t.os.length tc2, .slice ta3 x.t.ss.length tc3, .slice ta4 x.t.rs.length tc4] := by unfold cTV; rw [e1, e2, e3, e4]
  obtain ⟨ba, bc, rfl, -⟩ := ent_open hy
  have HX : Hid ((!(takenB x.t.fs y)) = untk x.t.fs y) := hid rfl
  rw [ecx] at HT hp
  have xp := hp.cellF
  have zp := hp.lt
  clear hx hy e1 e2 e3 e4 ecx hp hr hl
  go_enter Tryz.func70, Tryz.ntmps70
  go_wp2_with fail
  refine (HT.out _ (by exact blBy)).mono ?_
  rintro e w1 ⟨rfl, hb1⟩
  have HB1 : Hid (Below w.heap.size w w1) := hid (bl_then (by exact blBy) hb1)
  clear hb1
  go_wp2
  go_ret
  exact ⟨ret_bool HX.out, HB1.out⟩
theorem cfTold (args : Array Value) (W : World) : (callFunc 68 args).run Tryz.prog W = .ok (.enter 68 args) W := cf_enter Tryz.func68 (by kernel_rfl) (by kernel_rfl) args W
theorem cfUntk (args : Array Value) (W : World) : (callFunc 70 args).run Tryz.prog W = .ok (.enter 70 args) W := cf_enter Tryz.func70 (by kernel_rfl) (by kernel_rfl) args W
/-- What stays of a message, but for what the messages within hold. -/
def stayM (x : TV) (m : CM) : CM := CM.mk (m.fs.filter (toldB x.t.fs)) (m.us.filter (untk x.t.fs))
theorem settledM (w : World) (x : TV) (hx : TyR w x) (hr : Rise x.t.fs) (hl : x.t.fs.length ≤ 128) (Z : Nat → Prop) (d : Nat) (cs : List Value) (m : CM) (hm : MsgE w Z (d + 1) cs m) (hv : ∀ f ∈ m.fs, (ownF x.t.fs f.num).lab = 0 → 0 < f.vs.length) : Calls Tryz.prog 30 #[.agg (cTV x).toArray, .agg cs.toArray] w fun e w' => ∃ ds : List Value, e = .returned (.agg ds.toArray) ∧ MsgE w' (fun b => Z b ∨ w.heap.size ≤ b) (d + 1) ds (stayM x m) ∧ Below w.heap.size w w' := by
  obtain ⟨ka, kc, va, vc, rfl, g1, g2, l1, l2⟩ := msg_open (MsgE.old (d + 1) _ _ hm)
  have HTF := hid fun W (hW : Below w.heap.size w W) (p : Nat) (hp : Blk W p 66 (cTV x).toArray) => chosenF W (fun b => Z b ∧ b < w.heap.size) d m.fs ka kc (g1.kept hW) 68 #[.pointer (some ⟨p, 0, none⟩)] cfTold (toldB x.t.fs) (fun W' hW' cs f hf hfe => toldFn W' x (hx.kept (below_trans hW hW')) hr hl _ d cs f hfe (hv f hf) p (hp.kept hW'))
  have HTE := hid fun W (hW : Below w.heap.size w W) (p : Nat) (hp : Blk W p 66 (cTV x).toArray) => chosenE W (fun b => Z b ∧ b < w.heap.size) m.us va vc (g2.kept hW) 70 #[.pointer (some ⟨p, 0, none⟩)] cfUntk (untk x.t.fs) (fun W' hW' cs y hy hye => untkFn W' x (hx.kept (below_trans hW hW')) hr hl _ cs y hye p (hp.kept hW'))
  obtain ⟨ta1, tc1, ta2, tc2, ta3, tc3, ta4, tc4, e1, e2, e3, e4⟩ := shT_of hx
  have ecx : cTV x = [.string (strOfNums x.t.name), .bool x.t.enum, .slice ta1 x.t.fs.length tc1, .slice ta2 x.t.os.length tc2, .slice ta3 x.t.ss.length tc3, .slice ta4 x.t.rs.length tc4] := by unfold cTV; rw [e1, e2, e3, e4]
  rw [ecx] at HTF HTE ⊢
  have HST : Hid (stayM x m = CM.mk (m.fs.filter (toldB x.t.fs)) (m.us.filter (untk x.t.fs))) := hid rfl
  generalize stayM x m = res at *
  generalize m.fs.filter (toldB x.t.fs) = nf at *
  generalize m.us.filter (untk x.t.fs) = nu at *
  clear hx hm g1 g2 e1 e2 e3 e4 ecx hr hl hv
  go_enter Tryz.func30, Tryz.ntmps30
  go_upto_region 3 with fail
  have Bx : Blk (((w.alloc (.cells #[.string (strOfNums x.t.name), .bool x.t.enum, .slice ta1 x.t.fs.length tc1, .slice ta2 x.t.os.length tc2, .slice ta3 x.t.ss.length tc3, .slice ta4 x.t.rs.length tc4] 66)).alloc (.cells #[.slice ka m.fs.length kc, .slice va m.us.length vc] 35)).alloc (.cells #[.slice none 0 0, .slice none 0 0] 35)) w.heap.size 66 #[.string (strOfNums x.t.name), .bool x.t.enum, .slice ta1 x.t.fs.length tc1, .slice ta2 x.t.os.length tc2, .slice ta3 x.t.ss.length tc3, .slice ta4 x.t.rs.length tc4] := ((Blk.new _ _ _).kept (below_alloc _)).kept (below_alloc _)
  have Bm : Blk (((w.alloc (.cells #[.string (strOfNums x.t.name), .bool x.t.enum, .slice ta1 x.t.fs.length tc1, .slice ta2 x.t.os.length tc2, .slice ta3 x.t.ss.length tc3, .slice ta4 x.t.rs.length tc4] 66)).alloc (.cells #[.slice ka m.fs.length kc, .slice va m.us.length vc] 35)).alloc (.cells #[.slice none 0 0, .slice none 0 0] 35)) (w.heap.size + 1) 35 #[.slice ka m.fs.length kc, .slice va m.us.length vc] := (Blk.newAt (by simp)).kept (below_alloc _)
  have Br : Blk (((w.alloc (.cells #[.string (strOfNums x.t.name), .bool x.t.enum, .slice ta1 x.t.fs.length tc1, .slice ta2 x.t.os.length tc2, .slice ta3 x.t.ss.length tc3, .slice ta4 x.t.rs.length tc4] 66)).alloc (.cells #[.slice ka m.fs.length kc, .slice va m.us.length vc] 35)).alloc (.cells #[.slice none 0 0, .slice none 0 0] 35)) (w.heap.size + 1 + 1) 35 #[.slice none 0 0, .slice none 0 0] := Blk.newAt (by simp)
  have HB : Hid (Below w.heap.size w (((w.alloc (.cells #[.string (strOfNums x.t.name), .bool x.t.enum, .slice ta1 x.t.fs.length tc1, .slice ta2 x.t.os.length tc2, .slice ta3 x.t.ss.length tc3, .slice ta4 x.t.rs.length tc4] 66)).alloc (.cells #[.slice ka m.fs.length kc, .slice va m.us.length vc] 35)).alloc (.cells #[.slice none 0 0, .slice none 0 0] 35))) := hid (by exact blBy)
  have HS : Hid (w.heap.size + 3 ≤ (((w.alloc (.cells #[.string (strOfNums x.t.name), .bool x.t.enum, .slice ta1 x.t.fs.length tc1, .slice ta2 x.t.os.length tc2, .slice ta3 x.t.ss.length tc3, .slice ta4 x.t.rs.length tc4] 66)).alloc (.cells #[.slice ka m.fs.length kc, .slice va m.us.length vc] 35)).alloc (.cells #[.slice none 0 0, .slice none 0 0] 35)).heap.size) := hid (by simp)
  generalize (((w.alloc (.cells #[.string (strOfNums x.t.name), .bool x.t.enum, .slice ta1 x.t.fs.length tc1, .slice ta2 x.t.os.length tc2, .slice ta3 x.t.ss.length tc3, .slice ta4 x.t.rs.length tc4] 66)).alloc (.cells #[.slice ka m.fs.length kc, .slice va m.us.length vc] 35)).alloc (.cells #[.slice none 0 0, .slice none 0 0] 35)) = W at *
  have f0 : W.cell? ⟨w.heap.size + 1, 0, none⟩ = some (.slice ka m.fs.length kc) := Bm.cell 0 _ rfl
  have f1 : W.cell? ⟨w.heap.size + 1, 1, none⟩ = some (.slice va m.us.length vc) := Bm.cell 1 _ rfl
  have hp1 : w.heap.size + 1 ≠ w.heap.size + 1 + 1 := by omega
  have HBX := hid Bx
  have xr := Br.cellF
  have yr := Br.frz
  have zr := Br.lt
  clear Bx Bm
  go_region_held3 (fun W => W.cell? ⟨w.heap.size + 1, 0, none⟩ = some (.slice ka m.fs.length kc) ∧ W.cell? ⟨w.heap.size + 1, 1, none⟩ = some (.slice va m.us.length vc)) (first | exact ⟨f0, f1⟩ | exact ⟨cs2 f0 hp1, cs2 f1 hp1⟩) (first | (go_at_call 72; refine (HTF.out _ (by have := HB.out; exact blBy) _ (HBX.out.kept (by first | exact Below.refl _ _ | exact below_drew1 _ | exact below_drewN _ _))).mono ?_; rintro e w2 ⟨a1, c1, rfl, hn, hbx⟩; replace f0 := cell_below f0 (below_trans (by first | exact Below.refl _ _ | exact below_drew1 _ | exact below_drewN _ _) hbx); replace f1 := cell_below f1 (below_trans (by first | exact Below.refl _ _ | exact below_drew1 _ | exact below_drewN _ _) hbx); replace Br := Br.kept (below_trans (by first | exact Below.refl _ _ | exact below_drew1 _ | exact below_drewN _ _) hbx); replace xr := Br.cellF; replace yr := Br.frz; replace zr := Br.lt; replace HB := hid (below_trans HB.out (below_trans (by first | exact Below.refl _ _ | exact below_drew1 _ | exact below_drewN _ _) hbx)); replace HBX := hid (HBX.out.kept (below_trans (by first | exact Below.refl _ _ | exact below_drew1 _ | exact below_drewN _ _) hbx)); have H1 : Hid (FlsR w2 (fun b => b ≠ w.heap.size + 1 + 1 ∧ (Z b ∨ w.heap.size ≤ b)) d (.slice a1 nf.length c1) nf) := hid (FlsR.go hn (Keep.refl (fun _ => True) _) (fun _ _ => trivial) (fun b hz => by rcases hz with hz | hz; exact ⟨by have := hz.2; omega, Or.inl hz.1⟩; exact ⟨by have := HS.out; (try simp at hz); omega, Or.inr (by have := HS.out; (try simp at hz); omega)⟩)); (try replace H2 := hid (EnsR.kept H2.out (below_trans (by first | exact Below.refl _ _ | exact below_drew1 _ | exact below_drewN _ _) hbx))); replace HS := hid (Nat.le_trans HS.out (Below.size (below_trans (by first | exact Below.refl _ _ | exact below_drew1 _ | exact below_drewN _ _) hbx))); clear hn hbx) | (go_at_call 73; refine (HTE.out _ (by have := HB.out; exact blBy) _ (HBX.out.kept (by first | exact Below.refl _ _ | exact below_drew1 _ | exact below_drewN _ _))).mono ?_; rintro e w3 ⟨a2, c2, rfl, hn, hbx⟩; replace f0 := cell_below f0 (below_trans (by first | exact Below.refl _ _ | exact below_drew1 _ | exact below_drewN _ _) hbx); replace f1 := cell_below f1 (below_trans (by first | exact Below.refl _ _ | exact below_drew1 _ | exact below_drewN _ _) hbx); replace Br := Br.kept (below_trans (by first | exact Below.refl _ _ | exact below_drew1 _ | exact below_drewN _ _) hbx); replace xr := Br.cellF; replace yr := Br.frz; replace zr := Br.lt; replace HB := hid (below_trans HB.out (below_trans (by first | exact Below.refl _ _ | exact below_drew1 _ | exact below_drewN _ _) hbx)); replace HBX := hid (HBX.out.kept (below_trans (by first | exact Below.refl _ _ | exact below_drew1 _ | exact below_drewN _ _) hbx)); have H2 : Hid (EnsR w3 (fun b => b ≠ w.heap.size + 1 + 1 ∧ (Z b ∨ w.heap.size ≤ b)) (.slice a2 nu.length c2) nu) := hid (EnsR.go hn (Keep.refl (fun _ => True) _) (fun _ _ => trivial) (fun b hz => by rcases hz with hz | hz; exact ⟨by have := hz.2; omega, Or.inl hz.1⟩; exact ⟨by have := HS.out; (try simp at hz); omega, Or.inr (by have := HS.out; (try simp at hz); omega)⟩)); (try replace H1 := hid (FlsR.kept H1.out (below_trans (by first | exact Below.refl _ _ | exact below_drew1 _ | exact below_drewN _ _) hbx))); replace HS := hid (Nat.le_trans HS.out (Below.size (below_trans (by first | exact Below.refl _ _ | exact below_drew1 _ | exact below_drewN _ _) hbx))); clear hn hbx))
  all_goals go_wp2
  all_goals exact bodyPost_ret (v := .agg #[.slice a1 nf.length c1, .slice a2 nu.length c2]) (by simp [results, Tryz.results30, go_sem, xr, zr, yr]) rfl ⟨[.slice a1 nf.length c1, .slice a2 nu.length c2], rfl, by rw [HST.out]; exact ⟨_, _, rfl, FlsR.go H1.out (f := (· ≠ w.heap.size + 1 + 1)) (by with_reducible repeat (first | exact Keep.refl _ _ | refine kpS ?_ (by first | (simp; done) | (simp; omega) | omega) | refine kpA ?_ _ | refine kpD ?_ | refine kpN ?_ _)) (fun _ h => h.1) (fun _ h => h.2), EnsR.go H2.out (f := (· ≠ w.heap.size + 1 + 1)) (by with_reducible repeat (first | exact Keep.refl _ _ | refine kpS ?_ (by first | (simp; done) | (simp; omega) | omega) | refine kpA ?_ _ | refine kpD ?_ | refine kpN ?_ _)) (fun _ h => h.1) (fun _ h => h.2)⟩, by have := HB.out; exact blBy⟩
def setB (x : TV) (m : CM) : Bool := (((m.fs.filter (toldB x.t.fs)).length : Int) == (m.fs.length : Int)) && (((m.us.filter (untk x.t.fs)).length : Int) == (m.us.length : Int))
theorem isSettledM (w : World) (x : TV) (hx : TyR w x) (hr : Rise x.t.fs) (hl : x.t.fs.length ≤ 128) (Z : Nat → Prop) (d : Nat) (cs : List Value) (m : CM) (hm : MsgE w Z (d + 1) cs m) (hv : ∀ f ∈ m.fs, (ownF x.t.fs f.num).lab = 0 → 0 < f.vs.length) : Calls Tryz.prog 38 #[.agg (cTV x).toArray, .agg cs.toArray] w fun e w' => e = .returned (.bool (setB x m)) ∧ Below w.heap.size w w' := by
  have HS := hid fun W (hW : Below w.heap.size w W) => settledM W x (hx.kept hW) hr hl Z d cs m (hm.kept hW) hv
  obtain ⟨ka, kc, va, vc, rfl, g1, g2, l1, l2⟩ := msg_open hm
  obtain ⟨ta1, tc1, ta2, tc2, ta3, tc3, ta4, tc4, e1, e2, e3, e4⟩ := shT_of hx
  have ecx : cTV x = [.string (strOfNums x.t.name), .bool x.t.enum, .slice ta1 x.t.fs.length tc1, .slice ta2 x.t.os.length tc2, .slice ta3 x.t.ss.length tc3, .slice ta4 x.t.rs.length tc4] := by unfold cTV; rw [e1, e2, e3, e4]
  rw [ecx] at HS ⊢
  have HX : Hid (setB x m = ((((stayM x m).fs.length : Int) == (m.fs.length : Int)) && (((stayM x m).us.length : Int) == (m.us.length : Int)))) := hid rfl
  have m1 : (m.fs.length : Int) ≤ 9223372036854775807 := by omega
  have m2 : (m.us.length : Int) ≤ 9223372036854775807 := by omega
  generalize setB x m = res at *
  generalize stayM x m = sm at *
  clear hx hm g1 g2 e1 e2 e3 e4 ecx hr hl hv
  go_enter Tryz.func38, Tryz.ntmps38
  go_wp2_with fail
  refine (HS.out _ (by exact blBy)).mono ?_
  rintro e w1 ⟨ds, rfl, hn, hb1⟩
  obtain ⟨fa, fc, ua, uc, rfl, -, -, n1, n2⟩ := msg_open hn
  have m3 : (sm.fs.length : Int) ≤ 9223372036854775807 := by omega
  have m4 : (sm.us.length : Int) ≤ 9223372036854775807 := by omega
  have Bm : Blk w1 (w.heap.size + 1) 35 #[.slice ka m.fs.length kc, .slice va m.us.length vc] := by first | exact (Blk.newAt (by simp)).kept hb1 | exact ((Blk.newAt (by simp)).kept (below_alloc _)).kept hb1
  have xm := Bm.cellF
  have zm := Bm.lt
  have HB1 : Hid (Below w.heap.size w w1) := hid (bl_then (by exact blBy) hb1)
  clear hb1 hn HS Bm
  cases q1 : ((sm.fs.length : Int) == (m.fs.length : Int)) with
  | false =>
    rw [q1, Bool.false_and] at HX
    go_wp2
    go_ret
    exact ⟨ret_bool HX.out.symm, by have := HB1.out; exact blBy⟩
  | true =>
    rw [q1, Bool.true_and] at HX
    go_wp2
    go_ret
    exact ⟨ret_bool HX.out.symm, by have := HB1.out; exact blBy⟩
theorem kept_all {l : List TV} {d : Nat} {x : TV} {m : CM} (h : keptB l (d + 1) x m = true) : holdB l entB x m = true ∧ ∀ f ∈ m.fs, ∀ z ∈ allM f, keptB l d (blwB l x f) z = true := by
  unfold keptB walkB at h
  simp only [Bool.and_eq_true, List.all_eq_true] at h
  exact ⟨h.1, fun f hf z hz => h.2 f hf z hz⟩
theorem hold_one {l : List TV} {ent : CE → Bool} {x : TV} {m : CM} (h : holdB l ent x m = true) : ∀ f ∈ m.fs, (ownF x.t.fs f.num).lab = 0 → 0 < f.vs.length := by
  intro f hf h0
  unfold holdB at h
  simp only [Bool.and_eq_true, List.all_eq_true] at h
  have h1 := h.2.1 f hf
  unfold typB8 fieldB shapeB at h1
  rw [h0] at h1
  simp at h1
  omega
theorem cfSet (args : Array Value) (W : World) : (callFunc 38 args).run Tryz.prog W = .ok (.enter 38 args) W := cf_enter Tryz.func38 (by kernel_rfl) (by kernel_rfl) args W
theorem wkSet (l : List TV) (ta : Option Addr) (tc : Nat) (hg : goodB l = true) (hsh : ∀ x ∈ l, ShT x) (Z : Nat → Prop) : WkH Z (fun W => TbR W (.slice ta l.length tc) l) (· ∈ l) (fun d x m => keptB l d x m = true) setB (blwB l) 38 31 #[] #[.agg #[.slice ta l.length tc]] where
  kept h hb := h.kept hb
  sh := hsh
  eh := cfSet
  eb := cfBelow
  h W x d cs m hW hx hq hm := by
    cases d with
    | zero => exact hm.elim
    | succ d => exact isSettledM W x (hW.ty x hx) (good_rise hg hx).1 (good_rise hg hx).2 Z d cs m hm (hold_one (kept_all hq).1)
  b W x d cs m f hW hx hq hh hf hfe := by
    have h1 := holdB_has (kept_all hq).1 hf
    exact belowT W l ta tc hW hg x hx Z d cs f hfe _ (ownF_hasF h1).1 (ownF_hasF h1).2 _ (blwB_at hg hx h1)
  i x d m f hx hq hh hf := blwB_in hg hx (holdB_has (kept_all hq).1 hf)
  q x d m f z hx hq hh hf hz := (kept_all hq).2 f hf z hz
/-- Whether a message, so deep at most, is typed and settled. -/
def normB (l : List TV) (d : Nat) (x : TV) (m : CM) : Bool := keptB l d x m && walkB setB (blwB l) d x m
theorem normalT (w : World) (l : List TV) (ta : Option Addr) (tc : Nat) (h : TbR w (.slice ta l.length tc) l) (hk : ∀ x ∈ l, OkV x) (mx : Int) (hm0 : w.cell? ⟨0, 0, none⟩ = some (.int .i64 mx)) (k : Nat) (hkl : k < l.length) (hg : goodB l = true) (he : l[k].t.enum = false) (Z : Nat → Prop) (d : Nat) (cs : List Value) (m : CM) (hm : MsgE w Z d cs m) : Calls Tryz.prog 18 #[.agg #[.slice ta l.length tc], .int .i64 (k : Int), .agg cs.toArray] w fun e w' => e = .returned (.tuple #[.bool (normB l d l[k] m), .int .i64 0]) ∧ Below w.heap.size w w' := by
  have HA := hid fun W (hW : Below w.heap.size w W) => msgAtOk W l ta tc (h.kept hW) hk mx (cell_below hm0 hW) k hkl hg he
  have HK := hid fun W (hW : Below w.heap.size w W) => areKeptT W l ta tc (h.kept hW) hg l[k] (List.getElem_mem hkl) Z d cs m (hm.kept hW)
  have HN := hid fun W (hW : Below w.heap.size w W) (hq : keptB l d l[k] m = true) => walkT (wkSet l ta tc hg (fun x hx => shT_of (h.ty x hx)) Z) d W l[k] cs m (h.kept hW) (List.getElem_mem hkl) hq (hm.kept hW)
  obtain ⟨ta1, tc1, ta2, tc2, ta3, tc3, ta4, tc4, e1, e2, e3, e4⟩ := shT_of (h.ty l[k] (List.getElem_mem hkl))
  have ec : cTV l[k] = [.string (strOfNums l[k].t.name), .bool false, .slice ta1 l[k].t.fs.length tc1, .slice ta2 l[k].t.os.length tc2, .slice ta3 l[k].t.ss.length tc3, .slice ta4 l[k].t.rs.length tc4] := by unfold cTV; rw [e1, e2, e3, e4, he]
  obtain ⟨fa, fc, ua, uc, rfl, -⟩ := msg_openD hm
  have HX : Hid (normB l d l[k] m = (keptB l d l[k] m && walkB setB (blwB l) d l[k] m)) := hid rfl
  rw [ec] at HK HN
  rw [e1, e2, e3, e4] at HA
  clear h hg hm e1 e2 e3 e4 ec hm0 hk he
  generalize normB l d l[k] m = res at *
  generalize keptB l d l[k] m = s1 at *
  generalize walkB setB (blwB l) d l[k] m = s2 at *
  generalize l[k] = x at *
  go_enter Tryz.func18, Tryz.ntmps18
  go_wp2_with fail
  refine (HA.out _ (by exact blBy)).mono ?_
  rintro e w1 ⟨rfl, hb1⟩
  have HB1 : Hid (Below w.heap.size w w1) := hid (bl_then (by exact blBy) hb1)
  have Bt : Blk w1 w.heap.size 46 #[.slice ta l.length tc] := ((Blk.new _ _ _).kept (below_alloc _)).kept hb1
  have Bm : Blk w1 (w.heap.size + 1) 35 #[.slice fa m.fs.length fc, .slice ua m.us.length uc] := (Blk.newAt (by simp)).kept hb1
  have xm := Bm.cellF
  have zm := Bm.lt
  have xt := Bt.cellF
  have zt := Bt.lt
  clear hb1 HA
  go_wp2_with fail
  refine (HK.out _ (by have := HB1.out; exact blBy)).mono ?_
  rintro e w2 ⟨rfl, hb2⟩
  have HB2 : Hid (Below w.heap.size w w2) := hid (bl_then (by have := HB1.out; exact blBy) hb2)
  clear HK
  cases s1 with
  | false =>
    rw [Bool.false_and] at HX
    clear hb2
    go_wp2
    exact bodyPost_ret (v := .tuple #[.bool false, .int .i64 0]) (by simp [results, Tryz.results18, go_sem]) rfl ⟨by rw [HX.out], by have := HB2.out; exact blBy⟩
  | true =>
    rw [Bool.true_and] at HX
    have Bx2 : Blk w2 w1.heap.size 66 #[.string (strOfNums x.t.name), .bool false, .slice ta1 x.t.fs.length tc1, .slice ta2 x.t.os.length tc2, .slice ta3 x.t.ss.length tc3, .slice ta4 x.t.rs.length tc4] := ((Blk.new _ _ _).kept (below_alloc _)).kept hb2
    have Br2 : Blk w2 (w1.heap.size + 1) 68 #[.slice ta l.length tc] := (Blk.newAt (by simp)).kept hb2
    have Bm2 : Blk w2 (w.heap.size + 1) 35 #[.slice fa m.fs.length fc, .slice ua m.us.length uc] := Bm.kept (show Below w1.heap.size w1 w2 from bl_then (by exact blBy) hb2)
    have xx2 := Bx2.cellF
    have zx2 := Bx2.lt
    have xr2 := Br2.cellF
    have zr2 := Br2.lt
    have xm2 := Bm2.cellF
    have zm2 := Bm2.lt
    clear hb2
    go_wp2_with fail
    refine (HN.out _ (by have := HB2.out; exact blBy) (by trivial)).mono ?_
    rintro e w3 ⟨rfl, hb3⟩
    have HB3 : Hid (Below w.heap.size w w3) := hid (bl_then (by have := HB2.out; exact blBy) hb3)
    clear hb3 HN
    go_wp2
    exact bodyPost_ret (v := .tuple #[.bool s2, .int .i64 0]) (by simp [results, Tryz.results18, go_sem]) rfl ⟨by rw [HX.out], by have := HB3.out; exact blBy⟩
set_option maxHeartbeats 2000000
def setV (g : CM → CM) (v : CV CM) : CV CM := ⟨v.n, v.b, v.ms.map g⟩
def setF (g : CM → CM) (f : CF CM) : CF CM := ⟨f.num, f.ks.map (setV g), f.vs.map (setV g)⟩
/-- What stays of a typed message, with all messages within. -/
def setM (l : List TV) : Nat → TV → CM → CM
  | 0, _, m => m
  | d + 1, x, m => CM.mk ((m.fs.filter (toldB x.t.fs)).map (fun f => setF (setM l d (blwB l x f)) f)) (m.us.filter (untk x.t.fs))
def SeAt (l : List TV) (ta : Option Addr) (tc d : Nat) : Prop := ∀ (w : World) (Z : Nat → Prop) (x : TV) (cs : List Value) (m : CM), TbR w (.slice ta l.length tc) l → x ∈ l → keptB l d x m = true → MsgE w Z d cs m → Calls Tryz.prog 29 #[.agg (cTV x).toArray, .agg cs.toArray, .func (.func 30) #[] #[], .func (.func 31) #[.agg #[.slice ta l.length tc]] #[]] w (NewE (FmM d) w (setM l d x m))
/-- What the closures share: a type, what stays, what is below. -/
structure SeB (l : List TV) (ta : Option Addr) (tc : Nat) (w : World) (y : TV) (p4 p6 p7 : Nat) : Prop where
  k : Blk w p4 66 (cTV y).toArray
  s : Blk w p6 72 #[.func (.func 30) #[] #[]]
  b : Blk w p7 73 #[.func (.func 31) #[.agg #[.slice ta l.length tc]] #[]]
theorem SeB.kept {l : List TV} {ta : Option Addr} {tc : Nat} {w w' : World} {y : TV} {p4 p6 p7 : Nat} (h : SeB l ta tc w y p4 p6 p7) (hb : Below w.heap.size w w') : SeB l ta tc w' y p4 p6 p7 := ⟨h.k.kept hb, h.s.kept hb, h.b.kept hb⟩
theorem cfMS (args : Array Value) (W : World) : (callFunc 60 args).run Tryz.prog W = .ok (.enter 60 args) W := cf_enter Tryz.func60 (by kernel_rfl) (by kernel_rfl) args W
theorem cfVS (args : Array Value) (W : World) : (callFunc 61 args).run Tryz.prog W = .ok (.enter 61 args) W := cf_enter Tryz.func61 (by kernel_rfl) (by kernel_rfl) args W
theorem cfFS (args : Array Value) (W : World) : (callFunc 59 args).run Tryz.prog W = .ok (.enter 59 args) W := cf_enter Tryz.func59 (by kernel_rfl) (by kernel_rfl) args W
theorem cfStd (args : Array Value) (W : World) : (callFunc 30 args).run Tryz.prog W = .ok (.enter 30 args) W := cf_enter Tryz.func30 (by kernel_rfl) (by kernel_rfl) args W
theorem newMsgS (l : List TV) (ta : Option Addr) (tc d : Nat) (HC : SeAt l ta tc d) (w : World) (hT : TbR w (.slice ta l.length tc) l) (y : TV) (hy : y ∈ l) (Z : Nat → Prop) (cs : List Value) (m : CM) (hk : keptB l d y m = true) (h : MsgE w Z d cs m) (p4 p6 p7 : Nat) (hB : SeB l ta tc w y p4 p6 p7) : Calls Tryz.prog 60 #[.agg cs.toArray, .pointer (some ⟨p4, 0, none⟩), .pointer (some ⟨p6, 0, none⟩), .pointer (some ⟨p7, 0, none⟩)] w (NewE (FmM d) w (setM l d y m)) := by
  have HCY := hid fun W (hW : Below w.heap.size w W) => HC W Z y cs m (hT.kept hW) hy hk (h.kept hW)
  obtain ⟨ka, kc, va, vc, rfl, -⟩ := msg_openD h
  obtain ⟨ta1, tc1, ta2, tc2, ta3, tc3, ta4, tc4, e1, e2, e3, e4⟩ := shT_of (hT.ty y hy)
  have ecy : cTV y = [.string (strOfNums y.t.name), .bool y.t.enum, .slice ta1 y.t.fs.length tc1, .slice ta2 y.t.os.length tc2, .slice ta3 y.t.ss.length tc3, .slice ta4 y.t.rs.length tc4] := by unfold cTV; rw [e1, e2, e3, e4]
  have hBk := hB.k
  rw [ecy] at HCY hBk
  have xk := hBk.cellF
  generalize setM l d y m = sm at *
  have xs := hB.s.cellF
  have zs := hB.s.lt
  have xb := hB.b.cellF
  have zb := hB.b.lt
  have zk := hB.k.lt
  clear h hB hBk hT hk hy HC e1 e2 e3 e4 ecy
  go_enter Tryz.func60, Tryz.ntmps60
  go_wp2_with fail
  refine (HCY.out _ (by exact blBy)).mono ?_
  rintro e w1 ⟨ds, rfl, hn, hbx⟩
  have Br : Blk w1 (w.heap.size + 1) 35 #[.slice none 0 0, .slice none 0 0] := (Blk.newAt (by simp)).kept hbx
  have HN : Hid (MsgE w1 (w.heap.size + 2 ≤ ·) d ds sm) := hid (MsgE.go (Keep.refl (fun _ => True) w1) (fun _ _ => trivial) (fun k hk => by simpa using hk) d _ _ hn)
  have hbz : Hid (Below w.heap.size w w1) := hid (bl_then (by exact blBy) hbx)
  clear hbx hn xs zs xb zb zk xk HCY
  obtain ⟨fa, fc, ua, uc, rfl, -⟩ := msg_openD HN.out
  have xr := Br.cellF
  have yr := Br.frz
  have zr := Br.lt
  go_wp2
  exact bodyPost_ret (v := .agg #[.slice fa sm.fs.length fc, .slice ua sm.us.length uc]) (by simp [results, Tryz.results60, go_sem, xr, zr, yr]) rfl (NewE.mk [.slice fa sm.fs.length fc, .slice ua sm.us.length uc] (MsgE.go (f := (w.heap.size + 2 ≤ ·)) (by with_reducible repeat (first | exact Keep.refl _ _ | refine kpS ?_ (by first | (simp; done) | (simp; omega) | omega) | refine kpA ?_ _ | refine kpD ?_ | refine kpN ?_ _)) (fun _ h => h) (fun k hk => by omega) d _ _ HN.out) (by have := hbz.out; exact blBy))
theorem newValS (l : List TV) (ta : Option Addr) (tc d : Nat) (HC : SeAt l ta tc d) (w : World) (hT : TbR w (.slice ta l.length tc) l) (y : TV) (hy : y ∈ l) (Z : Nat → Prop) (cs : List Value) (x : CV CM) (hk : ∀ m ∈ x.ms, keptB l d y m = true) (h : ValE w Z (MsgE w Z d) cs x) (p4 p6 p7 p8 : Nat) (hB : SeB l ta tc w y p4 p6 p7) (hN : Blk w p8 102 #[.func (.func 60) #[] #[.pointer (some ⟨p4, 0, none⟩), .pointer (some ⟨p6, 0, none⟩), .pointer (some ⟨p7, 0, none⟩)]]) : Calls Tryz.prog 61 #[.agg cs.toArray, .pointer (some ⟨p8, 0, none⟩)] w (NewE (FmV d) w (setV (setM l d y) x)) := by
  obtain ⟨ka, kc, va, vc, rfl, g, q, -, -, hu⟩ := val_open h
  have HBY : Hid (∀ W, Below w.heap.size w W → Calls Tryz.prog 62 #[.slice ka x.b.length kc] W fun e w' => ∃ a' c', e = .returned (.slice a' x.b.length c') ∧ ByE w' (W.heap.size ≤ ·) (.slice a' x.b.length c') x.b ∧ Below W.heap.size W w') := hid fun W hW => newBytesT W Z ka kc x.b (g.kept hW)
  have HMG : Hid (∀ W, Below w.heap.size w W → Calls Tryz.prog 63 #[.slice va x.ms.length vc, .func (.func 60) #[] #[.pointer (some ⟨p4, 0, none⟩), .pointer (some ⟨p6, 0, none⟩), .pointer (some ⟨p7, 0, none⟩)]] W (NewL 2 (FmM d) W (x.ms.map (setM l d y)))) := hid fun W hW => turnedM W Z d d x.ms va vc (q.kept hW) 60 #[.pointer (some ⟨p4, 0, none⟩), .pointer (some ⟨p6, 0, none⟩), .pointer (some ⟨p7, 0, none⟩)] cfMS (setM l d y) (fun W' hW' cs m hm0 hm => newMsgS l ta tc d HC W' (hT.kept (below_trans hW hW')) y hy Z cs m (hk m hm0) hm p4 p6 p7 (hB.kept (below_trans hW hW')))
  have HST : Hid (setV (setM l d y) x = ⟨x.n, x.b, x.ms.map (setM l d y)⟩) := hid rfl
  generalize setV (setM l d y) x = sx at *
  generalize x.ms.map (setM l d y) = nm at *
  have HU := hid hu
  have f3 : w.cell? ⟨p8, 0, none⟩ = some (.func (.func 60) #[] #[.pointer (some ⟨p4, 0, none⟩), .pointer (some ⟨p6, 0, none⟩), .pointer (some ⟨p7, 0, none⟩)]) := hN.cell 0 _ rfl
  have z8 := hN.lt
  clear h hB hN g q hu HC hT hk hy
  go_enter Tryz.func61, Tryz.ntmps61
  go_upto_region 1 with fail
  have Bx : Blk ((w.alloc (.cells #[.int .u64 x.n, .slice ka x.b.length kc, .slice va x.ms.length vc] 26)).alloc (.cells #[.int .u64 0, .slice none 0 0, .slice none 0 0] 26)) w.heap.size 26 #[.int .u64 x.n, .slice ka x.b.length kc, .slice va x.ms.length vc] := (Blk.new _ _ _).kept (below_alloc _)
  have Br : Blk ((w.alloc (.cells #[.int .u64 x.n, .slice ka x.b.length kc, .slice va x.ms.length vc] 26)).alloc (.cells #[.int .u64 0, .slice none 0 0, .slice none 0 0] 26)) (w.heap.size + 1) 26 #[.int .u64 0, .slice none 0 0, .slice none 0 0] := Blk.newAt (by simp)
  replace f3 := cell_below f3 (by exact blBy : Below w.heap.size w ((w.alloc (.cells #[.int .u64 x.n, .slice ka x.b.length kc, .slice va x.ms.length vc] 26)).alloc (.cells #[.int .u64 0, .slice none 0 0, .slice none 0 0] 26)))
  have HB : Hid (Below w.heap.size w ((w.alloc (.cells #[.int .u64 x.n, .slice ka x.b.length kc, .slice va x.ms.length vc] 26)).alloc (.cells #[.int .u64 0, .slice none 0 0, .slice none 0 0] 26))) := hid (by exact blBy)
  have hsz : w.heap.size + 2 ≤ ((w.alloc (.cells #[.int .u64 x.n, .slice ka x.b.length kc, .slice va x.ms.length vc] 26)).alloc (.cells #[.int .u64 0, .slice none 0 0, .slice none 0 0] 26)).heap.size := by simp
  generalize ((w.alloc (.cells #[.int .u64 x.n, .slice ka x.b.length kc, .slice va x.ms.length vc] 26)).alloc (.cells #[.int .u64 0, .slice none 0 0, .slice none 0 0] 26)) = W at *
  have f0 : W.cell? ⟨w.heap.size, 0, none⟩ = some (.int .u64 x.n) := Bx.cell 0 _ rfl
  have f1 : W.cell? ⟨w.heap.size, 1, none⟩ = some (.slice ka x.b.length kc) := Bx.cell 1 _ rfl
  have f2 : W.cell? ⟨w.heap.size, 2, none⟩ = some (.slice va x.ms.length vc) := Bx.cell 2 _ rfl
  have hp1 : w.heap.size ≠ w.heap.size + 1 := by omega
  have hp2 : p8 ≠ w.heap.size + 1 := by omega
  clear Bx z8
  have HS := hid hsz
  clear hsz
  have xr := Br.cellF
  have yr := Br.frz
  have zr := Br.lt
  go_region_held3 (fun W => W.cell? ⟨w.heap.size, 0, none⟩ = some (.int .u64 x.n) ∧ W.cell? ⟨w.heap.size, 1, none⟩ = some (.slice ka x.b.length kc) ∧ W.cell? ⟨w.heap.size, 2, none⟩ = some (.slice va x.ms.length vc) ∧ W.cell? ⟨p8, 0, none⟩ = some (.func (.func 60) #[] #[.pointer (some ⟨p4, 0, none⟩), .pointer (some ⟨p6, 0, none⟩), .pointer (some ⟨p7, 0, none⟩)])) (first | exact ⟨f0, f1, f2, f3⟩ | exact ⟨cs3 f0 hp1, cs3 f1 hp1, cs3 f2 hp1, cs3 f3 hp2⟩) (first | (go_at_call 62; refine (HBY.out _ (by have := HB.out; exact blBy)).mono ?_; rintro e w1 ⟨a1, c1, rfl, hn, hbx⟩; replace f0 := cell_below f0 (below_trans (by first | exact Below.refl _ _ | exact below_drew1 _ | exact below_drewN _ _) hbx); replace f1 := cell_below f1 (below_trans (by first | exact Below.refl _ _ | exact below_drew1 _ | exact below_drewN _ _) hbx); replace f2 := cell_below f2 (below_trans (by first | exact Below.refl _ _ | exact below_drew1 _ | exact below_drewN _ _) hbx); replace f3 := cell_below f3 (below_trans (by first | exact Below.refl _ _ | exact below_drew1 _ | exact below_drewN _ _) hbx); replace Br := Br.kept (below_trans (by first | exact Below.refl _ _ | exact below_drew1 _ | exact below_drewN _ _) hbx); replace xr := Br.cellF; replace yr := Br.frz; replace zr := Br.lt; replace HB := hid (below_trans HB.out (below_trans (by first | exact Below.refl _ _ | exact below_drew1 _ | exact below_drewN _ _) hbx)); have H1 : Hid (ByE w1 (w.heap.size + 2 ≤ ·) (.slice a1 x.b.length c1) x.b) := hid (hn.weak (fun k hk => Nat.le_trans HS.out hk)); (try replace H2 := hid (MgsR.kept H2.out (below_trans (by first | exact Below.refl _ _ | exact below_drew1 _ | exact below_drewN _ _) hbx))); replace HS := hid (Nat.le_trans HS.out (Below.size (below_trans (by first | exact Below.refl _ _ | exact below_drew1 _ | exact below_drewN _ _) hbx))); clear hn hbx) | (go_at_call 63; refine (HMG.out _ (by have := HB.out; exact blBy)).mono ?_; rintro e w2 ⟨a2, c2, rfl, hn, hbx⟩; replace f0 := cell_below f0 (below_trans (by first | exact Below.refl _ _ | exact below_drew1 _ | exact below_drewN _ _) hbx); replace f1 := cell_below f1 (below_trans (by first | exact Below.refl _ _ | exact below_drew1 _ | exact below_drewN _ _) hbx); replace f2 := cell_below f2 (below_trans (by first | exact Below.refl _ _ | exact below_drew1 _ | exact below_drewN _ _) hbx); replace f3 := cell_below f3 (below_trans (by first | exact Below.refl _ _ | exact below_drew1 _ | exact below_drewN _ _) hbx); replace Br := Br.kept (below_trans (by first | exact Below.refl _ _ | exact below_drew1 _ | exact below_drewN _ _) hbx); replace xr := Br.cellF; replace yr := Br.frz; replace zr := Br.lt; replace HB := hid (below_trans HB.out (below_trans (by first | exact Below.refl _ _ | exact below_drew1 _ | exact below_drewN _ _) hbx)); have H2 : Hid (MgsR w2 (w.heap.size + 2 ≤ ·) d (.slice a2 nm.length c2) nm) := hid ((hn.weak (fun k hk => Nat.le_trans HS.out hk)).imp (fun cs m _ hm => MsgE.go (Keep.refl (fun _ => True) w2) (fun _ _ => trivial) (fun k hk => Nat.le_trans HS.out hk) d _ _ hm)); (try replace H1 := hid (H1.out.kept (below_trans (by first | exact Below.refl _ _ | exact below_drew1 _ | exact below_drewN _ _) hbx))); replace HS := hid (Nat.le_trans HS.out (Below.size (below_trans (by first | exact Below.refl _ _ | exact below_drew1 _ | exact below_drewN _ _) hbx))); clear hn hbx))
  all_goals go_wp2
  all_goals exact bodyPost_ret (v := .agg #[.int .u64 x.n, .slice a1 x.b.length c1, .slice a2 nm.length c2]) (by simp [results, Tryz.results61, go_sem, xr, zr, yr]) rfl (NewE.mk [.int .u64 x.n, .slice a1 x.b.length c1, .slice a2 nm.length c2] (by rw [HST.out]; exact ⟨_, _, rfl, (H1.out.keep (f := (w.heap.size + 2 ≤ ·)) (by with_reducible repeat (first | exact Keep.refl _ _ | refine kpS ?_ (by first | (simp; done) | (simp; omega) | omega) | refine kpA ?_ _ | refine kpD ?_ | refine kpN ?_ _)) (fun _ h => h)).weak (fun k hk => by omega), MgsR.go H2.out (f := (w.heap.size + 2 ≤ ·)) (by with_reducible repeat (first | exact Keep.refl _ _ | refine kpS ?_ (by first | (simp; done) | (simp; omega) | omega) | refine kpA ?_ _ | refine kpD ?_ | refine kpN ?_ _)) (fun _ h => h) (fun k hk => by omega), HU.out⟩) (by have := HB.out; exact blBy))
theorem newFieldS (l : List TV) (ta : Option Addr) (tc d : Nat) (HC : SeAt l ta tc d) (w : World) (hT : TbR w (.slice ta l.length tc) l) (hg : goodB l = true) (v : TV) (hv : v ∈ l) (Z : Nat → Prop) (cs : List Value) (x : CF CM) (hh : hasF v.t.fs x.num = true) (hk : ∀ m ∈ allM x, keptB l d (blwB l v x) m = true) (h : FldE w Z (MsgE w Z d) cs x) (p4 p6 p7 : Nat) (hB : SeB l ta tc w v p4 p6 p7) : Calls Tryz.prog 59 #[.agg cs.toArray, .pointer (some ⟨p7, 0, none⟩), .pointer (some ⟨p4, 0, none⟩), .pointer (some ⟨p6, 0, none⟩)] w (NewE (FmF d) w (setF (setM l d (blwB l v x)) x)) := by
  have hyl := blwB_in hg hv hh
  have HNO := hid fun W (hW : Below w.heap.size w W) => belowT W l ta tc (hT.kept hW) hg v hv Z d cs x (h.kept hW) _ (ownF_hasF hh).1 (ownF_hasF hh).2 _ (blwB_at hg hv hh)
  have HST : Hid (setF (setM l d (blwB l v x)) x = ⟨x.num, x.ks.map (setV (setM l d (blwB l v x))), x.vs.map (setV (setM l d (blwB l v x)))⟩) := hid rfl
  have hk1 : ∀ u ∈ x.ks, ∀ m ∈ u.ms, keptB l d (blwB l v x) m = true := fun u hu m hm => hk m (by unfold allM; exact List.mem_append_left _ (List.mem_flatMap.2 ⟨u, hu, hm⟩))
  have hk2 : ∀ u ∈ x.vs, ∀ m ∈ u.ms, keptB l d (blwB l v x) m = true := fun u hu m hm => hk m (by unfold allM; exact List.mem_append_right _ (List.mem_flatMap.2 ⟨u, hu, hm⟩))
  generalize blwB l v x = y at *
  obtain ⟨sa1, sc1, sa2, sc2, sa3, sc3, sa4, sc4, g1, g2, g3, g4⟩ := shT_of (hT.ty y hyl)
  have ecy : cTV y = [.string (strOfNums y.t.name), .bool y.t.enum, .slice sa1 y.t.fs.length sc1, .slice sa2 y.t.os.length sc2, .slice sa3 y.t.ss.length sc3, .slice sa4 y.t.rs.length sc4] := by unfold cTV; rw [g1, g2, g3, g4]
  obtain ⟨ta1, tc1, ta2, tc2, ta3, tc3, ta4, tc4, e1, e2, e3, e4⟩ := shT_of (hT.ty v hv)
  have ecv : cTV v = [.string (strOfNums v.t.name), .bool v.t.enum, .slice ta1 v.t.fs.length tc1, .slice ta2 v.t.os.length tc2, .slice ta3 v.t.ss.length tc3, .slice ta4 v.t.rs.length tc4] := by unfold cTV; rw [e1, e2, e3, e4]
  have h0 := h
  obtain ⟨ka, kc, va, vc, rfl, g, q, -, -, hu⟩ := fld_open h
  have HV : Hid (∀ (W : World) (pi q8 : Nat), Below w.heap.size w W → SeB l ta tc W y pi p6 p7 → Blk W q8 102 #[.func (.func 60) #[] #[.pointer (some ⟨pi, 0, none⟩), .pointer (some ⟨p6, 0, none⟩), .pointer (some ⟨p7, 0, none⟩)]] → ∀ (xs : List (CV CM)) (a : Option Addr) (c : Nat), (∀ u ∈ xs, ∀ m ∈ u.ms, keptB l d y m = true) → VlsR W Z d (.slice a xs.length c) xs → Calls Tryz.prog 64 #[.slice a xs.length c, .func (.func 61) #[] #[.pointer (some ⟨q8, 0, none⟩)]] W (NewL 3 (FmV d) W (xs.map (setV (setM l d y))))) := hid fun W pi q8 hW hB2 hN xs a c hq hx => turnedV W Z d d xs a c hx 61 #[.pointer (some ⟨q8, 0, none⟩)] cfVS (setV (setM l d y)) (fun W' hW' cs u hu0 hu => newValS l ta tc d HC W' (hT.kept (below_trans hW hW')) y hyl Z cs u (hq u hu0) hu pi p6 p7 q8 (hB2.kept hW') (hN.kept hW'))
  have HU := hid hu
  have G := hid g
  have Q := hid q
  have HBB := hid hB
  have xs6 := hB.s.cellF
  have zs6 := hB.s.lt
  have xb7 := hB.b.cellF
  have zb7 := hB.b.lt
  have hBk := hB.k
  rw [ecv] at hBk HNO
  rw [ecy] at HNO
  have xk4 := hBk.cellF
  have zk4 := hBk.lt
  clear h h0 hB hBk g q hu HC e1 e2 e3 e4 ecv g1 g2 g3 g4
  go_enter Tryz.func59, Tryz.ntmps59
  go_wp2_with fail
  refine (HNO.out _ (by exact blBy)).mono ?_
  rintro e w1 ⟨rfl, hbx⟩
  have Bx : Blk w1 w.heap.size 29 #[.int .i64 x.num, .slice ka x.ks.length kc, .slice va x.vs.length vc] := ((Blk.new _ _ _).kept (below_alloc _)).kept hbx
  have Br : Blk w1 (w.heap.size + 1) 29 #[.int .i64 0, .slice none 0 0, .slice none 0 0] := (Blk.newAt (by simp)).kept hbx
  have hbz : Hid (Below w.heap.size w w1) := hid (bl_then (by exact blBy) hbx)
  have hs1 : w.heap.size + 2 ≤ w1.heap.size := by have := hbx.size; simpa using this
  clear hbx xs6 zs6 xb7 zb7 zk4 xk4 HNO
  go_upto_region 4 with fail
  have BB : SeB l ta tc ((w1.alloc (.cells #[.string (strOfNums y.t.name), .bool y.t.enum, .slice sa1 y.t.fs.length sc1, .slice sa2 y.t.os.length sc2, .slice sa3 y.t.ss.length sc3, .slice sa4 y.t.rs.length sc4] 66)).alloc (.cells #[.func (.func 60) #[] #[.pointer (some ⟨w1.heap.size, 0, none⟩), .pointer (some ⟨p6, 0, none⟩), .pointer (some ⟨p7, 0, none⟩)]] 102)) y w1.heap.size p6 p7 := ⟨by rw [ecy]; exact (Blk.new _ _ _).kept (below_alloc _), ((HBB.out.kept hbz.out).s.kept (below_alloc _)).kept (below_alloc _), ((HBB.out.kept hbz.out).b.kept (below_alloc _)).kept (below_alloc _)⟩
  have BN : Blk ((w1.alloc (.cells #[.string (strOfNums y.t.name), .bool y.t.enum, .slice sa1 y.t.fs.length sc1, .slice sa2 y.t.os.length sc2, .slice sa3 y.t.ss.length sc3, .slice sa4 y.t.rs.length sc4] 66)).alloc (.cells #[.func (.func 60) #[] #[.pointer (some ⟨w1.heap.size, 0, none⟩), .pointer (some ⟨p6, 0, none⟩), .pointer (some ⟨p7, 0, none⟩)]] 102)) (w1.heap.size + 1) 102 #[.func (.func 60) #[] #[.pointer (some ⟨w1.heap.size, 0, none⟩), .pointer (some ⟨p6, 0, none⟩), .pointer (some ⟨p7, 0, none⟩)]] := Blk.newAt (by simp)
  replace Bx := (Bx.kept (below_alloc (.cells #[.string (strOfNums y.t.name), .bool y.t.enum, .slice sa1 y.t.fs.length sc1, .slice sa2 y.t.os.length sc2, .slice sa3 y.t.ss.length sc3, .slice sa4 y.t.rs.length sc4] 66))).kept (below_alloc (.cells #[.func (.func 60) #[] #[.pointer (some ⟨w1.heap.size, 0, none⟩), .pointer (some ⟨p6, 0, none⟩), .pointer (some ⟨p7, 0, none⟩)]] 102))
  replace Br := (Br.kept (below_alloc (.cells #[.string (strOfNums y.t.name), .bool y.t.enum, .slice sa1 y.t.fs.length sc1, .slice sa2 y.t.os.length sc2, .slice sa3 y.t.ss.length sc3, .slice sa4 y.t.rs.length sc4] 66))).kept (below_alloc (.cells #[.func (.func 60) #[] #[.pointer (some ⟨w1.heap.size, 0, none⟩), .pointer (some ⟨p6, 0, none⟩), .pointer (some ⟨p7, 0, none⟩)]] 102))
  have HB : Hid (Below w.heap.size w ((w1.alloc (.cells #[.string (strOfNums y.t.name), .bool y.t.enum, .slice sa1 y.t.fs.length sc1, .slice sa2 y.t.os.length sc2, .slice sa3 y.t.ss.length sc3, .slice sa4 y.t.rs.length sc4] 66)).alloc (.cells #[.func (.func 60) #[] #[.pointer (some ⟨w1.heap.size, 0, none⟩), .pointer (some ⟨p6, 0, none⟩), .pointer (some ⟨p7, 0, none⟩)]] 102))) := hid (by have := hbz.out; exact blBy)
  have HS : Hid (w.heap.size + 2 ≤ ((w1.alloc (.cells #[.string (strOfNums y.t.name), .bool y.t.enum, .slice sa1 y.t.fs.length sc1, .slice sa2 y.t.os.length sc2, .slice sa3 y.t.ss.length sc3, .slice sa4 y.t.rs.length sc4] 66)).alloc (.cells #[.func (.func 60) #[] #[.pointer (some ⟨w1.heap.size, 0, none⟩), .pointer (some ⟨p6, 0, none⟩), .pointer (some ⟨p7, 0, none⟩)]] 102)).heap.size) := hid (by simp; omega)
  generalize ((w1.alloc (.cells #[.string (strOfNums y.t.name), .bool y.t.enum, .slice sa1 y.t.fs.length sc1, .slice sa2 y.t.os.length sc2, .slice sa3 y.t.ss.length sc3, .slice sa4 y.t.rs.length sc4] 66)).alloc (.cells #[.func (.func 60) #[] #[.pointer (some ⟨w1.heap.size, 0, none⟩), .pointer (some ⟨p6, 0, none⟩), .pointer (some ⟨p7, 0, none⟩)]] 102)) = W at *
  have HT : Hid (∀ W', Below W.heap.size W W' → ∀ (xs : List (CV CM)) (a : Option Addr) (c : Nat), (∀ u ∈ xs, ∀ m ∈ u.ms, keptB l d y m = true) → VlsR w Z d (.slice a xs.length c) xs → Calls Tryz.prog 64 #[.slice a xs.length c, .func (.func 61) #[] #[.pointer (some ⟨w1.heap.size + 1, 0, none⟩)]] W' (NewL 3 (FmV d) W' (xs.map (setV (setM l d y))))) := hid fun W' hW' xs a c hq hx => HV.out W' w1.heap.size (w1.heap.size + 1) (below_trans HB.out hW') (BB.kept hW') (BN.kept hW') xs a c hq (hx.kept (below_trans HB.out hW'))
  have HG : Hid (Below W.heap.size W W) := hid (Below.refl _ _)
  have f0 : W.cell? ⟨w.heap.size, 0, none⟩ = some (.int .i64 x.num) := Bx.cell 0 _ rfl
  have f1 : W.cell? ⟨w.heap.size, 1, none⟩ = some (.slice ka x.ks.length kc) := Bx.cell 1 _ rfl
  have f2 : W.cell? ⟨w.heap.size, 2, none⟩ = some (.slice va x.vs.length vc) := Bx.cell 2 _ rfl
  have hp1 : w.heap.size ≠ w.heap.size + 1 := by omega
  have xr := Br.cellF
  have yr := Br.frz
  have zr := Br.lt
  clear Bx BB BN HBB HV hbz hs1
  generalize w1.heap.size + 1 = q8 at *
  have HK : Hid (∀ W', Below W.heap.size W W' → Calls Tryz.prog 64 #[.slice ka x.ks.length kc, .func (.func 61) #[] #[.pointer (some ⟨q8, 0, none⟩)]] W' (NewL 3 (FmV d) W' (x.ks.map (setV (setM l d y))))) := hid fun W' hW' => HT.out W' hW' x.ks ka kc hk1 G.out
  have HKV : Hid (∀ W', Below W.heap.size W W' → Calls Tryz.prog 64 #[.slice va x.vs.length vc, .func (.func 61) #[] #[.pointer (some ⟨q8, 0, none⟩)]] W' (NewL 3 (FmV d) W' (x.vs.map (setV (setM l d y))))) := hid fun W' hW' => HT.out W' hW' x.vs va vc hk2 Q.out
  clear HT hk1 hk2 hk hT hyl hv hg hh
  generalize setF (setM l d y) x = sx at *
  generalize x.ks.map (setV (setM l d y)) = nk at *
  generalize x.vs.map (setV (setM l d y)) = nv at *
  go_region_held3 (fun W => W.cell? ⟨w.heap.size, 0, none⟩ = some (.int .i64 x.num) ∧ W.cell? ⟨w.heap.size, 1, none⟩ = some (.slice ka x.ks.length kc) ∧ W.cell? ⟨w.heap.size, 2, none⟩ = some (.slice va x.vs.length vc)) (first | exact ⟨f0, f1, f2⟩ | exact ⟨cs3 f0 hp1, cs3 f1 hp1, cs3 f2 hp1⟩) (first | (go_at_call_of 64 (Value.slice ka x.ks.length kc); refine (HK.out _ (by have := HG.out; exact blBy)).mono ?_; rintro e w2 ⟨a1, c1, rfl, hn, hbx⟩; replace f0 := cell_below f0 (below_trans (by first | exact Below.refl _ _ | exact below_drew1 _ | exact below_drewN _ _) hbx); replace f1 := cell_below f1 (below_trans (by first | exact Below.refl _ _ | exact below_drew1 _ | exact below_drewN _ _) hbx); replace f2 := cell_below f2 (below_trans (by first | exact Below.refl _ _ | exact below_drew1 _ | exact below_drewN _ _) hbx); replace Br := Br.kept (below_trans (by first | exact Below.refl _ _ | exact below_drew1 _ | exact below_drewN _ _) hbx); replace xr := Br.cellF; replace yr := Br.frz; replace zr := Br.lt; replace HB := hid (below_trans HB.out (below_trans (by first | exact Below.refl _ _ | exact below_drew1 _ | exact below_drewN _ _) hbx)); replace HG := hid (below_trans HG.out (below_trans (by first | exact Below.refl _ _ | exact below_drew1 _ | exact below_drewN _ _) hbx)); have H1 : Hid (VlsR w2 (w.heap.size + 2 ≤ ·) d (.slice a1 nk.length c1) nk) := hid (VlsR.go hn (Keep.refl (fun _ => True) w2) (fun _ _ => trivial) (fun k hk => Nat.le_trans HS.out hk)); (try replace H2 := hid (VlsR.kept H2.out (below_trans (by first | exact Below.refl _ _ | exact below_drew1 _ | exact below_drewN _ _) hbx))); replace HS := hid (Nat.le_trans HS.out (Below.size (below_trans (by first | exact Below.refl _ _ | exact below_drew1 _ | exact below_drewN _ _) hbx))); clear hn hbx) | (go_at_call_of 64 (Value.slice va x.vs.length vc); refine (HKV.out _ (by have := HG.out; exact blBy)).mono ?_; rintro e w3 ⟨a2, c2, rfl, hn, hbx⟩; replace f0 := cell_below f0 (below_trans (by first | exact Below.refl _ _ | exact below_drew1 _ | exact below_drewN _ _) hbx); replace f1 := cell_below f1 (below_trans (by first | exact Below.refl _ _ | exact below_drew1 _ | exact below_drewN _ _) hbx); replace f2 := cell_below f2 (below_trans (by first | exact Below.refl _ _ | exact below_drew1 _ | exact below_drewN _ _) hbx); replace Br := Br.kept (below_trans (by first | exact Below.refl _ _ | exact below_drew1 _ | exact below_drewN _ _) hbx); replace xr := Br.cellF; replace yr := Br.frz; replace zr := Br.lt; replace HB := hid (below_trans HB.out (below_trans (by first | exact Below.refl _ _ | exact below_drew1 _ | exact below_drewN _ _) hbx)); replace HG := hid (below_trans HG.out (below_trans (by first | exact Below.refl _ _ | exact below_drew1 _ | exact below_drewN _ _) hbx)); have H2 : Hid (VlsR w3 (w.heap.size + 2 ≤ ·) d (.slice a2 nv.length c2) nv) := hid (VlsR.go hn (Keep.refl (fun _ => True) w3) (fun _ _ => trivial) (fun k hk => Nat.le_trans HS.out hk)); (try replace H1 := hid (VlsR.kept H1.out (below_trans (by first | exact Below.refl _ _ | exact below_drew1 _ | exact below_drewN _ _) hbx))); replace HS := hid (Nat.le_trans HS.out (Below.size (below_trans (by first | exact Below.refl _ _ | exact below_drew1 _ | exact below_drewN _ _) hbx))); clear hn hbx))
  all_goals go_wp2
  all_goals exact bodyPost_ret (v := .agg #[.int .i64 x.num, .slice a1 nk.length c1, .slice a2 nv.length c2]) (by simp [results, Tryz.results59, go_sem, xr, zr, yr]) rfl (NewE.mk [.int .i64 x.num, .slice a1 nk.length c1, .slice a2 nv.length c2] (by rw [HST.out]; exact ⟨_, _, rfl, VlsR.go H1.out (f := (w.heap.size + 2 ≤ ·)) (by with_reducible repeat (first | exact Keep.refl _ _ | refine kpS ?_ (by first | (simp; done) | (simp; omega) | omega) | refine kpA ?_ _ | refine kpD ?_ | refine kpN ?_ _)) (fun _ h => h) (fun k hk => by omega), VlsR.go H2.out (f := (w.heap.size + 2 ≤ ·)) (by with_reducible repeat (first | exact Keep.refl _ _ | refine kpS ?_ (by first | (simp; done) | (simp; omega) | omega) | refine kpA ?_ _ | refine kpD ?_ | refine kpN ?_ _)) (fun _ h => h) (fun k hk => by omega), HU.out⟩) (by have := HB.out; exact blBy))
theorem rebuiltS (l : List TV) (ta : Option Addr) (tc : Nat) (hg : goodB l = true) : ∀ d, SeAt l ta tc d
  | 0 => fun _ _ _ _ _ _ _ _ h => h.elim
  | d + 1 => fun w Z x cs m hT hx hk h => by
    have HC := rebuiltS l ta tc hg d
    have hkA := kept_all hk
    have h0 := MsgE.old (d + 1) _ _ h
    have HW := hid fun W (hW : Below w.heap.size w W) => settledM W x ((hT.ty x hx).kept hW) (good_rise hg hx).1 (good_rise hg hx).2 (fun b => Z b ∧ b < w.heap.size) d cs m (h0.kept hW) (hold_one hkA.1)
    have hin : ∀ f ∈ (stayM x m).fs, f ∈ m.fs := fun f hf => (List.mem_filter.1 hf).1
    have HSM : Hid (setM l (d + 1) x m = CM.mk ((stayM x m).fs.map (fun f => setF (setM l d (blwB l x f)) f)) (stayM x m).us) := hid rfl
    obtain ⟨ka, kc, va, vc, rfl, -⟩ := msg_openD h
    obtain ⟨ta1, tc1, ta2, tc2, ta3, tc3, ta4, tc4, e1, e2, e3, e4⟩ := shT_of (hT.ty x hx)
    have ecx : cTV x = [.string (strOfNums x.t.name), .bool x.t.enum, .slice ta1 x.t.fs.length tc1, .slice ta2 x.t.os.length tc2, .slice ta3 x.t.ss.length tc3, .slice ta4 x.t.rs.length tc4] := by unfold cTV; rw [e1, e2, e3, e4]
    rw [ecx] at HW ⊢
    generalize setM l (d + 1) x m = res at *
    generalize stayM x m = sm at *
    have hcf := cfStd
    clear h h0 e1 e2 e3 e4
    go_enter Tryz.func29, Tryz.ntmps29
    go_wp2_with fail
    refine (HW.out _ (by exact blBy)).mono ?_
    rintro e w1 ⟨ds, rfl, hn, hbx⟩
    have B4 : Blk w1 w.heap.size 66 #[.string (strOfNums x.t.name), .bool x.t.enum, .slice ta1 x.t.fs.length tc1, .slice ta2 x.t.os.length tc2, .slice ta3 x.t.ss.length tc3, .slice ta4 x.t.rs.length tc4] := (((((Blk.new _ _ _).kept (below_alloc _)).kept (below_alloc _)).kept (below_alloc _)).kept (below_alloc _)).kept hbx
    have B5 : Blk w1 (w.heap.size + 1) 35 #[.slice ka m.fs.length kc, .slice va m.us.length vc] := ((((Blk.newAt (by simp)).kept (below_alloc _)).kept (below_alloc _)).kept (below_alloc _)).kept hbx
    have B6 : Blk w1 (w.heap.size + 1 + 1) 72 #[.func (.func 30) #[] #[]] := (((Blk.newAt (by simp)).kept (below_alloc _)).kept (below_alloc _)).kept hbx
    have B7 : Blk w1 (w.heap.size + 1 + 1 + 1) 73 #[.func (.func 31) #[.agg #[.slice ta l.length tc]] #[]] := ((Blk.newAt (by simp)).kept (below_alloc _)).kept hbx
    have Br : Blk w1 (w.heap.size + 1 + 1 + 1 + 1) 35 #[.slice none 0 0, .slice none 0 0] := (Blk.newAt (by simp)).kept hbx
    have hbz : Hid (Below w.heap.size w w1) := hid (bl_then (by exact blBy) hbx)
    have hs1 : w.heap.size + 5 ≤ w1.heap.size := by have := hbx.size; simpa using this
    have hn2 : MsgE w1 (fun b => (Z b ∧ b < w.heap.size) ∨ w.heap.size + 5 ≤ b) (d + 1) ds sm := MsgE.go (Keep.refl (fun _ => True) w1) (fun _ _ => trivial) (fun b hz => by rcases hz with hz | hz; exact Or.inl hz; exact Or.inr (by simpa using hz)) (d + 1) _ _ hn
    obtain ⟨fa, fc, ua, uc, rfl, gF, gU, -⟩ := msg_open hn2
    have gF2 : FlsR ((w1.setCell ⟨w.heap.size + 1, 0, none⟩ (.slice fa sm.fs.length fc)).setCell ⟨w.heap.size + 1, 1, none⟩ (.slice ua sm.us.length uc)) (fun b => (Z b ∧ b < w.heap.size) ∨ w.heap.size + 5 ≤ b) d (.slice fa sm.fs.length fc) sm.fs := FlsR.go gF (f := (· ≠ w.heap.size + 1)) (kpS (kpS (Keep.refl _ _) (by simp)) (by simp)) (fun b hz => by rcases hz with hz | hz; have := hz.2; omega; omega) (fun _ h => h)
    have gU2 : EnsR ((w1.setCell ⟨w.heap.size + 1, 0, none⟩ (.slice fa sm.fs.length fc)).setCell ⟨w.heap.size + 1, 1, none⟩ (.slice ua sm.us.length uc)) (fun b => (Z b ∧ b < w.heap.size) ∨ w.heap.size + 5 ≤ b) (.slice ua sm.us.length uc) sm.us := EnsR.go gU (f := (· ≠ w.heap.size + 1)) (kpS (kpS (Keep.refl _ _) (by simp)) (by simp)) (fun b hz => by rcases hz with hz | hz; have := hz.2; omega; omega) (fun _ h => h)
    clear hbx HW hn hn2 gF gU
    have x5 := B5.cellF
    have y5 := B5.frz
    have z5 := B5.lt
    go_upto_region 3 with fail
    have BB : SeB l ta tc ((w1.setCell ⟨w.heap.size + 1, 0, none⟩ (.slice fa sm.fs.length fc)).setCell ⟨w.heap.size + 1, 1, none⟩ (.slice ua sm.us.length uc)) x w.heap.size (w.heap.size + 1 + 1) (w.heap.size + 1 + 1 + 1) := ⟨by rw [ecx]; exact (B4.other (by simp) _).other (by simp) _, (B6.other (by simp) _).other (by simp) _, (B7.other (by simp; omega) _).other (by simp; omega) _⟩
    replace B5 := (B5.set 0 (.slice fa sm.fs.length fc)).set 1 (.slice ua sm.us.length uc)
    replace Br := (Br.other (a := ⟨w.heap.size + 1, 0, none⟩) (by simp; omega) (.slice fa sm.fs.length fc)).other (a := ⟨w.heap.size + 1, 1, none⟩) (by simp; omega) (.slice ua sm.us.length uc)
    have HB : Hid (Below w.heap.size w ((w1.setCell ⟨w.heap.size + 1, 0, none⟩ (.slice fa sm.fs.length fc)).setCell ⟨w.heap.size + 1, 1, none⟩ (.slice ua sm.us.length uc))) := hid (by have := hbz.out; exact blBy)
    have HS : Hid (w.heap.size + 5 ≤ ((w1.setCell ⟨w.heap.size + 1, 0, none⟩ (.slice fa sm.fs.length fc)).setCell ⟨w.heap.size + 1, 1, none⟩ (.slice ua sm.us.length uc)).heap.size) := hid (by simpa using hs1)
    clear x5 y5 z5 B4 B6 B7 hs1 hbz
    generalize ((w1.setCell ⟨w.heap.size + 1, 0, none⟩ (.slice fa sm.fs.length fc)).setCell ⟨w.heap.size + 1, 1, none⟩ (.slice ua sm.us.length uc)) = W at *
    have HT : Hid (∀ (W' : World), Below W.heap.size W W' → Calls Tryz.prog 65 #[.slice fa sm.fs.length fc, .func (.func 59) #[] #[.pointer (some ⟨w.heap.size + 1 + 1 + 1, 0, none⟩), .pointer (some ⟨w.heap.size, 0, none⟩), .pointer (some ⟨w.heap.size + 1 + 1, 0, none⟩)]] W' (NewL 3 (FmF d) W' (sm.fs.map (fun f => setF (setM l d (blwB l x f)) f)))) := hid fun W' hW' => turnedF W' (fun b => (Z b ∧ b < w.heap.size) ∨ w.heap.size + 5 ≤ b) d d sm.fs fa fc (gF2.kept hW') 59 #[.pointer (some ⟨w.heap.size + 1 + 1 + 1, 0, none⟩), .pointer (some ⟨w.heap.size, 0, none⟩), .pointer (some ⟨w.heap.size + 1 + 1, 0, none⟩)] cfFS (fun f => setF (setM l d (blwB l x f)) f) (fun W2 hW2 cs f hf hfe => newFieldS l ta tc d HC W2 (hT.kept (below_trans HB.out (below_trans hW' hW2))) hg x hx (fun b => (Z b ∧ b < w.heap.size) ∨ w.heap.size + 5 ≤ b) cs f (holdB_has hkA.1 (hin f hf)) (hkA.2 f (hin f hf)) hfe _ _ _ (BB.kept (below_trans hW' hW2)))
    have HE : Hid (∀ (W' : World), Below W.heap.size W W' → Calls Tryz.prog 66 #[.slice ua sm.us.length uc, .func (.func 67) #[] #[]] W' (NewL 4 FmE W' sm.us)) := hid fun W' hW' => by
      have := turnedE W' (fun b => (Z b ∧ b < w.heap.size) ∨ w.heap.size + 5 ≤ b) sm.us ua uc (gU2.kept hW') 67 #[] cfE id (fun W2 hW2 cs x _ hx => newEntryT W2 (fun b => (Z b ∧ b < w.heap.size) ∨ w.heap.size + 5 ≤ b) cs x hx)
      rw [List.map_id] at this
      exact this
    have HG : Hid (Below W.heap.size W W) := hid (Below.refl _ _)
    generalize sm.fs.map (fun f => setF (setM l d (blwB l x f)) f) = nf at *
    have f0 : W.cell? ⟨w.heap.size + 1, 0, none⟩ = some (.slice fa sm.fs.length fc) := B5.cell 0 _ (by simp)
    have f1 : W.cell? ⟨w.heap.size + 1, 1, none⟩ = some (.slice ua sm.us.length uc) := B5.cell 1 _ (by simp)
    have hp1 : w.heap.size + 1 ≠ w.heap.size + 1 + 1 + 1 + 1 := by omega
    have xr := Br.cellF
    have yr := Br.frz
    have zr := Br.lt
    clear B5 BB gF2 gU2 HC hkA hin hT hx hk hg
    go_region_held3 (fun W => W.cell? ⟨w.heap.size + 1, 0, none⟩ = some (.slice fa sm.fs.length fc) ∧ W.cell? ⟨w.heap.size + 1, 1, none⟩ = some (.slice ua sm.us.length uc)) (first | exact ⟨f0, f1⟩ | exact ⟨cs2 f0 hp1, cs2 f1 hp1⟩) (first | (go_at_call 65; refine (HT.out _ (by have := HG.out; exact blBy)).mono ?_; rintro e w2 ⟨a1, c1, rfl, hn, hbx⟩; replace f0 := cell_below f0 (below_trans (by first | exact Below.refl _ _ | exact below_drew1 _ | exact below_drewN _ _) hbx); replace f1 := cell_below f1 (below_trans (by first | exact Below.refl _ _ | exact below_drew1 _ | exact below_drewN _ _) hbx); replace Br := Br.kept (below_trans (by first | exact Below.refl _ _ | exact below_drew1 _ | exact below_drewN _ _) hbx); replace xr := Br.cellF; replace yr := Br.frz; replace zr := Br.lt; replace HB := hid (below_trans HB.out (below_trans (by first | exact Below.refl _ _ | exact below_drew1 _ | exact below_drewN _ _) hbx)); replace HG := hid (below_trans HG.out (below_trans (by first | exact Below.refl _ _ | exact below_drew1 _ | exact below_drewN _ _) hbx)); have H1 : Hid (FlsR w2 (w.heap.size + 5 ≤ ·) d (.slice a1 nf.length c1) nf) := hid (FlsR.go hn (Keep.refl (fun _ => True) w2) (fun _ _ => trivial) (fun k hk => Nat.le_trans HS.out hk)); (try replace H2 := hid (EnsR.kept H2.out (below_trans (by first | exact Below.refl _ _ | exact below_drew1 _ | exact below_drewN _ _) hbx))); replace HS := hid (Nat.le_trans HS.out (Below.size (below_trans (by first | exact Below.refl _ _ | exact below_drew1 _ | exact below_drewN _ _) hbx))); clear hn hbx) | (go_at_call 66; refine (HE.out _ (by have := HG.out; exact blBy)).mono ?_; rintro e w3 ⟨a2, c2, rfl, hn, hbx⟩; replace f0 := cell_below f0 (below_trans (by first | exact Below.refl _ _ | exact below_drew1 _ | exact below_drewN _ _) hbx); replace f1 := cell_below f1 (below_trans (by first | exact Below.refl _ _ | exact below_drew1 _ | exact below_drewN _ _) hbx); replace Br := Br.kept (below_trans (by first | exact Below.refl _ _ | exact below_drew1 _ | exact below_drewN _ _) hbx); replace xr := Br.cellF; replace yr := Br.frz; replace zr := Br.lt; replace HB := hid (below_trans HB.out (below_trans (by first | exact Below.refl _ _ | exact below_drew1 _ | exact below_drewN _ _) hbx)); replace HG := hid (below_trans HG.out (below_trans (by first | exact Below.refl _ _ | exact below_drew1 _ | exact below_drewN _ _) hbx)); have H2 : Hid (EnsR w3 (w.heap.size + 5 ≤ ·) (.slice a2 sm.us.length c2) sm.us) := hid (EnsR.go hn (Keep.refl (fun _ => True) w3) (fun _ _ => trivial) (fun k hk => Nat.le_trans HS.out hk)); (try replace H1 := hid (FlsR.kept H1.out (below_trans (by first | exact Below.refl _ _ | exact below_drew1 _ | exact below_drewN _ _) hbx))); replace HS := hid (Nat.le_trans HS.out (Below.size (below_trans (by first | exact Below.refl _ _ | exact below_drew1 _ | exact below_drewN _ _) hbx))); clear hn hbx))
    all_goals go_wp2
    all_goals exact bodyPost_ret (v := .agg #[.slice a1 nf.length c1, .slice a2 sm.us.length c2]) (by simp [results, Tryz.results29, go_sem, xr, zr, yr]) rfl (NewE.mk [.slice a1 nf.length c1, .slice a2 sm.us.length c2] (by rw [HSM.out]; exact ⟨_, _, rfl, FlsR.go H1.out (f := (w.heap.size + 5 ≤ ·)) (by with_reducible repeat (first | exact Keep.refl _ _ | refine kpS ?_ (by first | (simp; done) | (simp; omega) | omega) | refine kpA ?_ _ | refine kpD ?_ | refine kpN ?_ _)) (fun _ h => h) (fun k hk => by omega), EnsR.go H2.out (f := (w.heap.size + 5 ≤ ·)) (by with_reducible repeat (first | exact Keep.refl _ _ | refine kpS ?_ (by first | (simp; done) | (simp; omega) | omega) | refine kpA ?_ _ | refine kpD ?_ | refine kpN ?_ _)) (fun _ h => h) (fun k hk => by omega)⟩) (by have := HB.out; exact blBy))
end Go.Proofs.YtnfdlnelfnigdaaGreatDoor
