/-
  What stays of a typed message: its lists; whether all stays.
  Whether a message is normal.
  Settle: what the program answers, at every depth.
  Settle: what the program answers.
  Settle: what the program answers.
  Settle.
  Settling: what the document does to a field is what the program does; normal is: settling changes nothing.
  Messages stored into the rows of a new field's values: what is kept, what it holds in the end.
  The document's Copy, at every depth.
-/
import Derived.Test.YtnfdlnelfnigdaaGreatDoorCDB
import Derived.Test.YtnfdlnelfnigdaaGreatDoorCCJ
import Derived.Test.YtnfdlnelfnigdaaGreatDoorCw8WP
import Derived.Test.YtnfdlnelfnigdaaGreatDoorCNG
import Derived.Test.YtnfdlnelfnigdaaGreatDoorCCC
namespace Go.Proofs.YtnfdlnelfnigdaaGreatDoor
open Go.RowKit
set_option maxRecDepth 1000000
set_option linter.unusedVariables false
set_option linter.unusedSimpArgs false
set_option maxHeartbeats 1000000
def untk (fs : List FT) (e : CE) : Bool := !(takenB fs e)
theorem toldFn (w : World) (x : TV) (hx : TyR w x) (hr : Rise x.t.fs) (hl : x.t.fs.length ≤ 128) (Z : Nat → Prop) (d : Nat) (cs : List Value) (f : CF CM) (hf : FldE w Z (MsgE w Z d) cs f) (hv : (ownF x.t.fs f.num).lab = 0 → 0 < f.vs.length) (p : Nat) (hp : Blk w p 66 (cTV x).toArray) : Calls Tryz.prog 68 #[.agg cs.toArray, .pointer (some ⟨p, 0, none⟩)] w fun e w' => e = .returned (.bool (toldB x.t.fs f)) ∧ Below w.heap.size w w' := by
  have HT := hid fun W (hW : Below w.heap.size w W) => isToldM W x (hx.kept hW) hr hl Z d cs f (hf.kept hW) hv
  obtain ⟨ta1, tc1, ta2, tc2, ta3, tc3, ta4, tc4, e1, e2, e3, e4⟩ := shT_of hx
  have ecx : cTV x = [.string (strOfNums x.t.name), .bool x.t.enum, .slice ta1 x.t.fs.length tc1, .slice ta2 x.t.os.length tc2, .slice ta3 x.t.ss.length tc3, .slice ta4 x.t.rs.length tc4] := by unfold cTV; rw [e1, e2, e3, e4]
  obtain ⟨ka, kc, va, vc, rfl, -⟩ := fld_open hf
  rw [ecx] at HT hp
  have xp := hp.cellF
  have zp := hp.lt
  clear hx hf e1 e2 e3 e4 ecx hp hr hl hv
  go_enter Tryz.func68, Tryz.ntmps68
  go_wp2_with fail
  refine (HT.out _ (by exact blBy)).mono ?_
  rintro e w1 ⟨rfl, hb1⟩
  have HB1 : Hid (Below w.heap.size w w1) := hid (bl_then (by exact blBy) hb1)
  clear hb1
  go_wp2
  go_ret
  exact ⟨rfl, HB1.out⟩
theorem untkFn (w : World) (x : TV) (hx : TyR w x) (hr : Rise x.t.fs) (hl : x.t.fs.length ≤ 128) (Z : Nat → Prop) (cs : List Value) (y : CE) (hy : EntE w Z cs y) (p : Nat) (hp : Blk w p 66 (cTV x).toArray) : Calls Tryz.prog 70 #[.agg cs.toArray, .pointer (some ⟨p, 0, none⟩)] w fun e w' => e = .returned (.bool (untk x.t.fs y)) ∧ Below w.heap.size w w' := by
  have HT := hid fun W (hW : Below w.heap.size w W) => isTakenM W x (hx.kept hW) hr hl Z cs y (hy.kept hW)
  obtain ⟨ta1, tc1, ta2, tc2, ta3, tc3, ta4, tc4, e1, e2, e3, e4⟩ := shT_of hx
  have ecx : cTV x = [.string (strOfNums x.t.name), .bool x.t.enum, .slice ta1 x.t.fs.length tc1, .slice ta2 x.t.os.length tc2, .slice ta3 x.t.ss.length tc3, .slice ta4 x.t.rs.length tc4] := by unfold cTV; rw [e1, e2, e3, e4]
  obtain ⟨ba, bc, rfl, -⟩ := ent_open hy
  have HX : Hid ((!(takenB x.t.fs y)) = untk x.t.fs y) := hid rfl
  rw [ecx] at HT hp
  have xp := hp.cellF
  have zp := hp.lt
  clear hx hy e1 e2 e3 e4 ecx hp hr hl
  go_enter Tryz.func70, Tryz.ntmps70
  go_wp2_with fail
  refine (HT.out _ (by exact blBy)).mono ?_
  rintro e w1 ⟨rfl, hb1⟩
  have HB1 : Hid (Below w.heap.size w w1) := hid (bl_then (by exact blBy) hb1)
  clear hb1
  go_wp2
  go_ret
  exact ⟨ret_bool HX.out, HB1.out⟩
theorem cfTold (args : Array Value) (W : World) : (callFunc 68 args).run Tryz.prog W = .ok (.enter 68 args) W := cf_enter Tryz.func68 (by kernel_rfl) (by kernel_rfl) args W
theorem cfUntk (args : Array Value) (W : World) : (callFunc 70 args).run Tryz.prog W = .ok (.enter 70 args) W := cf_enter Tryz.func70 (by kernel_rfl) (by kernel_rfl) args W
/-- What stays of a message, but for what the messages within hold. -/
def stayM (x : TV) (m : CM) : CM := CM.mk (m.fs.filter (toldB x.t.fs)) (m.us.filter (untk x.t.fs))
theorem settledM (w : World) (x : TV) (hx : TyR w x) (hr : Rise x.t.fs) (hl : x.t.fs.length ≤ 128) (Z : Nat → Prop) (d : Nat) (cs : List Value) (m : CM) (hm : MsgE w Z (d + 1) cs m) (hv : ∀ f ∈ m.fs, (ownF x.t.fs f.num).lab = 0 → 0 < f.vs.length) : Calls Tryz.prog 30 #[.agg (cTV x).toArray, .agg cs.toArray] w fun e w' => ∃ ds : List Value, e = .returned (.agg ds.toArray) ∧ MsgE w' (fun b => Z b ∨ w.heap.size ≤ b) (d + 1) ds (stayM x m) ∧ Below w.heap.size w w' := by
  obtain ⟨ka, kc, va, vc, rfl, g1, g2, l1, l2⟩ := msg_open (MsgE.old (d + 1) _ _ hm)
  have HTF := hid fun W (hW : Below w.heap.size w W) (p : Nat) (hp : Blk W p 66 (cTV x).toArray) => chosenF W (fun b => Z b ∧ b < w.heap.size) d m.fs ka kc (g1.kept hW) 68 #[.pointer (some ⟨p, 0, none⟩)] cfTold (toldB x.t.fs) (fun W' hW' cs f hf hfe => toldFn W' x (hx.kept (below_trans hW hW')) hr hl _ d cs f hfe (hv f hf) p (hp.kept hW'))
  have HTE := hid fun W (hW : Below w.heap.size w W) (p : Nat) (hp : Blk W p 66 (cTV x).toArray) => chosenE W (fun b => Z b ∧ b < w.heap.size) m.us va vc (g2.kept hW) 70 #[.pointer (some ⟨p, 0, none⟩)] cfUntk (untk x.t.fs) (fun W' hW' cs y hy hye => untkFn W' x (hx.kept (below_trans hW hW')) hr hl _ cs y hye p (hp.kept hW'))
  obtain ⟨ta1, tc1, ta2, tc2, ta3, tc3, ta4, tc4, e1, e2, e3, e4⟩ := shT_of hx
  have ecx : cTV x = [.string (strOfNums x.t.name), .bool x.t.enum, .slice ta1 x.t.fs.length tc1, .slice ta2 x.t.os.length tc2, .slice ta3 x.t.ss.length tc3, .slice ta4 x.t.rs.length tc4] := by unfold cTV; rw [e1, e2, e3, e4]
  rw [ecx] at HTF HTE ⊢
  have HST : Hid (stayM x m = CM.mk (m.fs.filter (toldB x.t.fs)) (m.us.filter (untk x.t.fs))) := hid rfl
  generalize stayM x m = res at *
  generalize m.fs.filter (toldB x.t.fs) = nf at *
  generalize m.us.filter (untk x.t.fs) = nu at *
  clear hx hm g1 g2 e1 e2 e3 e4 ecx hr hl hv
  go_enter Tryz.func30, Tryz.ntmps30
  go_upto_region 3 with fail
  have Bx : Blk (((w.alloc (.cells #[.string (strOfNums x.t.name), .bool x.t.enum, .slice ta1 x.t.fs.length tc1, .slice ta2 x.t.os.length tc2, .slice ta3 x.t.ss.length tc3, .slice ta4 x.t.rs.length tc4] 66)).alloc (.cells #[.slice ka m.fs.length kc, .slice va m.us.length vc] 35)).alloc (.cells #[.slice none 0 0, .slice none 0 0] 35)) w.heap.size 66 #[.string (strOfNums x.t.name), .bool x.t.enum, .slice ta1 x.t.fs.length tc1, .slice ta2 x.t.os.length tc2, .slice ta3 x.t.ss.length tc3, .slice ta4 x.t.rs.length tc4] := ((Blk.new _ _ _).kept (below_alloc _)).kept (below_alloc _)
  have Bm : Blk (((w.alloc (.cells #[.string (strOfNums x.t.name), .bool x.t.enum, .slice ta1 x.t.fs.length tc1, .slice ta2 x.t.os.length tc2, .slice ta3 x.t.ss.length tc3, .slice ta4 x.t.rs.length tc4] 66)).alloc (.cells #[.slice ka m.fs.length kc, .slice va m.us.length vc] 35)).alloc (.cells #[.slice none 0 0, .slice none 0 0] 35)) (w.heap.size + 1) 35 #[.slice ka m.fs.length kc, .slice va m.us.length vc] := (Blk.newAt (by simp)).kept (below_alloc _)
  have Br : Blk (((w.alloc (.cells #[.string (strOfNums x.t.name), .bool x.t.enum, .slice ta1 x.t.fs.length tc1, .slice ta2 x.t.os.length tc2, .slice ta3 x.t.ss.length tc3, .slice ta4 x.t.rs.length tc4] 66)).alloc (.cells #[.slice ka m.fs.length kc, .slice va m.us.length vc] 35)).alloc (.cells #[.slice none 0 0, .slice none 0 0] 35)) (w.heap.size + 1 + 1) 35 #[.slice none 0 0, .slice none 0 0] := Blk.newAt (by simp)
  have HB : Hid (Below w.heap.size w (((w.alloc (.cells #[.string (strOfNums x.t.name), .bool x.t.enum, .slice ta1 x.t.fs.length tc1, .slice ta2 x.t.os.length tc2, .slice ta3 x.t.ss.length tc3, .slice ta4 x.t.rs.length tc4] 66)).alloc (.cells #[.slice ka m.fs.length kc, .slice va m.us.length vc] 35)).alloc (.cells #[.slice none 0 0, .slice none 0 0] 35))) := hid (by exact blBy)
  have HS : Hid (w.heap.size + 3 ≤ (((w.alloc (.cells #[.string (strOfNums x.t.name), .bool x.t.enum, .slice ta1 x.t.fs.length tc1, .slice ta2 x.t.os.length tc2, .slice ta3 x.t.ss.length tc3, .slice ta4 x.t.rs.length tc4] 66)).alloc (.cells #[.slice ka m.fs.length kc, .slice va m.us.length vc] 35)).alloc (.cells #[.slice none 0 0, .slice none 0 0] 35)).heap.size) := hid (by simp)
  generalize (((w.alloc (.cells #[.string (strOfNums x.t.name), .bool x.t.enum, .slice ta1 x.t.fs.length tc1, .slice ta2 x.t.os.length tc2, .slice ta3 x.t.ss.length tc3, .slice ta4 x.t.rs.length tc4] 66)).alloc (.cells #[.slice ka m.fs.length kc, .slice va m.us.length vc] 35)).alloc (.cells #[.slice none 0 0, .slice none 0 0] 35)) = W at *
  have f0 : W.cell? ⟨w.heap.size + 1, 0, none⟩ = some (.slice ka m.fs.length kc) := Bm.cell 0 _ rfl
  have f1 : W.cell? ⟨w.heap.size + 1, 1, none⟩ = some (.slice va m.us.length vc) := Bm.cell 1 _ rfl
  have hp1 : w.heap.size + 1 ≠ w.heap.size + 1 + 1 := by omega
  have HBX := hid Bx
  have xr := Br.cellF
  have yr := Br.frz
  have zr := Br.lt
  clear Bx Bm
  go_region_held3 (fun W => W.cell? ⟨w.heap.size + 1, 0, none⟩ = some (.slice ka m.fs.length kc) ∧ W.cell? ⟨w.heap.size + 1, 1, none⟩ = some (.slice va m.us.length vc)) (first | exact ⟨f0, f1⟩ | exact ⟨cs2 f0 hp1, cs2 f1 hp1⟩) (first | (go_at_call 72; refine (HTF.out _ (by have := HB.out; exact blBy) _ (HBX.out.kept (by first | exact Below.refl _ _ | exact below_drew1 _ | exact below_drewN _ _))).mono ?_; rintro e w2 ⟨a1, c1, rfl, hn, hbx⟩; replace f0 := cell_below f0 (below_trans (by first | exact Below.refl _ _ | exact below_drew1 _ | exact below_drewN _ _) hbx); replace f1 := cell_below f1 (below_trans (by first | exact Below.refl _ _ | exact below_drew1 _ | exact below_drewN _ _) hbx); replace Br := Br.kept (below_trans (by first | exact Below.refl _ _ | exact below_drew1 _ | exact below_drewN _ _) hbx); replace xr := Br.cellF; replace yr := Br.frz; replace zr := Br.lt; replace HB := hid (below_trans HB.out (below_trans (by first | exact Below.refl _ _ | exact below_drew1 _ | exact below_drewN _ _) hbx)); replace HBX := hid (HBX.out.kept (below_trans (by first | exact Below.refl _ _ | exact below_drew1 _ | exact below_drewN _ _) hbx)); have H1 : Hid (FlsR w2 (fun b => b ≠ w.heap.size + 1 + 1 ∧ (Z b ∨ w.heap.size ≤ b)) d (.slice a1 nf.length c1) nf) := hid (FlsR.go hn (Keep.refl (fun _ => True) _) (fun _ _ => trivial) (fun b hz => by rcases hz with hz | hz; exact ⟨by have := hz.2; omega, Or.inl hz.1⟩; exact ⟨by have := HS.out; (try simp at hz); omega, Or.inr (by have := HS.out; (try simp at hz); omega)⟩)); (try replace H2 := hid (EnsR.kept H2.out (below_trans (by first | exact Below.refl _ _ | exact below_drew1 _ | exact below_drewN _ _) hbx))); replace HS := hid (Nat.le_trans HS.out (Below.size (below_trans (by first | exact Below.refl _ _ | exact below_drew1 _ | exact below_drewN _ _) hbx))); clear hn hbx) | (go_at_call 73; refine (HTE.out _ (by have := HB.out; exact blBy) _ (HBX.out.kept (by first | exact Below.refl _ _ | exact below_drew1 _ | exact below_drewN _ _))).mono ?_; rintro e w3 ⟨a2, c2, rfl, hn, hbx⟩; replace f0 := cell_below f0 (below_trans (by first | exact Below.refl _ _ | exact below_drew1 _ | exact below_drewN _ _) hbx); replace f1 := cell_below f1 (below_trans (by first | exact Below.refl _ _ | exact below_drew1 _ | exact below_drewN _ _) hbx); replace Br := Br.kept (below_trans (by first | exact Below.refl _ _ | exact below_drew1 _ | exact below_drewN _ _) hbx); replace xr := Br.cellF; replace yr := Br.frz; replace zr := Br.lt; replace HB := hid (below_trans HB.out (below_trans (by first | exact Below.refl _ _ | exact below_drew1 _ | exact below_drewN _ _) hbx)); replace HBX := hid (HBX.out.kept (below_trans (by first | exact Below.refl _ _ | exact below_drew1 _ | exact below_drewN _ _) hbx)); have H2 : Hid (EnsR w3 (fun b => b ≠ w.heap.size + 1 + 1 ∧ (Z b ∨ w.heap.size ≤ b)) (.slice a2 nu.length c2) nu) := hid (EnsR.go hn (Keep.refl (fun _ => True) _) (fun _ _ => trivial) (fun b hz => by rcases hz with hz | hz; exact ⟨by have := hz.2; omega, Or.inl hz.1⟩; exact ⟨by have := HS.out; (try simp at hz); omega, Or.inr (by have := HS.out; (try simp at hz); omega)⟩)); (try replace H1 := hid (FlsR.kept H1.out (below_trans (by first | exact Below.refl _ _ | exact below_drew1 _ | exact below_drewN _ _) hbx))); replace HS := hid (Nat.le_trans HS.out (Below.size (below_trans (by first | exact Below.refl _ _ | exact below_drew1 _ | exact below_drewN _ _) hbx))); clear hn hbx))
  all_goals go_wp2
  all_goals exact bodyPost_ret (v := .agg #[.slice a1 nf.length c1, .slice a2 nu.length c2]) (by simp [results, Tryz.results30, go_sem, xr, zr, yr]) rfl ⟨[.slice a1 nf.length c1, .slice a2 nu.length c2], rfl, by rw [HST.out]; exact ⟨_, _, rfl, FlsR.go H1.out (f := (· ≠ w.heap.size + 1 + 1)) (by with_reducible repeat (first | exact Keep.refl _ _ | refine kpS ?_ (by first | (simp; done) | (simp; omega) | omega) | refine kpA ?_ _ | refine kpD ?_ | refine kpN ?_ _)) (fun _ h => h.1) (fun _ h => h.2), EnsR.go H2.out (f := (· ≠ w.heap.size + 1 + 1)) (by with_reducible repeat (first | exact Keep.refl _ _ | refine kpS ?_ (by first | (simp; done) | (simp; omega) | omega) | refine kpA ?_ _ | refine kpD ?_ | refine kpN ?_ _)) (fun _ h => h.1) (fun _ h => h.2)⟩, by have := HB.out; exact blBy⟩
def setB (x : TV) (m : CM) : Bool := (((m.fs.filter (toldB x.t.fs)).length : Int) == (m.fs.length : Int)) && (((m.us.filter (untk x.t.fs)).length : Int) == (m.us.length : Int))
theorem isSettledM (w : World) (x : TV) (hx : TyR w x) (hr : Rise x.t.fs) (hl : x.t.fs.length ≤ 128) (Z : Nat → Prop) (d : Nat) (cs : List Value) (m : CM) (hm : MsgE w Z (d + 1) cs m) (hv : ∀ f ∈ m.fs, (ownF x.t.fs f.num).lab = 0 → 0 < f.vs.length) : Calls Tryz.prog 38 #[.agg (cTV x).toArray, .agg cs.toArray] w fun e w' => e = .returned (.bool (setB x m)) ∧ Below w.heap.size w w' := by
  have HS := hid fun W (hW : Below w.heap.size w W) => settledM W x (hx.kept hW) hr hl Z d cs m (hm.kept hW) hv
  obtain ⟨ka, kc, va, vc, rfl, g1, g2, l1, l2⟩ := msg_open hm
  obtain ⟨ta1, tc1, ta2, tc2, ta3, tc3, ta4, tc4, e1, e2, e3, e4⟩ := shT_of hx
  have ecx : cTV x = [.string (strOfNums x.t.name), .bool x.t.enum, .slice ta1 x.t.fs.length tc1, .slice ta2 x.t.os.length tc2, .slice ta3 x.t.ss.length tc3, .slice ta4 x.t.rs.length tc4] := by unfold cTV; rw [e1, e2, e3, e4]
  rw [ecx] at HS ⊢
  have HX : Hid (setB x m = ((((stayM x m).fs.length : Int) == (m.fs.length : Int)) && (((stayM x m).us.length : Int) == (m.us.length : Int)))) := hid rfl
  have m1 : (m.fs.length : Int) ≤ 9223372036854775807 := by omega
  have m2 : (m.us.length : Int) ≤ 9223372036854775807 := by omega
  generalize setB x m = res at *
  generalize stayM x m = sm at *
  clear hx hm g1 g2 e1 e2 e3 e4 ecx hr hl hv
  go_enter Tryz.func38, Tryz.ntmps38
  go_wp2_with fail
  refine (HS.out _ (by exact blBy)).mono ?_
  rintro e w1 ⟨ds, rfl, hn, hb1⟩
  obtain ⟨fa, fc, ua, uc, rfl, -, -, n1, n2⟩ := msg_open hn
  have m3 : (sm.fs.length : Int) ≤ 9223372036854775807 := by omega
  have m4 : (sm.us.length : Int) ≤ 9223372036854775807 := by omega
  have Bm : Blk w1 (w.heap.size + 1) 35 #[.slice ka m.fs.length kc, .slice va m.us.length vc] := by first | exact (Blk.newAt (by simp)).kept hb1 | exact ((Blk.newAt (by simp)).kept (below_alloc _)).kept hb1
  have xm := Bm.cellF
  have zm := Bm.lt
  have HB1 : Hid (Below w.heap.size w w1) := hid (bl_then (by exact blBy) hb1)
  clear hb1 hn HS Bm
  cases q1 : ((sm.fs.length : Int) == (m.fs.length : Int)) with
  | false =>
    rw [q1, Bool.false_and] at HX
    go_wp2
    go_ret
    exact ⟨ret_bool HX.out.symm, by have := HB1.out; exact blBy⟩
  | true =>
    rw [q1, Bool.true_and] at HX
    go_wp2
    go_ret
    exact ⟨ret_bool HX.out.symm, by have := HB1.out; exact blBy⟩
theorem kept_all {l : List TV} {d : Nat} {x : TV} {m : CM} (h : keptB l (d + 1) x m = true) : holdB l entB x m = true ∧ ∀ f ∈ m.fs, ∀ z ∈ allM f, keptB l d (blwB l x f) z = true := by
  unfold keptB walkB at h
  simp only [Bool.and_eq_true, List.all_eq_true] at h
  exact ⟨h.1, fun f hf z hz => h.2 f hf z hz⟩
theorem hold_one {l : List TV} {ent : CE → Bool} {x : TV} {m : CM} (h : holdB l ent x m = true) : ∀ f ∈ m.fs, (ownF x.t.fs f.num).lab = 0 → 0 < f.vs.length := by
  intro f hf h0
  unfold holdB at h
  simp only [Bool.and_eq_true, List.all_eq_true] at h
  have h1 := h.2.1 f hf
  unfold typB8 fieldB shapeB at h1
  rw [h0] at h1
  simp at h1
  omega
theorem cfSet (args : Array Value) (W : World) : (callFunc 38 args).run Tryz.prog W = .ok (.enter 38 args) W := cf_enter Tryz.func38 (by kernel_rfl) (by kernel_rfl) args W
theorem wkSet (l : List TV) (ta : Option Addr) (tc : Nat) (hg : goodB l = true) (hsh : ∀ x ∈ l, ShT x) (Z : Nat → Prop) : WkH Z (fun W => TbR W (.slice ta l.length tc) l) (· ∈ l) (fun d x m => keptB l d x m = true) setB (blwB l) 38 31 #[] #[.agg #[.slice ta l.length tc]] where
  kept h hb := h.kept hb
  sh := hsh
  eh := cfSet
  eb := cfBelow
  h W x d cs m hW hx hq hm := by
    cases d with
    | zero => exact hm.elim
    | succ d => exact isSettledM W x (hW.ty x hx) (good_rise hg hx).1 (good_rise hg hx).2 Z d cs m hm (hold_one (kept_all hq).1)
  b W x d cs m f hW hx hq hh hf hfe := by
    have h1 := holdB_has (kept_all hq).1 hf
    exact belowT W l ta tc hW hg x hx Z d cs f hfe _ (ownF_hasF h1).1 (ownF_hasF h1).2 _ (blwB_at hg hx h1)
  i x d m f hx hq hh hf := blwB_in hg hx (holdB_has (kept_all hq).1 hf)
  q x d m f z hx hq hh hf hz := (kept_all hq).2 f hf z hz
/-- Whether a message, so deep at most, is typed and settled. -/
def normB (l : List TV) (d : Nat) (x : TV) (m : CM) : Bool := keptB l d x m && walkB setB (blwB l) d x m
theorem normalT (w : World) (l : List TV) (ta : Option Addr) (tc : Nat) (h : TbR w (.slice ta l.length tc) l) (hk : ∀ x ∈ l, OkV x) (mx : Int) (hm0 : w.cell? ⟨0, 0, none⟩ = some (.int .i64 mx)) (k : Nat) (hkl : k < l.length) (hg : goodB l = true) (he : l[k].t.enum = false) (Z : Nat → Prop) (d : Nat) (cs : List Value) (m : CM) (hm : MsgE w Z d cs m) : Calls Tryz.prog 18 #[.agg #[.slice ta l.length tc], .int .i64 (k : Int), .agg cs.toArray] w fun e w' => e = .returned (.tuple #[.bool (normB l d l[k] m), .int .i64 0]) ∧ Below w.heap.size w w' := by
  have HA := hid fun W (hW : Below w.heap.size w W) => msgAtOk W l ta tc (h.kept hW) hk mx (cell_below hm0 hW) k hkl hg he
  have HK := hid fun W (hW : Below w.heap.size w W) => areKeptT W l ta tc (h.kept hW) hg l[k] (List.getElem_mem hkl) Z d cs m (hm.kept hW)
  have HN := hid fun W (hW : Below w.heap.size w W) (hq : keptB l d l[k] m = true) => walkT (wkSet l ta tc hg (fun x hx => shT_of (h.ty x hx)) Z) d W l[k] cs m (h.kept hW) (List.getElem_mem hkl) hq (hm.kept hW)
  obtain ⟨ta1, tc1, ta2, tc2, ta3, tc3, ta4, tc4, e1, e2, e3, e4⟩ := shT_of (h.ty l[k] (List.getElem_mem hkl))
  have ec : cTV l[k] = [.string (strOfNums l[k].t.name), .bool false, .slice ta1 l[k].t.fs.length tc1, .slice ta2 l[k].t.os.length tc2, .slice ta3 l[k].t.ss.length tc3, .slice ta4 l[k].t.rs.length tc4] := by unfold cTV; rw [e1, e2, e3, e4, he]
  obtain ⟨fa, fc, ua, uc, rfl, -⟩ := msg_openD hm
  have HX : Hid (normB l d l[k] m = (keptB l d l[k] m && walkB setB (blwB l) d l[k] m)) := hid rfl
  rw [ec] at HK HN
  rw [e1, e2, e3, e4] at HA
  clear h hg hm e1 e2 e3 e4 ec hm0 hk he
  generalize normB l d l[k] m = res at *
  generalize keptB l d l[k] m = s1 at *
  generalize walkB setB (blwB l) d l[k] m = s2 at *
  generalize l[k] = x at *
  go_enter Tryz.func18, Tryz.ntmps18
  go_wp2_with fail
  refine (HA.out _ (by exact blBy)).mono ?_
  rintro e w1 ⟨rfl, hb1⟩
  have HB1 : Hid (Below w.heap.size w w1) := hid (bl_then (by exact blBy) hb1)
  have Bt : Blk w1 w.heap.size 46 #[.slice ta l.length tc] := ((Blk.new _ _ _).kept (below_alloc _)).kept hb1
  have Bm : Blk w1 (w.heap.size + 1) 35 #[.slice fa m.fs.length fc, .slice ua m.us.length uc] := (Blk.newAt (by simp)).kept hb1
  have xm := Bm.cellF
  have zm := Bm.lt
  have xt := Bt.cellF
  have zt := Bt.lt
  clear hb1 HA
  go_wp2_with fail
  refine (HK.out _ (by have := HB1.out; exact blBy)).mono ?_
  rintro e w2 ⟨rfl, hb2⟩
  have HB2 : Hid (Below w.heap.size w w2) := hid (bl_then (by have := HB1.out; exact blBy) hb2)
  clear HK
  cases s1 with
  | false =>
    rw [Bool.false_and] at HX
    clear hb2
    go_wp2
    exact bodyPost_ret (v := .tuple #[.bool false, .int .i64 0]) (by simp [results, Tryz.results18, go_sem]) rfl ⟨by rw [HX.out], by have := HB2.out; exact blBy⟩
  | true =>
    rw [Bool.true_and] at HX
    have Bx2 : Blk w2 w1.heap.size 66 #[.string (strOfNums x.t.name), .bool false, .slice ta1 x.t.fs.length tc1, .slice ta2 x.t.os.length tc2, .slice ta3 x.t.ss.length tc3, .slice ta4 x.t.rs.length tc4] := ((Blk.new _ _ _).kept (below_alloc _)).kept hb2
    have Br2 : Blk w2 (w1.heap.size + 1) 68 #[.slice ta l.length tc] := (Blk.newAt (by simp)).kept hb2
    have Bm2 : Blk w2 (w.heap.size + 1) 35 #[.slice fa m.fs.length fc, .slice ua m.us.length uc] := Bm.kept (show Below w1.heap.size w1 w2 from bl_then (by exact blBy) hb2)
    have xx2 := Bx2.cellF
    have zx2 := Bx2.lt
    have xr2 := Br2.cellF
    have zr2 := Br2.lt
    have xm2 := Bm2.cellF
    have zm2 := Bm2.lt
    clear hb2
    go_wp2_with fail
    refine (HN.out _ (by have := HB2.out; exact blBy) (by trivial)).mono ?_
    rintro e w3 ⟨rfl, hb3⟩
    have HB3 : Hid (Below w.heap.size w w3) := hid (bl_then (by have := HB2.out; exact blBy) hb3)
    clear hb3 HN
    go_wp2
    exact bodyPost_ret (v := .tuple #[.bool s2, .int .i64 0]) (by simp [results, Tryz.results18, go_sem]) rfl ⟨by rw [HX.out], by have := HB3.out; exact blBy⟩
theorem normalNo (w : World) (l : List TV) (ta : Option Addr) (tc : Nat) (h : TbR w (.slice ta l.length tc) l) (hk : ∀ x ∈ l, OkV x) (mx : Int) (hm0 : w.cell? ⟨0, 0, none⟩ = some (.int .i64 mx)) (idx : Int) (hno : isB l idx false = false) (fa ua : Option Addr) (fn fc un uc : Nat) : Calls Tryz.prog 18 #[.agg #[.slice ta l.length tc], .int .i64 idx, .agg #[.slice fa fn fc, .slice ua un uc]] w fun e w' => e = .returned (.tuple #[.bool false, .int .i64 18]) ∧ Below w.heap.size w w' := by
  have HA := hid fun W (hW : Below w.heap.size w W) => msgAtNo W l ta tc (h.kept hW) hk mx (cell_below hm0 hW) idx hno
  clear h hm0 hk hno
  go_enter Tryz.func18, Tryz.ntmps18
  go_wp2_with fail
  refine (HA.out _ (by exact blBy)).mono ?_
  rintro e w1 ⟨rfl, hb1⟩
  have HB1 : Hid (Below w.heap.size w w1) := hid (bl_then (by exact blBy) hb1)
  clear hb1 HA
  go_wp2
  exact bodyPost_ret (v := .tuple #[.bool false, .int .i64 18]) (by simp [results, Tryz.results18, go_sem]) rfl ⟨rfl, by have := HB1.out; exact blBy⟩
set_option maxHeartbeats 2000000
def setV (g : CM → CM) (v : CV CM) : CV CM := ⟨v.n, v.b, v.ms.map g⟩
def setF (g : CM → CM) (f : CF CM) : CF CM := ⟨f.num, f.ks.map (setV g), f.vs.map (setV g)⟩
/-- What stays of a typed message, with all messages within. -/
def setM (l : List TV) : Nat → TV → CM → CM
  | 0, _, m => m
  | d + 1, x, m => CM.mk ((m.fs.filter (toldB x.t.fs)).map (fun f => setF (setM l d (blwB l x f)) f)) (m.us.filter (untk x.t.fs))
/-- What the closures share: a type, what stays, what is below. -/
structure SeB (l : List TV) (ta : Option Addr) (tc : Nat) (w : World) (y : TV) (p4 p6 p7 : Nat) : Prop where
  k : Blk w p4 66 (cTV y).toArray
  s : Blk w p6 72 #[.func (.func 30) #[] #[]]
  b : Blk w p7 73 #[.func (.func 31) #[.agg #[.slice ta l.length tc]] #[]]
theorem SeB.kept {l : List TV} {ta : Option Addr} {tc : Nat} {w w' : World} {y : TV} {p4 p6 p7 : Nat} (h : SeB l ta tc w y p4 p6 p7) (hb : Below w.heap.size w w') : SeB l ta tc w' y p4 p6 p7 := ⟨h.k.kept hb, h.s.kept hb, h.b.kept hb⟩
theorem setV_nil (g : CM → CM) {v : CV CM} (h : v.ms = []) : setV g v = v := by
  obtain ⟨n, b, ms⟩ := v
  simp only at h
  subst h
  rfl
theorem map_self {α : Type} {f : α → α} : ∀ {l : List α}, (∀ a ∈ l, f a = a) → l.map f = l
  | [], _ => rfl
  | a :: r, h => by
    rw [List.map_cons, h a List.mem_cons_self, map_self (fun b hb => h b (List.mem_cons_of_mem _ hb))]
theorem self_map {α : Type} {f : α → α} : ∀ {l : List α}, l.map f = l → ∀ a ∈ l, f a = a
  | [], _, a, ha => by simp at ha
  | b :: r, h, a, ha => by
    rw [List.map_cons, List.cons.injEq] at h
    rcases List.mem_cons.1 ha with rfl | ha
    · exact h.1
    · exact self_map h.2 a ha
theorem filter_full {α : Type} {p : α → Bool} : ∀ {l : List α}, (l.filter p).length = l.length → l.filter p = l
  | [], _ => rfl
  | a :: r, h => by
    have h1 := List.length_filter_le p r
    rw [List.filter_cons] at h ⊢
    cases hp : p a with
    | true =>
      rw [hp] at h
      simp only [if_true, List.length_cons] at h ⊢
      rw [filter_full (by omega)]
    | false =>
      rw [hp] at h
      simp at h
      omega
/-- Of a typed message: its keys hold no messages; its values one, where the kind is Message, else none. -/
theorem kept_ms {l : List TV} {d : Nat} {x : TV} {m : CM} (h : keptB l (d + 1) x m = true) {f : CF CM} (hf : f ∈ m.fs) : hasF x.t.fs f.num = true ∧ (∀ v ∈ f.ks, v.ms = []) ∧ ∀ v ∈ f.vs, ((ownF x.t.fs f.num).kind ≠ 17 → v.ms = []) ∧ ((ownF x.t.fs f.num).kind = 17 → ∃ z, v.ms = [z]) := by
  have h1 := (kept_all h).1
  unfold holdB at h1
  simp only [Bool.and_eq_true, List.all_eq_true] at h1
  have h2 := h1.2.1 f hf
  unfold typB8 fieldB at h2
  simp only [Bool.and_eq_true, List.all_eq_true] at h2
  refine ⟨h2.1, fun v hv => List.eq_nil_of_length_eq_zero (fit_ms (scalar_fit (h2.2.2.2.1 v hv))), fun v hv => ⟨fun h17 => valB_ms (h2.2.2.1 v hv) h17, fun h17 => ?_⟩⟩
  have h3 := h2.2.2.1 v hv
  unfold valB at h3
  rw [if_pos h17] at h3
  simp only [Bool.and_eq_true, beq_iff_eq] at h3
  have h4 : v.ms.length = 1 := by omega
  match v.ms, h4 with
  | [z], _ => exact ⟨z, rfl⟩
theorem kept_one {l : List TV} {d : Nat} {x : TV} {m : CM} (h : keptB l (d + 1) x m = true) {f : CF CM} (hf : f ∈ m.fs) : ∀ v ∈ f.vs, v.ms.length ≤ 1 := by
  intro v hv
  have h1 := (kept_ms h hf).2.2 v hv
  by_cases h17 : (ownF x.t.fs f.num).kind = 17
  · obtain ⟨z, e⟩ := h1.2 h17
    rw [e]; simp
  · rw [h1.1 h17]; simp
theorem set_keys {l : List TV} {d : Nat} {x : TV} {m : CM} (h : keptB l (d + 1) x m = true) {f : CF CM} (hf : f ∈ m.fs) (g : CM → CM) : setF g f = ⟨f.num, f.ks, f.vs.map (setV g)⟩ := by
  unfold setF
  rw [map_self (fun v hv => setV_nil g ((kept_ms h hf).2.1 v hv))]
theorem set_plain {l : List TV} {d : Nat} {x : TV} {m : CM} (h : keptB l (d + 1) x m = true) {f : CF CM} (hf : f ∈ m.fs) (h17 : (ownF x.t.fs f.num).kind ≠ 17) (g : CM → CM) : setF g f = f := by
  rw [set_keys h hf, map_self (fun v hv => setV_nil g (((kept_ms h hf).2.2 v hv).1 h17))]
def defD (v : CV CM) : Bool := (v.n == 0) && (((v.b.length : Int) == 0) && ((v.ms.length : Int) == 0))
def hdD : List (CV CM) → Bool
  | v :: _ => defD v
  | [] => false
theorem hdD_at : ∀ {l : List (CV CM)} (h : 0 < l.length), hdD l = defD l[0]
  | [], h => by simp at h
  | v :: r, _ => rfl
/-- Whether the document passes a field over. -/
def skipD (o : FT) (f : CF CM) : Bool := (decide (o.lab = 0) && hdD f.vs) || (decide (o.lab = 2 ∨ o.lab = 3 ∨ o.lab = 5) && decide (f.vs.length = 0))
theorem told_skip {o : FT} {f : CF CM} (h : o.lab = 0 → ∃ v r, f.vs = v :: r ∧ v.ms = []) : toldO o f = !(skipD o f) := by
  unfold toldO skipD
  by_cases h0 : o.lab = 0
  · obtain ⟨v, r, e, hm⟩ := h h0
    rw [if_pos h0, e, h0]
    simp [hdD, defV, defD, hm]
  · rw [if_neg h0]
    by_cases h2 : o.lab = 2 ∨ o.lab = 3 ∨ o.lab = 5
    · rw [if_pos h2, decide_eq_false h0, decide_eq_true h2]
      cases hv : f.vs with
      | nil => rfl
      | cons a r => simp
    · rw [if_neg h2]
      simp [h0, h2]
theorem good_lab0 {l : List TV} (hg : goodB l = true) {x : TV} (hx : x ∈ l) {o : FT} (ho : o ∈ x.t.fs) (h0 : o.lab = 0) : o.kind ≠ 17 := by
  obtain ⟨k, hk, rfl⟩ := List.mem_iff_getElem.1 hx
  have h := good_at hg hk
  unfold stepB typB at h
  simp only [Bool.and_eq_true] at h
  have h2 := h.2.2.2
  split at h2
  · rw [Bool.and_eq_true, decide_eq_true_eq] at h2
    have h3 : l[k].t.fs.length = 0 := by omega
    rw [List.eq_nil_of_length_eq_zero h3] at ho
    exact absurd ho (by simp)
  · unfold msgB at h2
    simp only [Bool.and_eq_true] at h2
    have h3 := List.all_eq_true.1 h2.2.2.1 o ho
    unfold fldB at h3
    simp only [Bool.and_eq_true, decide_eq_true_eq] at h3
    have h4 := h3.2.2.1
    unfold labB at h4
    rw [if_pos h0, decide_eq_true_eq] at h4
    exact h4
theorem told_doc {l : List TV} (hg : goodB l = true) {x : TV} (hx : x ∈ l) {d : Nat} {m : CM} (h : keptB l (d + 1) x m = true) {f : CF CM} (hf : f ∈ m.fs) : toldB x.t.fs f = !(skipD (ownF x.t.fs f.num) f) := by
  obtain ⟨h1, -, h2⟩ := kept_ms h hf
  refine told_skip fun h0 => ?_
  have h3 := hold_one (kept_all h).1 f hf h0
  match hv : f.vs, h3 with
  | v :: r, _ => exact ⟨v, r, rfl, (h2 v (by rw [hv]; exact List.mem_cons_self)).1 (good_lab0 hg hx (ownF_hasF h1).1 h0)⟩
theorem untk_doc {l : List TV} (hg : goodB l = true) {x : TV} (hx : x ∈ l) (e : CE) : untk x.t.fs e = decide (takesD x.t.fs e.num e.kind = 0) := by
  unfold untk takenB takenO takesD
  cases hq : x.t.fs.find? (fun f => decide (f.num = e.num)) with
  | none =>
    have : hasF x.t.fs e.num = false := by rw [← find_has, hq]; rfl
    rw [this]
    rfl
  | some f =>
    have h1 : hasF x.t.fs e.num = true := by rw [← find_has, hq]; rfl
    have h2 : ownF x.t.fs e.num = f := by rw [← find_own, hq]; rfl
    have h3 := (good_fld hg hx (List.mem_of_find?_eq_some hq)).1
    rw [h1, h2]
    show _ = decide (takenD f e.kind = 0)
    rw [takenEq h3]
    unfold takenF
    cases tvF f e.kind <;> cases trF f e.kind <;> rfl
/-- Normal is: settling changes nothing. -/
theorem norm_iff (l : List TV) : ∀ (d : Nat) (x : TV) (m : CM), walkB setB (blwB l) d x m = true ↔ setM l d x m = m
  | 0, x, m => ⟨fun _ => rfl, fun _ => rfl⟩
  | d + 1, x, m => by
    unfold walkB setM
    simp only [Bool.and_eq_true, List.all_eq_true]
    constructor
    · rintro ⟨h1, h2⟩
      unfold setB at h1
      simp only [Bool.and_eq_true, beq_iff_eq] at h1
      rw [filter_full (by omega : (m.fs.filter (toldB x.t.fs)).length = m.fs.length), filter_full (by omega : (m.us.filter (untk x.t.fs)).length = m.us.length)]
      refine CM.ext (map_self fun f hf => ?_) rfl
      have h3 : ∀ z ∈ allM f, setM l d (blwB l x f) z = z := fun z hz => (norm_iff l d _ _).1 (h2 f hf z hz)
      obtain ⟨n, ks, vs⟩ := f
      unfold setF
      congr 1
      · refine map_self fun v hv => ?_
        obtain ⟨vn, vb, vm⟩ := v
        unfold setV
        congr 1
        exact map_self fun z hz => h3 z (List.mem_append_left _ (List.mem_flatMap.2 ⟨_, hv, hz⟩))
      · refine map_self fun v hv => ?_
        obtain ⟨vn, vb, vm⟩ := v
        unfold setV
        congr 1
        exact map_self fun z hz => h3 z (List.mem_append_right _ (List.mem_flatMap.2 ⟨_, hv, hz⟩))
    · intro h
      have e1 : (m.fs.filter (toldB x.t.fs)).map (fun f => setF (setM l d (blwB l x f)) f) = m.fs := congrArg CM.fs h
      have e2 : m.us.filter (untk x.t.fs) = m.us := congrArg CM.us h
      have e3 := congrArg List.length e1
      rw [List.length_map] at e3
      have e4 := filter_full e3
      rw [e4] at e1
      have e5 := self_map e1
      refine ⟨?_, fun f hf z hz => (norm_iff l d _ _).2 ?_⟩
      · unfold setB
        rw [e4, e2]
        simp
      · have e6 := e5 f hf
        have ek := congrArg CF.ks e6
        have ev := congrArg CF.vs e6
        rcases List.mem_append.1 hz with hz | hz
        · obtain ⟨v, hv, hz⟩ := List.mem_flatMap.1 hz
          exact self_map (congrArg CV.ms (self_map ek v hv)) z hz
        · obtain ⟨v, hv, hz⟩ := List.mem_flatMap.1 hz
          exact self_map (congrArg CV.ms (self_map ev v hv)) z hz
set_option maxHeartbeats 1000000
/-- A value of a row of one's own. -/
theorem own_vs {w : World} {base d : Nat} {a : Option Addr} {n c : Nat} {ts : List VS} (h : OwnM w base 26 3 (VlS d) (.slice a n c) ts) {i : Nat} {p : VS} (hi : ts[i]? = some p) : ∃ g cs, a = some ⟨g, 0, none⟩ ∧ base ≤ g ∧ g < w.heap.size ∧ VlS d w (Zof w base (.slice a n c)) cs p ∧ ∀ j u, cs[j]? = some u → w.cell? ⟨g, i * 3 + j, none⟩ = some u := by
  obtain ⟨tt, ho, hl, he⟩ := h
  have hlt : i < tt.length := by rw [hl]; exact (List.getElem?_eq_some_iff.1 hi).1
  have hE := he i tt[i] p (List.getElem?_eq_getElem hlt) hi
  have hlen := ho.1
  rcases ho.2 with ⟨h0, h1⟩ | ⟨g, cap, cur, e, hbg, hg, hnc, hcm, hcs, htake⟩
  · rw [← hl] at h1; omega
  · have hsh := e
    cases e
    refine ⟨g, tt[i].1, rfl, hbg, (Array.getElem?_eq_some_iff.1 hg).1, hE, fun j u hu => ?_⟩
    have h3 := flatM_get (g := Subtype.val) (k := 3) (fun x => x.2) tt i j _ u (List.getElem?_eq_getElem hlt) hu
    have h4 := ho.cells (g := g) rfl _ u h3
    have hadd : (⟨g, 0, none⟩ : Addr).add (i * 3 + j) = ⟨g, i * 3 + j, none⟩ := by unfold Addr.add; split <;> simp_all
    rwa [hadd] at h4
/-- All values hold one message; their rows lie apart. -/
structure Apt (base H : Nat) (ts : List VS) : Prop where
  pw : ts.Pairwise (fun p q => p.hi ≤ q.lo)
  b : ∀ p ∈ ts, base ≤ p.lo ∧ p.lo ≤ p.b ∧ p.b < p.hi ∧ p.hi ≤ H
theorem Apt.at {base H : Nat} {ts : List VS} (h : Apt base H ts) {i j : Nat} {p q : VS} (hi : ts[i]? = some p) (hj : ts[j]? = some q) (hij : i < j) : p.hi ≤ q.lo := by
  obtain ⟨h1, rfl⟩ := List.getElem?_eq_some_iff.1 hi
  obtain ⟨h2, rfl⟩ := List.getElem?_eq_some_iff.1 hj
  exact List.pairwise_iff_getElem.1 h.pw i j h1 h2 hij
/-- What lies in one value's span is no other value's row. -/
theorem Apt.out {base H : Nat} {ts : List VS} (h : Apt base H ts) {i : Nat} {p : VS} (hi : ts[i]? = some p) {q : Nat} (h1 : p.lo ≤ q) (h2 : q < p.hi) (hb : q ≠ p.b) : ∀ p' ∈ ts, q ≠ p'.b := by
  intro p' hp'
  obtain ⟨j, hj, rfl⟩ := List.mem_iff_getElem.1 hp'
  have hj' : ts[j]? = some ts[j] := List.getElem?_eq_getElem hj
  have hbj := h.b _ (List.getElem_mem hj)
  have hbi := h.b p (List.mem_of_getElem? hi)
  rcases Nat.lt_trichotomy i j with e | e | e
  · have := h.at hi hj' e; omega
  · subst e
    rw [hi] at hj'
    cases hj'
    exact hb
  · have := h.at hj' hi e; omega
theorem Apt.ne {base H : Nat} {ts : List VS} (h : Apt base H ts) {i j : Nat} {p q : VS} (hi : ts[i]? = some p) (hj : ts[j]? = some q) (hij : i ≠ j) : p.b ≠ q.b := by
  have hbi := h.b p (List.mem_of_getElem? hi)
  have hbj := h.b q (List.mem_of_getElem? hj)
  rcases Nat.lt_or_gt_of_ne hij with e | e
  · have := h.at hi hj e; omega
  · have := h.at hj hi e; omega
theorem apt_of {w : World} {base d H : Nat} {a : Option Addr} {n c : Nat} {ts : List VS} {xs : List (CV CM)} (h : OwnM w base 26 3 (VlS d) (.slice a n c) ts) (ht : TsOk base H ts xs) (hone : ∀ p ∈ ts, ∃ z, p.v.ms = [z]) : Apt base H ts := by
  refine ⟨ht.pw, fun p hp => ?_⟩
  obtain ⟨i, hi, rfl⟩ := List.mem_iff_getElem.1 hp
  obtain ⟨g, cs, -, -, -, hv, -⟩ := own_vs h (List.getElem?_eq_getElem hi)
  obtain ⟨ba, bc, ma, mc, -, -, -, hm⟩ := hv
  have h2 := ht.b _ hp
  rcases hm with ⟨h0, -⟩ | ⟨z, s1, s2, rest, h1, -, -, -, -, h5, h6, -, -⟩
  · obtain ⟨z, hz⟩ := hone _ hp
    rw [hz] at h0
    cases h0
  · exact ⟨h2.1, h5, h6, h2.2.2⟩
/-- The first k messages are settled. -/
structure SetI (d n0 : Nat) (wy wr : World) (g : CM → CM) (ts : List VS) (k : Nat) : Prop where
  kp : Keep (fun q => ∀ p ∈ ts.take k, q ≠ p.b) wy wr
  st : ∀ (i : Nat) (p : VS), i < k → ts[i]? = some p → ∃ z s1 s2 rest, p.v.ms = [z] ∧ Blk wr p.b 35 (s1 :: s2 :: rest).toArray ∧ MsgE wr (fun q => n0 ≤ q ∧ ∀ p ∈ ts, q ≠ p.b) d [s1, s2] (g z)
theorem SetI.zero (d n0 : Nat) (wy : World) (g : CM → CM) (ts : List VS) : SetI d n0 wy wy g ts 0 := ⟨Keep.refl _ _, fun i p hi => by omega⟩
theorem take_at {ts : List VS} {k i : Nat} {p : VS} (hp : p ∈ ts.take k) : ∃ i, i < k ∧ ts[i]? = some p := by
  obtain ⟨i, hi, e⟩ := List.mem_iff_getElem.1 hp
  rw [List.length_take] at hi
  rw [List.getElem_take] at e
  exact ⟨i, by omega, by rw [List.getElem?_eq_getElem (by omega), e]⟩
/-- Message k's row is as it was. -/
theorem SetI.fresh {d n0 base H : Nat} {wy wr : World} {g : CM → CM} {ts : List VS} {k : Nat} (h : SetI d n0 wy wr g ts k) (ha : Apt base H ts) {p : VS} (hp : ts[k]? = some p) : ∀ p' ∈ ts.take k, p.b ≠ p'.b := by
  intro p' hp'
  obtain ⟨i, hi, e⟩ := take_at (i := 0) hp'
  exact ha.ne hp e (by omega)
theorem SetI.step {d n0 base H : Nat} {wy wr u : World} {g : CM → CM} {ts : List VS} {k : Nat} (h : SetI d n0 wy wr g ts k) (ha : Apt base H ts) (hn : n0 ≤ wr.heap.size) (hH : H ≤ wr.heap.size) {p : VS} (hp : ts[k]? = some p) {z : CM} (hz : p.v.ms = [z]) {s1 s2 : Value} {rest : List Value} (hB : Blk wr p.b 35 (s1 :: s2 :: rest).toArray) (hu : Below wr.heap.size wr u) {d1 d2 : Value} (hm : MsgE u (wr.heap.size ≤ ·) d [d1, d2] (g z)) : SetI d n0 wy ((u.setCell ⟨p.b, 0, none⟩ d1).setCell ⟨p.b, 1, none⟩ d2) g ts (k + 1) := by
  have hlt : k < ts.length := (List.getElem?_eq_some_iff.1 hp).1
  have htk : ts.take (k + 1) = ts.take k ++ [p] := by
    rw [List.take_succ_eq_append_getElem hlt]
    have := (List.getElem?_eq_some_iff.1 hp).2
    rw [this]
  have hK2 : ∀ f : Nat → Prop, ¬ f p.b → Keep f u ((u.setCell ⟨p.b, 0, none⟩ d1).setCell ⟨p.b, 1, none⟩ d2) := fun f hf => (Keep.setCell u ⟨p.b, 0, none⟩ d1 hf).trans (Keep.setCell _ ⟨p.b, 1, none⟩ d2 hf)
  have hbp : p.b < wr.heap.size := hB.lt
  refine ⟨?_, fun i p' hi hp' => ?_⟩
  · refine ((h.kp.weak (fun q hq p' hp' => hq p' (by rw [htk]; exact List.mem_append_left _ hp'))).trans (Keep.ofBelow hu)).trans (hK2 _ fun hf => ?_)
    exact hf p (by rw [htk]; exact List.mem_append_right _ List.mem_cons_self) rfl
  · by_cases e : i = k
    · subst e
      rw [hp] at hp'
      cases hp'
      refine ⟨z, d1, d2, rest, hz, ?_, ?_⟩
      · exact (((hB.kept hu).set 0 d1).set 1 d2)
      · refine MsgE.go (f := (wr.heap.size ≤ ·)) (hK2 _ (by omega)) (fun _ h => h) (fun q hq => ⟨by omega, fun p' hp' => ?_⟩) d _ _ hm
        have := (ha.b p' hp').2.2
        omega
    · obtain ⟨z', t1, t2, rest', h1, h2, h3⟩ := h.st i p' (by omega) hp'
      refine ⟨z', t1, t2, rest', h1, ?_, ?_⟩
      · exact (h2.kept hu).keep (hK2 (· ≠ p.b) (fun hf => hf rfl)) (ha.ne hp' hp e)
      · refine MsgE.go (f := (· ≠ p.b)) ((Keep.ofBelow hu).trans (hK2 _ (fun hf => hf rfl))) (fun q hq => hq.2 p (List.mem_of_getElem? hp)) (fun _ h => h) d _ _ h3
/-- The field that holds the settled messages. -/
theorem SetI.fin {d n0 base H : Nat} {wy wr : World} {g : CM → CM} {ts : List VS} {xs : List (CV CM)} {a : Option Addr} {c : Nat} (h : SetI d n0 wy wr g ts ts.length) (ho : OwnM wy base 26 3 (VlS d) (.slice a xs.length c) ts) (ht : TsOk base H ts xs) (ha : Apt base H ts) (hn : n0 ≤ base) (hl : xs.length ≤ 4000000) : VlsR wr (n0 ≤ ·) d (.slice a xs.length c) (xs.map (setV g)) := by
  have hK : Keep (fun q => ∀ p ∈ ts, q ≠ p.b) wy wr := h.kp.weak (fun q hq p hp => hq p (List.mem_of_mem_take hp))
  have hlen := ht.len
  obtain ⟨tt, hrow, hl2, he⟩ := ho
  have hZ : ∀ p ∈ ts, ∀ q, (Value.slice a xs.length c).ownBlock = some q → q ≠ p.b := by
    intro p hp q hq e
    obtain ⟨i, hi, rfl⟩ := List.mem_iff_getElem.1 hp
    obtain ⟨ba, bc, ma, mc, -, -, -, hm⟩ := he i _ _ (List.getElem?_eq_getElem (by omega)) (List.getElem?_eq_getElem hi)
    rcases hm with ⟨h0, -⟩ | ⟨z, s1, s2, rest, h1, -, -, -, h4, -⟩
    · obtain ⟨z, s1, s2, rest, h1, -⟩ := h.st i _ hi (List.getElem?_eq_getElem hi)
      rw [h0] at h1
      cases h1
    · rw [← e] at h4
      exact h4.2.2 hq
  refine ⟨tt, ?_, by rw [List.length_map]; omega, by rw [List.length_map]; exact hl, ?_⟩
  · have h1 : RowS wy (fun q => base ≤ q ∧ ∀ p ∈ ts, q ≠ p.b) 3 (.slice a xs.length c) ts.length (tt.flatMap Subtype.val) := own_row hrow (fun q hq => ⟨(own_type hrow hq).1, fun p hp => hZ p hp q hq⟩)
    have h2 : (xs.map (setV g)).length = ts.length := by rw [List.length_map]; omega
    rw [h2]
    exact (h1.keep hK (fun q hq => hq.2)).weak (fun q hq => Nat.le_trans hn hq.1)
  · intro i t v ht1 hv
    have hi : i < xs.length := by
      have := (List.getElem?_eq_some_iff.1 hv).1
      rwa [List.length_map] at this
    have hp : ts[i]? = some (ts[i]'(by omega)) := List.getElem?_eq_getElem (by omega)
    generalize hpe : ts[i]'(by omega) = p at hp
    have hpm := List.mem_of_getElem? hp
    have hxv : xs[i] = p.v := by
      have := ht.vs
      subst this
      rw [List.getElem_map, hpe]
    have hvv : v = setV g p.v := by
      rw [List.getElem?_map, List.getElem?_eq_getElem hi, hxv] at hv
      simp at hv
      exact hv.symm
    subst hvv
    obtain ⟨ba, bc, ma, mc, ecs, hu, hby, hm⟩ := he i t p ht1 hp
    obtain ⟨z, s1, s2, rest, hz, hB, hM⟩ := h.st i p (by omega) hp
    have hab := ha.b p hpm
    rcases hm with ⟨h0, -⟩ | ⟨z', s1', s2', rest', h1, h2, h3, h3', h4, h5, h6, -, -⟩
    · rw [hz] at h0; cases h0
    · have hms : (setV g p.v).ms = [g z] := by unfold setV; rw [hz]; rfl
      have hlm : p.v.ms.length = 1 := by rw [hz]; rfl
      refine ⟨.slice ba p.v.b.length bc, .slice ma 1 mc, by rw [ecs, hlm]; rfl, ?_, ?_, hu⟩
      · exact (hby.keep hK (fun q hq => ha.out hp hq.2.1 hq.2.2.1 hq.2.2.2)).weak (fun q hq => by have := hq.2.1; show _ ≤ _; omega)
      · rw [hms]
        subst h2
        refine ⟨[⟨[s1, s2], rfl⟩], ⟨_, mc, rfl, rfl, h3, h3', .inr ⟨p.b, 0, rfl, by show _ ≤ _; omega, fun j u hu => ?_⟩⟩, rfl, by simp, fun i' t' x' ht' hx' => ?_⟩
        · rw [Nat.zero_add]
          refine hB.cell j u ?_
          match j, hu with
          | 0, hu => simpa using hu
          | 1, hu => simpa using hu
          | j + 2, hu => simp at hu
        · match i', ht', hx' with
          | 0, ht', hx' =>
            simp at ht' hx'
            subst ht'
            subst hx'
            exact MsgE.go (Keep.refl (fun _ => True) _) (fun _ _ => trivial) (fun q hq => hq.1) d _ _ hM
          | i' + 1, ht', hx' => simp at ht'
theorem VlS.plain {d : Nat} {w : World} {Z : Nat → Prop} {cs : List Value} {p : VS} (h : VlS d w Z cs p) : ValE w Z (MsgE w Z d) cs p.v := by
  obtain ⟨ba, bc, ma, mc, rfl, hu, hb, hm⟩ := h
  refine ⟨_, _, rfl, hb.weak (fun q hq => hq.1), ?_, hu⟩
  rcases hm with ⟨h0, hr⟩ | ⟨z, s1, s2, rest, h1, rfl, h3, h3', h4, -, -, B, hm⟩
  · exact (hr.weak (fun q hq => hq.1)).imp (fun cs x hx _ => by rw [h0] at hx; simp at hx)
  · rw [h1]
    refine ⟨[⟨[s1, s2], rfl⟩], ⟨_, mc, rfl, rfl, h3, h3', .inr ⟨p.b, 0, rfl, h4, fun j u hu => ?_⟩⟩, rfl, by simp, fun i' t' x' ht' hx' => ?_⟩
    · rw [Nat.zero_add]
      refine B.cell j u ?_
      match j, hu with
      | 0, hu => simpa using hu
      | 1, hu => simpa using hu
      | j + 2, hu => simp at hu
    · match i', ht', hx' with
      | 0, ht', hx' =>
        simp at ht' hx'
        subst ht'
        subst hx'
        exact MsgE.go (Keep.refl (fun _ => True) _) (fun _ _ => trivial) (fun q hq => hq.1) d _ _ hm
      | i' + 1, ht', hx' => simp at ht'
theorem own_plain {d n0 base H : Nat} {wy : World} {ts : List VS} {xs : List (CV CM)} {a : Option Addr} {c : Nat} (ho : OwnM wy base 26 3 (VlS d) (.slice a xs.length c) ts) (ht : TsOk base H ts xs) (hn : n0 ≤ base) (hl : xs.length ≤ 4000000) : VlsR wy (n0 ≤ ·) d (.slice a xs.length c) xs := by
  have hlen := ht.len
  obtain ⟨tt, hr, hl2, -, he⟩ := OwnM.row (famVS d) ho (by omega)
  refine ⟨tt, ?_, by omega, hl, fun i t v ht1 hv => ?_⟩
  · rw [hlen] at hr
    exact hr.weak (fun q hq => Nat.le_trans hn hq)
  · have hi := (List.getElem?_eq_some_iff.1 hv).1
    have hp : ts[i]? = some (ts[i]'(by omega)) := List.getElem?_eq_getElem (by omega)
    have hE := (he i t _ ht1 hp).plain
    have hxv : (ts[i]'(by omega)).v = v := by
      have h1 := ht.vs
      subst h1
      rw [List.getElem?_map, hp] at hv
      simpa using hv
    rw [hxv] at hE
    exact hE.go (Keep.refl (fun _ => True) _) (fun _ _ => trivial) (fun q hq => Nat.le_trans hn hq) (fun cs m _ hm => MsgE.go (Keep.refl (fun _ => True) _) (fun _ _ => trivial) (fun q hq => Nat.le_trans hn hq) d _ _ hm)
set_option maxHeartbeats 2000000
theorem copyFieldD (d : Nat) (HC : CdAt d) : CfAt d := fun w Z cs x h => by
  obtain ⟨ka, kc, va, vc, rfl, g, q, -, -, hu⟩ := fld_open h
  have HU := hid hu
  have G := hid fun W (hW : Below w.heap.size w W) => copyValsD d HC W Z x.ks ka kc (g.kept hW)
  have Q := hid fun W (hW : Below w.heap.size w W) => copyValsD d HC W Z x.vs va vc (q.kept hW)
  clear h g q hu HC
  go_enter Tryz.func47, Tryz.ntmps47
  go_upto_region 1 with fail
  have Bx : Blk ((w.alloc (.cells #[.int .i64 x.num, .slice ka x.ks.length kc, .slice va x.vs.length vc] 29)).alloc (.cells #[.int .i64 0, .slice none 0 0, .slice none 0 0] 29)) w.heap.size 29 #[.int .i64 x.num, .slice ka x.ks.length kc, .slice va x.vs.length vc] := (Blk.new _ _ _).kept (below_alloc _)
  have Br : Blk ((w.alloc (.cells #[.int .i64 x.num, .slice ka x.ks.length kc, .slice va x.vs.length vc] 29)).alloc (.cells #[.int .i64 0, .slice none 0 0, .slice none 0 0] 29)) (w.heap.size + 1) 29 #[.int .i64 0, .slice none 0 0, .slice none 0 0] := Blk.newAt (by simp)
  have HB : Hid (Below w.heap.size w ((w.alloc (.cells #[.int .i64 x.num, .slice ka x.ks.length kc, .slice va x.vs.length vc] 29)).alloc (.cells #[.int .i64 0, .slice none 0 0, .slice none 0 0] 29))) := hid (by exact blBy)
  have HS : Hid (w.heap.size + 2 ≤ ((w.alloc (.cells #[.int .i64 x.num, .slice ka x.ks.length kc, .slice va x.vs.length vc] 29)).alloc (.cells #[.int .i64 0, .slice none 0 0, .slice none 0 0] 29)).heap.size) := hid (by simp)
  generalize ((w.alloc (.cells #[.int .i64 x.num, .slice ka x.ks.length kc, .slice va x.vs.length vc] 29)).alloc (.cells #[.int .i64 0, .slice none 0 0, .slice none 0 0] 29)) = W at *
  have f0 : W.cell? ⟨w.heap.size, 0, none⟩ = some (.int .i64 x.num) := Bx.cell 0 _ rfl
  have f1 : W.cell? ⟨w.heap.size, 1, none⟩ = some (.slice ka x.ks.length kc) := Bx.cell 1 _ rfl
  have f2 : W.cell? ⟨w.heap.size, 2, none⟩ = some (.slice va x.vs.length vc) := Bx.cell 2 _ rfl
  have hp1 : w.heap.size ≠ w.heap.size + 1 := by omega
  have xr := Br.cellF
  have yr := Br.frz
  have zr := Br.lt
  clear Bx
  go_region_held3 (fun W => W.cell? ⟨w.heap.size, 0, none⟩ = some (.int .i64 x.num) ∧ W.cell? ⟨w.heap.size, 1, none⟩ = some (.slice ka x.ks.length kc) ∧ W.cell? ⟨w.heap.size, 2, none⟩ = some (.slice va x.vs.length vc)) (first | exact ⟨f0, f1, f2⟩ | exact ⟨cs3 f0 hp1, cs3 f1 hp1, cs3 f2 hp1⟩) (first | (go_at_call_of 91 (Value.slice ka x.ks.length kc); refine (G.out _ (by have := HB.out; exact blBy)).mono ?_; rintro e w2 ⟨a1, c1, rfl, hn, hbx⟩; replace f0 := cell_below f0 (below_trans (by first | exact Below.refl _ _ | exact below_drew1 _ | exact below_drewN _ _) hbx); replace f1 := cell_below f1 (below_trans (by first | exact Below.refl _ _ | exact below_drew1 _ | exact below_drewN _ _) hbx); replace f2 := cell_below f2 (below_trans (by first | exact Below.refl _ _ | exact below_drew1 _ | exact below_drewN _ _) hbx); replace Br := Br.kept (below_trans (by first | exact Below.refl _ _ | exact below_drew1 _ | exact below_drewN _ _) hbx); replace xr := Br.cellF; replace yr := Br.frz; replace zr := Br.lt; replace HB := hid (below_trans HB.out (below_trans (by first | exact Below.refl _ _ | exact below_drew1 _ | exact below_drewN _ _) hbx)); have H1 : Hid (VlsR w2 (w.heap.size + 2 ≤ ·) d (.slice a1 x.ks.length c1) x.ks) := hid (VlsR.go hn (Keep.refl (fun _ => True) w2) (fun _ _ => trivial) (fun k hk => Nat.le_trans HS.out hk)); (try replace H2 := hid (VlsR.kept H2.out (below_trans (by first | exact Below.refl _ _ | exact below_drew1 _ | exact below_drewN _ _) hbx))); replace HS := hid (Nat.le_trans HS.out (Below.size (below_trans (by first | exact Below.refl _ _ | exact below_drew1 _ | exact below_drewN _ _) hbx))); clear hn hbx) | (go_at_call_of 91 (Value.slice va x.vs.length vc); refine (Q.out _ (by have := HB.out; exact blBy)).mono ?_; rintro e w3 ⟨a2, c2, rfl, hn, hbx⟩; replace f0 := cell_below f0 (below_trans (by first | exact Below.refl _ _ | exact below_drew1 _ | exact below_drewN _ _) hbx); replace f1 := cell_below f1 (below_trans (by first | exact Below.refl _ _ | exact below_drew1 _ | exact below_drewN _ _) hbx); replace f2 := cell_below f2 (below_trans (by first | exact Below.refl _ _ | exact below_drew1 _ | exact below_drewN _ _) hbx); replace Br := Br.kept (below_trans (by first | exact Below.refl _ _ | exact below_drew1 _ | exact below_drewN _ _) hbx); replace xr := Br.cellF; replace yr := Br.frz; replace zr := Br.lt; replace HB := hid (below_trans HB.out (below_trans (by first | exact Below.refl _ _ | exact below_drew1 _ | exact below_drewN _ _) hbx)); have H2 : Hid (VlsR w3 (w.heap.size + 2 ≤ ·) d (.slice a2 x.vs.length c2) x.vs) := hid (VlsR.go hn (Keep.refl (fun _ => True) w3) (fun _ _ => trivial) (fun k hk => Nat.le_trans HS.out hk)); (try replace H1 := hid (VlsR.kept H1.out (below_trans (by first | exact Below.refl _ _ | exact below_drew1 _ | exact below_drewN _ _) hbx))); replace HS := hid (Nat.le_trans HS.out (Below.size (below_trans (by first | exact Below.refl _ _ | exact below_drew1 _ | exact below_drewN _ _) hbx))); clear hn hbx))
  all_goals go_wp2
  all_goals exact bodyPost_ret (v := .agg #[.int .i64 x.num, .slice a1 x.ks.length c1, .slice a2 x.vs.length c2]) (by simp [results, Tryz.results47, go_sem, xr, zr, yr]) rfl (NewE.mk [.int .i64 x.num, .slice a1 x.ks.length c1, .slice a2 x.vs.length c2] ⟨_, _, rfl, VlsR.go H1.out (f := (w.heap.size + 2 ≤ ·)) (by with_reducible repeat (first | exact Keep.refl _ _ | refine kpS ?_ (by first | (simp; done) | (simp; omega) | omega) | refine kpA ?_ _ | refine kpD ?_ | refine kpN ?_ _)) (fun _ h => h) (fun k hk => by omega), VlsR.go H2.out (f := (w.heap.size + 2 ≤ ·)) (by with_reducible repeat (first | exact Keep.refl _ _ | refine kpS ?_ (by first | (simp; done) | (simp; omega) | omega) | refine kpA ?_ _ | refine kpD ?_ | refine kpN ?_ _)) (fun _ h => h) (fun k hk => by omega), HU.out⟩ (by have := HB.out; exact blBy))
theorem copyD : ∀ d, CdAt d
  | 0 => fun _ _ _ _ h => h.elim
  | d + 1 => copyStepD d (copyFieldD d (copyD d))
end Go.Proofs.YtnfdlnelfnigdaaGreatDoor
