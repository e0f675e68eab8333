/-
  Masks: what stays of a message.
  Masks: what is not typed; Keep, Drop.
  Masks: what is kept is kept again; all fields' names.
  Masks: what is left is typed; the parts, merged, are the whole.
  Masks: sizes; the names of fields are ways.
  Equal: what the program answers, at every depth.
-/
import Derived.Test.YtmfaabedfdppcaaGreatDoorCIJ
import Derived.Test.YtmfaabedfdppcaaGreatDoorCGN
import Derived.Test.YtmfaabedfdppcaaGreatDoorCTY
namespace Go.Proofs.YtmfaabedfdppcaaGreatDoor
open Go.RowKit
set_option maxRecDepth 1000000
set_option linter.unusedVariables false
set_option linter.unusedSimpArgs false
set_option maxHeartbeats 1000000
theorem riseA_bd : ∀ (fs : List FT) (z : Int), riseA fs z = true → z ≤ 536870911 ∧ ∀ f ∈ fs, z < f.num ∧ f.num ≤ 536870911
  | [], z, h => ⟨of_decide_eq_true h, fun f hf => by cases hf⟩
  | f :: r, z, h => by
    rw [riseA] at h
    split at h
    · cases h
    · rename_i q
      obtain ⟨h1, h2⟩ := riseA_bd r f.num h
      refine ⟨by omega, fun g hg => ?_⟩
      rcases List.mem_cons.1 hg with rfl | hg
      · omega
      · have := h2 g hg
        omega
theorem good_num {l : List TV} (hg : goodB l = true) {x : TV} (hx : x ∈ l) {f : FT} (hf : f ∈ x.t.fs) : I64 f.num := by
  obtain ⟨k, hk, rfl⟩ := List.mem_iff_getElem.1 hx
  have h := good_at hg hk
  unfold stepB typB at h
  cases he : l[k].t.enum with
  | false =>
    rw [he] at h
    simp only [Bool.and_eq_true, Bool.false_eq_true, if_false] at h
    have h2 := h.2.2.2
    unfold msgB at h2
    simp only [Bool.and_eq_true] at h2
    have := (riseA_bd _ _ h2.2.2.2.1).2 f hf
    unfold I64
    omega
  | true =>
    rw [he] at h
    simp only [Bool.and_eq_true, if_true, decide_eq_true_eq] at h
    have h3 : l[k].t.fs.length = 0 := by have := h.2.2.2.1; omega
    rw [List.eq_nil_of_length_eq_zero h3] at hf
    cases hf
theorem wyP_num {l : List TV} (hg : goodB l = true) : ∀ (ws : List Int) (x : TV), x ∈ l → WyP l x.t.fs ws → ∀ n ∈ ws, I64 n
  | [], _, _, _, n, hn => by cases hn
  | k :: r, x, hx, h, n, hn => by
    obtain ⟨f, hf, rfl, hr⟩ := wyP_cons h
    rcases List.mem_cons.1 hn with rfl | hn
    · exact good_num hg hx hf
    · have hne : r ≠ [] := fun e => by rw [e] at hn; cases hn
      obtain ⟨-, hw⟩ := hr hne
      obtain ⟨r0, r1⟩ := good_refs hg hx hf
      rw [List.getElem?_eq_getElem r1] at hw
      exact wyP_num hg r _ (List.getElem_mem r1) hw n hn
def cSg (p : List Int) : List Value := [.string (strOfNums p)]
/-- What a mask leaves, and the code. -/
def mskR (sN sU : Bool) (d : Nat) (o : Option (List (List Int))) (m : CM) : CM × Int := match o with
  | none => (CM.mk [] [], 12)
  | some ws => (leftM sN sU d ws m, 0)
def MskA (d : Nat) (w : World) (o : CM × Int) (e : Ending) (w' : World) : Prop := ∃ cs : List Value, e = .returned (.tuple #[.agg cs.toArray, .int .i64 o.2]) ∧ MsgE w' (w.heap.size ≤ ·) d cs o.1 ∧ Below w.heap.size w w'
/-- The ways so far. -/
def WsS (B : Nat) (w : World) (a : Option Addr) (n c : Nat) (ws : List WV) : Prop := ws.length = n ∧ w.ownsRow B 74 1 (.slice a n c) ws.length (ws.flatMap cWV) ∧ ∀ y ∈ ws, WyZ w (fun b => (Value.slice a n c).ownBlock ≠ some b) y
theorem WsS.kept {B : Nat} {w w' : World} {a : Option Addr} {n c : Nat} {ws : List WV} (h : WsS B w a n c ws) (hb : Below w.heap.size w w') : WsS B w' a n c ws := ⟨h.1, own_kept h.2.1 hb, fun y hy => RowS.kept (h.2.2 y hy) hb⟩
theorem WsS.push {B : Nat} {W W2 : World} {a : Option Addr} {n c : Nat} {ws : List WV} (h : WsS B W a n c ws) (hb : Below W.heap.size W W2) (y : WV) (hy : y.sv.oneCell' = true) (ho : W2.ownsRow W.heap.size 3 1 y.sv y.ws.length (y.ws.flatMap cI64)) (hB : B ≤ W.heap.size) (hn : n ≤ 4000000) :
    ∃ a' c' w', Hid ((Builtin.append_ #[102, 102] 102 #[.slice a n c, .slice (some ⟨W2.heap.size, 0, none⟩) 1 1]).run Tryz.prog (W2.alloc (.cells #[y.sv] 74)) = .ok (.slice a' (n + 1) c') w') ∧ Hid (WsS B w' a' (n + 1) c' (ws ++ [y])) ∧ Hid (Keep (· < B) W2 w') := by
  obtain ⟨e0, h1, h2⟩ := h.kept hb
  obtain ⟨a', c', w', HR, HO, HG⟩ := appendWs B (.slice a n c) ws y W2 hy h1 (Nat.le_trans hB hb.size) (by omega)
  rw [e0] at HR HO HG
  have hK : Keep (fun b => (Value.slice a n c).ownBlock ≠ some b) W2 w' := Keep.ofGrow HG.out (fun _ hk => hk)
  have tr : ∀ {z : WV}, WyZ W2 (fun b => (Value.slice a n c).ownBlock ≠ some b) z → WyZ w' (fun b => (Value.slice a' (n + 1) c').ownBlock ≠ some b) z := fun {z} hz => by
    have hz2 : WyZ W2 (fun b => (Value.slice a n c).ownBlock ≠ some b ∧ b < W2.heap.size) z := row_oldZ (by decide) hz
    refine RowS.weak (RowS.keep hz2 hK (fun b hb => hb.1)) (fun b hb e => ?_)
    rcases HG.out.own with q | q
    · rw [q] at e; exact hb.1 e
    · have := q b e
      have := hb.2
      omega
  refine ⟨a', c', w', HR, hid ⟨by simp [e0], HO.out, fun z hz => ?_⟩, hid (growKeep HG.out h1)⟩
  rcases List.mem_append.1 hz with hz | hz
  · exact tr (h2 z hz)
  · rw [List.mem_singleton] at hz
    subst hz
    refine tr (own_row ho (fun b hb e => ?_))
    have g1 := (own_type ho hb).1
    have g2 := (own_type h.2.1 e).2.1
    omega
theorem mskM_snoc {l : List TV} {fs : List FT} (p : List Int) (ws : List Int) (hp : wayM l (p.length + 1) fs p = some ws) : ∀ (ps ms : List (List Int)), mskM l fs ps = some ms → mskM l fs (ps ++ [p]) = some (ms ++ [ws])
  | [], ms, h => by cases h; simp only [List.nil_append]; rw [mskM, hp]; rfl
  | q :: ps, ms, h => by
    rw [mskM] at h
    split at h
    · cases h
    · rename_i v hv
      obtain ⟨r, hr, rfl⟩ := Option.map_eq_some_iff.1 h
      rw [List.cons_append, mskM, hv]
      dsimp only
      rw [mskM_snoc p ws hp ps r hr]
      rfl
theorem mskM_none {l : List TV} {fs : List FT} (p : List Int) (hp : wayM l (p.length + 1) fs p = none) : ∀ (ps : List (List Int)), p ∈ ps → mskM l fs ps = none
  | q :: ps, h => by
    rcases List.mem_cons.1 h with rfl | h
    · rw [mskM, hp]
    · rw [mskM]
      split
      · rfl
      · rw [mskM_none p hp ps h]; rfl
theorem maskedT (fn : FuncId) (sN sU : Bool) (w : World) (l : List TV) (ta : Option Addr) (tc : Nat) (h : TbR w (.slice ta l.length tc) l) (hk : ∀ x ∈ l, OkV x) (mx : Int) (hm0 : w.cell? ⟨0, 0, none⟩ = some (.int .i64 mx)) (k : Nat) (hkl : k < l.length) (hg : goodB l = true) (he : l[k].t.enum = false) (Z : Nat → Prop) (d : Nat) (hL : LftC fn sN sU (d + 1)) (cs : List Value) (m : CM) (hm : MsgE w Z (d + 1) cs m) (ka : keptB l (d + 1) l[k] m = true) (ps : List (List Int)) (pa : Option Addr) (pc : Nat) (hps : RowS w AnyZ 1 (.slice pa ps.length pc) ps.length (ps.flatMap cSg)) (hpt : ∀ p ∈ ps, TxA p ∧ p.length ≤ 4000000) (hpn : ps.length ≤ 4000000) : Calls Tryz.prog 28 #[.agg #[.slice ta l.length tc], .int .i64 (k : Int), .agg cs.toArray, .slice pa ps.length pc, .func (.func fn) #[] #[]] w (MskA (d + 1) w (mskR sN sU (d + 1) (mskM l l[k].t.fs ps) m)) := by
  have HWY := hid fun W (hW : Below w.heap.size w W) p (hp : p ∈ ps) => wayOfT W l ta tc (h.kept hW) hk hg mx (cell_below hm0 hW) l[k] (List.getElem_mem hkl) p (hpt p hp).1 (hpt p hp).2
  have HWN := hid fun ws (hws : WyP l l[k].t.fs ws) => wyP_num hg ws l[k] (List.getElem_mem hkl) hws
  have HLO := hid fun ms (hms : ∀ v ∈ ms, WyP l l[k].t.fs v) => lft_ok hg (d + 1) l[k] m ms (List.getElem_mem hkl) ka hms
  obtain ⟨fa, fc, ua, uc, rfl, -⟩ := msg_openD hm
  have HMS := hid fun W (hW : Below w.heap.size w W) => (hm.kept hW)
  have HTA := hid fun W (hW : Below w.heap.size w W) q (hz : w.heap.size ≤ q) (hq : Blk W q 29 #[.slice fa m.fs.length fc, .slice ua m.us.length uc]) => tAtOk W l ta tc (h.kept hW) hk mx (cell_below hm0 hW) k hkl hg he (fun b => Z b ∨ w.heap.size ≤ b) (d + 1) [m] (some ⟨q, 0, none⟩) 1 (mgs1 (MsgE.go (keepT hW) (fun _ _ => trivial) (fun b h => Or.inl h) (d + 1) _ _ hm) (Or.inr hz) hq) (by simp [ka])
  obtain ⟨a1, c1, a2, c2, a3, c3, a4, c4, e1, e2, e3, e4⟩ := shT_of (h.ty l[k] (List.getElem_mem hkl))
  have ec : cTV l[k] = [.string (strOfNums l[k].t.name), .bool l[k].t.enum, .slice a1 l[k].t.fs.length c1, .slice a2 l[k].t.os.length c2, .slice a3 l[k].t.ss.length c3, .slice a4 l[k].t.rs.length c4] := by unfold cTV; rw [e1, e2, e3, e4]
  rw [ec] at HWY HTA
  have HPS := hid hps
  have n63 : (ps.length : Int) ≤ 4000000 := by omega
  have HPN := hid hpn
  have HLC := hid hL
  obtain ⟨O, HO⟩ : ∃ O, Hid (O = mskR sN sU (d + 1) (mskM l l[k].t.fs ps) m) := ⟨_, hid rfl⟩
  rw [← HO.out]
  clear h hk hm0 hg he hm ka hps hpt hpn hL e1 e2 e3 e4 ec
  generalize l[k] = x at *
  go_enter Tryz.func28, Tryz.ntmps28
  go_wp2_with fail
  refine (HTA.out _ (by exact blBy) _ ?_ (Blk.newAt (by simp))).mono ?_
  · omega
  rintro e w1 ⟨rfl, hbx⟩
  have BT : Hid (Blk w1 w.heap.size 24 #[.slice ta l.length tc]) := hid (((((Blk.new _ _ _).kept (below_alloc _)).kept (below_alloc _)).kept (below_alloc _)).kept hbx)
  have BA : Hid (Blk w1 (w.heap.size + 1) 29 #[.slice fa m.fs.length fc, .slice ua m.us.length uc]) := hid ((((Blk.newAt (by simp)).kept (below_alloc _)).kept (below_alloc _)).kept hbx)
  have BR : Hid (Blk w1 (w.heap.size + 1 + 1) 29 #[.slice none 0 0, .slice none 0 0]) := hid (((Blk.newAt (by simp)).kept (below_alloc _)).kept hbx)
  have HB1 : Hid (Below w.heap.size w w1) := hid (bl_then (by exact blBy) hbx)
  have HS1 : Hid (w.heap.size + 4 ≤ w1.heap.size) := hid (by have := hbx.size; simpa using this)
  clear hbx HTA
  have xt := BT.out.cellF
  have zt := BT.out.lt
  go_wp2_with fail
  go_loopw [14, 33] (fun s14 s33 wr => ∃ (j n : Nat) (oa : Option Addr) (oc : Nat) (ws : List WV), s14 = .slice oa n oc ∧ s33 = .int .i64 j ∧ j ≤ ps.length ∧ n ≤ j ∧ Hid (mskM l x.t.fs (ps.take j) = some (ws.map WV.ws)) ∧ Hid (WsS (w1.heap.size + 1) wr oa n oc ws) ∧ Hid (Blk wr w1.heap.size 62 #[.string (strOfNums x.t.name), .bool x.t.enum, .slice a1 x.t.fs.length c1, .slice a2 x.t.os.length c2, .slice a3 x.t.ss.length c3, .slice a4 x.t.rs.length c4]) ∧ Hid (Below w1.heap.size w1 wr)) (fun s14 s33 wr => ps.length - numAt wr s33)
  case atStart => exact ⟨0, 0, none, 0, [], rfl, rfl, by omega, by omega, hid rfl, hid ⟨rfl, World.ownsRow_nil _ _ _ _, fun y hy => by cases hy⟩, hid (Blk.new _ _ _), hid (below_alloc _)⟩
  case round =>
    clear xt zt
    obtain ⟨j, n, oa, oc, ws, rfl, rfl, hj, hnj, HM, HS, BX, hb⟩ := hrel
    have xt := (BT.out.kept hb.out).cellF
    have zt := (BT.out.kept hb.out).lt
    have xx := BX.out.cellF
    have zx := BX.out.lt
    have BR2 := hid (BR.out.kept hb.out)
    have xr := BR2.out.cellF
    have zr := BR2.out.lt
    have yr := BR2.out.frz
    by_cases hlt : j < ps.length
    · have j1 : (j : Int) < (ps.length : Int) := by omega
      have HBW : Hid (Below w.heap.size w wr) := hid (bl_then HB1.out hb.out)
      obtain ⟨pb, po, epb, hc⟩ := rowAt (g := cSg) (fun _ => rfl) (HPS.out.kept HBW.out) (i := j) (x := ps[j]) (by simp [hlt])
      have c0 := hc 0 _ rfl
      clear hc
      subst epb
      simp only [Nat.mul_one, Nat.add_zero] at c0
      have hpb : pb < wr.heap.size := World.block_lt_of_cell? _ _ c0
      have HTK : Hid (ps.take (j + 1) = ps.take j ++ [ps[j]]) := hid (List.take_succ_eq_append_getElem hlt)
      have HPI := hid (List.getElem_mem hlt)
      generalize ps[j] = p at *
      go_wp2_with fail
      refine (HWY.out _ (by have := HBW.out; first | exact this | exact blBy) p HPI.out).mono ?_
      rintro e w2 ⟨hb2, hres⟩
      generalize hwo : wayM l (p.length + 1) x.t.fs p = wo at hres
      have HWO := hid hwo
      clear hwo
      have HB2 := hid hb2
      have BR3 := hid (BR2.out.kept hb2)
      clear xt zt xx zx xr zr yr c0 hb2
      have xr := BR3.out.cellF
      have zr := BR3.out.lt
      have yr := BR3.out.frz
      cases wo with
      | none =>
        dsimp only at hres
        subst hres
        have HOE : Hid (O = (CM.mk [] [], 12)) := hid (by rw [HO.out, mskM_none p HWO.out ps HPI.out]; rfl)
        have HBE : Hid (Below w.heap.size w w2) := hid (bl_then HBW.out HB2.out)
        go_wp2
        exact bodyPost_ret (v := .tuple #[.agg #[.slice none 0 0, .slice none 0 0], .int .i64 12]) (by simp [results, Tryz.results28, go_sem, xr, zr, yr]) rfl ⟨[.slice none 0 0, .slice none 0 0], by rw [HOE.out], by rw [HOE.out]; exact ⟨_, _, rfl, RowM.nil _ _ _ _, RowM.nil _ _ _ _⟩, by have := HBE.out; exact blBy⟩
      | some r =>
        obtain ⟨ra, rc, rfl, ho⟩ := hres
        obtain ⟨oa', oc', w3, HRUN, HS2, HK⟩ := HS.out.push HB2.out (WV.mk (.slice ra r.length rc) r) rfl ho BX.out.lt (by have := HPN.out; omega)
        dsimp only at HRUN
        have HM2 : Hid (mskM l x.t.fs (ps.take (j + 1)) = some ((ws ++ [WV.mk (.slice ra r.length rc) r]).map WV.ws)) := hid (by rw [HTK.out, List.map_append]; exact mskM_snoc p r HWO.out _ _ HM.out)
        have BX3 := hid ((BX.out.kept HB2.out).keep HK.out (Nat.lt_succ_self _))
        have HB3 : Hid (Below w1.heap.size w1 w3) := hid (keep_bel (bl_then hb.out HB2.out) (HK.out.weak (fun b hb => Nat.lt_succ_of_lt hb)))
        clear ho xr zr yr
        go_wp2_with (first | (at_builtin; refine wpList_append_ran rfl _ _ 102 102 rfl rfl _ _ (.slice oa' (n + 1) oc') w3 rfl rfl HRUN.out ?_))
        exact ⟨⟨j + 1, n + 1, oa', oc', _, rfl, by simp, by omega, by omega, HM2, HS2, BX3, HB3⟩, by simp [numAt]; omega⟩
    · have j1 : ¬ (j : Int) < (ps.length : Int) := by omega
      obtain rfl : ws.length = n := HS.out.1
      have HMF : Hid (mskM l x.t.fs ps = some (ws.map WV.ws)) := hid (by have := HM.out; rw [List.take_of_length_le (by omega)] at this; exact this)
      have HOE : Hid (O = (leftM sN sU (d + 1) (ws.map WV.ws) m, 0)) := hid (by rw [HO.out, HMF.out]; rfl)
      have HBW : Hid (Below w.heap.size w wr) := hid (bl_then HB1.out hb.out)
      have HLF := hid (HLC.out wr ws oa oc (own_row HS.out.2.1 (fun _ _ => trivial)) (fun y hy => by
        have hy2 := mskM_wy _ _ HMF.out y.ws (List.mem_map_of_mem hy)
        exact ⟨(HS.out.2.2 y hy).weak (fun _ _ => trivial), wyP_ne hy2, HWN.out _ hy2⟩) (by have := HPN.out; omega) Z [.slice fa m.fs.length fc, .slice ua m.us.length uc] m (HMS.out _ HBW.out) (HLO.out _ (mskM_wy _ _ HMF.out)))
      generalize leftM sN sU (d + 1) (ws.map WV.ws) m = M at *
      have BA2 := hid (BA.out.kept hb.out)
      have xa := BA2.out.cellF
      have za := BA2.out.lt
      have HQ : Hid (w.heap.size + 2 < wr.heap.size) := hid (by have := BR2.out.lt; omega)
      go_wp2_with fail
      refine HLF.out.mono ?_
      rintro e w3 ⟨ds, rfl, hds, hb3⟩
      have BR3 := hid (BR2.out.kept hb3)
      have HCP := hid fun W (hW : Below w3.heap.size w3 W) => copyT (d + 1) W _ ds M (hds.kept hW)
      have HB3 : Hid (Below w.heap.size w w3) := hid (bl_then HBW.out hb3)
      have HZ3 : Hid (wr.heap.size ≤ w3.heap.size) := hid hb3.size
      obtain ⟨fa2, fc2, ua2, uc2, rfl, -⟩ := msg_openD hds
      clear hds hb3 xa za xr zr yr xt zt xx zx
      go_wp2_with fail
      refine (HCP.out _ (Below.refl _ _)).mono ?_
      rintro e w4 ⟨ds2, rfl, hds, hb4⟩
      obtain ⟨fa3, fc3, ua3, uc3, rfl, -⟩ := msg_openD hds
      have BR4 := hid (BR3.out.kept hb4)
      have xr := BR4.out.cellF
      have zr := BR4.out.lt
      have yr := BR4.out.frz
      have HB4 : Hid (Below w.heap.size w w4) := hid (bl_then HB3.out hb4)
      have HFN : Hid (∀ W', Keep (· ≠ w.heap.size + 1 + 1) w4 W' → MsgE W' (w.heap.size ≤ ·) (d + 1) [.slice fa3 M.fs.length fc3, .slice ua3 M.us.length uc3] M) := hid (fun W' hW => MsgE.go hW (fun b hb => by have h1 := HQ.out; have h2 := HZ3.out; have h3 : w3.heap.size ≤ b := hb; show b ≠ _; omega) (fun b hb => by have h2 := HZ3.out; have h1 := HQ.out; have h3 : w3.heap.size ≤ b := hb; show w.heap.size ≤ b; omega) (d + 1) _ _ hds)
      clear hds hb4
      go_wp2
      exact bodyPost_ret (v := .tuple #[.agg #[.slice fa3 M.fs.length fc3, .slice ua3 M.us.length uc3], .int .i64 0]) (by simp [results, Tryz.results28, go_sem, xr, zr, yr]) rfl ⟨[.slice fa3 M.fs.length fc3, .slice ua3 M.us.length uc3], by rw [HOE.out], by rw [HOE.out]; exact HFN.out _ ((Keep.setCell (f := (· ≠ w.heap.size + 1 + 1)) _ _ _ (fun hq => hq rfl)).trans (Keep.setCell _ _ _ (fun hq => hq rfl))), by have := HB4.out; exact blBy⟩
theorem maskedBad (fn : FuncId) (w : World) (l : List TV) (ta : Option Addr) (tc : Nat) (h : TbR w (.slice ta l.length tc) l) (hk : ∀ x ∈ l, OkV x) (mx : Int) (hm0 : w.cell? ⟨0, 0, none⟩ = some (.int .i64 mx)) (k : Nat) (hkl : k < l.length) (hg : goodB l = true) (he : l[k].t.enum = false) (Z : Nat → Prop) (d : Nat) (cs : List Value) (m : CM) (hm : MsgE w Z (d + 1) cs m) (ka : keptB l (d + 1) l[k] m = false) (pv : Value) : Calls Tryz.prog 28 #[.agg #[.slice ta l.length tc], .int .i64 (k : Int), .agg cs.toArray, pv, .func (.func fn) #[] #[]] w (MskA (d + 1) w (CM.mk [] [], 10)) := by
  obtain ⟨fa, fc, ua, uc, rfl, -⟩ := msg_openD hm
  have HTA := hid fun W (hW : Below w.heap.size w W) q (hz : w.heap.size ≤ q) (hq : Blk W q 29 #[.slice fa m.fs.length fc, .slice ua m.us.length uc]) => tAtBad W l ta tc (h.kept hW) hk mx (cell_below hm0 hW) k hkl hg he (fun b => Z b ∨ w.heap.size ≤ b) (d + 1) [m] (some ⟨q, 0, none⟩) 1 (mgs1 (MsgE.go (keepT hW) (fun _ _ => trivial) (fun b h => Or.inl h) (d + 1) _ _ hm) (Or.inr hz) hq) (by simp [ka])
  clear h hk hm0 hg he hm ka
  go_enter Tryz.func28, Tryz.ntmps28
  go_wp2_with fail
  refine (HTA.out _ (by exact blBy) _ ?_ (Blk.newAt (by simp))).mono ?_
  · omega
  rintro e w1 ⟨rfl, hbx⟩
  have BR : Hid (Blk w1 (w.heap.size + 1 + 1) 29 #[.slice none 0 0, .slice none 0 0]) := hid (((Blk.newAt (by simp)).kept (below_alloc _)).kept hbx)
  have HB1 : Hid (Below w.heap.size w w1) := hid (bl_then (by exact blBy) hbx)
  have BR2 := hid (BR.out.kept (below_alloc (w := w1) (.cells #[.string ⟨#[]⟩, .bool false, .slice none 0 0, .slice none 0 0, .slice none 0 0, .slice none 0 0] 62)))
  have xr := BR2.out.cellF
  have zr := BR2.out.lt
  have yr := BR2.out.frz
  clear hbx HTA
  go_wp2
  exact bodyPost_ret (v := .tuple #[.agg #[.slice none 0 0, .slice none 0 0], .int .i64 10]) (by simp [results, Tryz.results28, go_sem, xr, zr, yr]) rfl ⟨[.slice none 0 0, .slice none 0 0], rfl, ⟨_, _, rfl, RowM.nil _ _ _ _, RowM.nil _ _ _ _⟩, by have := HB1.out; exact blBy⟩
theorem maskedNo (fn : FuncId) (w : World) (l : List TV) (ta : Option Addr) (tc : Nat) (h : TbR w (.slice ta l.length tc) l) (hk : ∀ x ∈ l, OkV x) (mx : Int) (hm0 : w.cell? ⟨0, 0, none⟩ = some (.int .i64 mx)) (idx : Int) (hno : isB l idx false = false) (d : Nat) (fa ua : Option Addr) (fn1 fc un uc : Nat) (pv : Value) : Calls Tryz.prog 28 #[.agg #[.slice ta l.length tc], .int .i64 idx, .agg #[.slice fa fn1 fc, .slice ua un uc], pv, .func (.func fn) #[] #[]] w (MskA (d + 1) w (CM.mk [] [], 18)) := by
  have HTA := hid fun W (hW : Below w.heap.size w W) q (hq : Blk W q 29 #[.slice fa fn1 fc, .slice ua un uc]) => tAtNo W l ta tc (h.kept hW) hk mx (cell_below hm0 hW) idx hno fa ua fn1 fc un uc q 1 (by decide) (by decide) (hq.cell 0 _ rfl) (hq.cell 1 _ rfl)
  clear h hk hm0 hno
  go_enter Tryz.func28, Tryz.ntmps28
  go_wp2_with fail
  refine (HTA.out _ (by exact blBy) _ (Blk.newAt (by simp))).mono ?_
  rintro e w1 ⟨rfl, hbx⟩
  have BR : Hid (Blk w1 (w.heap.size + 1 + 1) 29 #[.slice none 0 0, .slice none 0 0]) := hid (((Blk.newAt (by simp)).kept (below_alloc _)).kept hbx)
  have HB1 : Hid (Below w.heap.size w w1) := hid (bl_then (by exact blBy) hbx)
  have BR2 := hid (BR.out.kept (below_alloc (w := w1) (.cells #[.string ⟨#[]⟩, .bool false, .slice none 0 0, .slice none 0 0, .slice none 0 0, .slice none 0 0] 62)))
  have xr := BR2.out.cellF
  have zr := BR2.out.lt
  have yr := BR2.out.frz
  clear hbx HTA
  go_wp2
  exact bodyPost_ret (v := .tuple #[.agg #[.slice none 0 0, .slice none 0 0], .int .i64 18]) (by simp [results, Tryz.results28, go_sem, xr, zr, yr]) rfl ⟨[.slice none 0 0, .slice none 0 0], rfl, ⟨_, _, rfl, RowM.nil _ _ _ _, RowM.nil _ _ _ _⟩, by have := HB1.out; exact blBy⟩
theorem keepC (w : World) (tv kv : Value) (cs : List Value) (pv : Value) (d : Nat) (o : CM × Int) (hM : ∀ W, Below w.heap.size w W → Calls Tryz.prog 28 #[.agg #[tv], kv, .agg cs.toArray, pv, .func (.func 29) #[] #[]] W (MskA (d + 1) W o)) (x0 x1 : Value) (hcs : cs = [x0, x1]) : Calls Tryz.prog 16 #[.agg #[tv], kv, .agg cs.toArray, pv] w (MskA (d + 1) w o) := by
  have HM := hid hM
  subst hcs
  clear hM
  go_enter Tryz.func16, Tryz.ntmps16
  go_wp2_with fail
  refine (HM.out _ (by exact blBy)).mono ?_
  rintro e w1 ⟨ds, rfl, hds, hb1⟩
  obtain ⟨fa, fc, ua, uc, rfl, -⟩ := msg_openD hds
  have BR : Hid (Blk w1 (w.heap.size + 1 + 1) 29 #[.slice none 0 0, .slice none 0 0]) := hid ((Blk.newAt (by simp)).kept hb1)
  have xr := BR.out.cellF
  have zr := BR.out.lt
  have yr := BR.out.frz
  have HB1 : Hid (Below w.heap.size w w1) := hid (bl_then (by exact blBy) hb1)
  have HFN : Hid (∀ W', Keep (· ≠ w.heap.size + 1 + 1) w1 W' → MsgE W' (w.heap.size ≤ ·) (d + 1) [.slice fa o.1.fs.length fc, .slice ua o.1.us.length uc] o.1) := hid (fun W' hW => MsgE.go hW (fun b hb => by have h3 : w.heap.size + 3 ≤ b := (by simpa using hb); show b ≠ _; omega) (fun b hb => by have h3 : w.heap.size + 3 ≤ b := (by simpa using hb); show w.heap.size ≤ b; omega) (d + 1) _ _ hds)
  clear hds hb1
  go_wp2
  exact bodyPost_ret (v := .tuple #[.agg #[.slice fa o.1.fs.length fc, .slice ua o.1.us.length uc], .int .i64 o.2]) (by simp [results, Tryz.results16, go_sem, xr, zr, yr]) rfl ⟨[.slice fa o.1.fs.length fc, .slice ua o.1.us.length uc], rfl, HFN.out _ ((Keep.setCell (f := (· ≠ w.heap.size + 1 + 1)) _ _ _ (fun hq => hq rfl)).trans (Keep.setCell _ _ _ (fun hq => hq rfl))), by have := HB1.out; exact blBy⟩
theorem dropC (w : World) (tv kv : Value) (cs : List Value) (pv : Value) (d : Nat) (o : CM × Int) (hM : ∀ W, Below w.heap.size w W → Calls Tryz.prog 28 #[.agg #[tv], kv, .agg cs.toArray, pv, .func (.func 30) #[] #[]] W (MskA (d + 1) W o)) (x0 x1 : Value) (hcs : cs = [x0, x1]) : Calls Tryz.prog 17 #[.agg #[tv], kv, .agg cs.toArray, pv] w (MskA (d + 1) w o) := by
  have HM := hid hM
  subst hcs
  clear hM
  go_enter Tryz.func17, Tryz.ntmps17
  go_wp2_with fail
  refine (HM.out _ (by exact blBy)).mono ?_
  rintro e w1 ⟨ds, rfl, hds, hb1⟩
  obtain ⟨fa, fc, ua, uc, rfl, -⟩ := msg_openD hds
  have BR : Hid (Blk w1 (w.heap.size + 1 + 1) 29 #[.slice none 0 0, .slice none 0 0]) := hid ((Blk.newAt (by simp)).kept hb1)
  have xr := BR.out.cellF
  have zr := BR.out.lt
  have yr := BR.out.frz
  have HB1 : Hid (Below w.heap.size w w1) := hid (bl_then (by exact blBy) hb1)
  have HFN : Hid (∀ W', Keep (· ≠ w.heap.size + 1 + 1) w1 W' → MsgE W' (w.heap.size ≤ ·) (d + 1) [.slice fa o.1.fs.length fc, .slice ua o.1.us.length uc] o.1) := hid (fun W' hW => MsgE.go hW (fun b hb => by have h3 : w.heap.size + 3 ≤ b := (by simpa using hb); show b ≠ _; omega) (fun b hb => by have h3 : w.heap.size + 3 ≤ b := (by simpa using hb); show w.heap.size ≤ b; omega) (d + 1) _ _ hds)
  clear hds hb1
  go_wp2
  exact bodyPost_ret (v := .tuple #[.agg #[.slice fa o.1.fs.length fc, .slice ua o.1.us.length uc], .int .i64 o.2]) (by simp [results, Tryz.results17, go_sem, xr, zr, yr]) rfl ⟨[.slice fa o.1.fs.length fc, .slice ua o.1.us.length uc], rfl, HFN.out _ ((Keep.setCell (f := (· ≠ w.heap.size + 1 + 1)) _ _ _ (fun hq => hq rfl)).trans (Keep.setCell _ _ _ (fun hq => hq rfl))), by have := HB1.out; exact blBy⟩
set_option maxHeartbeats 600000
theorem wth_ar (n : Int) (m : CM) : wthM (arM n m) = m := rfl
theorem flat_idem {α : Type} (f : α → List α) (h : ∀ x, (f x).flatMap f = f x) : ∀ xs : List α, (xs.flatMap f).flatMap f = xs.flatMap f
  | [] => rfl
  | x :: xs => by rw [List.flatMap_cons, List.flatMap_append, h, flat_idem f h xs]
theorem left_idem : ∀ (d : Nat) (ms : List (List Int)) (m : CM), leftM true false d ms (leftM true false d ms m) = leftM true false d ms m
  | 0, _, _ => rfl
  | d + 1, ms, m => by
    rw [leftM, leftM]
    refine congrArg (fun f => CM.mk f _) ?_
    refine flat_idem _ (fun x => ?_) m.fs
    unfold lf1
    by_cases h1 : goB ms x.num = true
    · rw [if_pos h1]
      simp only [List.flatMap_cons, List.flatMap_nil, List.append_nil]
      have e : (arM x.num (leftM true false d (rstI ms x.num) (wthM x))).num = x.num := rfl
      rw [e, if_pos h1, wth_ar, left_idem d]
    · rw [if_neg h1]
      by_cases h2 : ms.any (hdI x.num) = true
      · have e2 : (if ms.any (hdI x.num) = true then true else false) = true := by rw [h2]; rfl
        rw [if_pos e2]
        simp only [List.flatMap_cons, List.flatMap_nil, List.append_nil]
        rw [if_neg h1, if_pos e2]
      · have e2 : ¬ (if ms.any (hdI x.num) = true then true else false) = true := by rw [if_neg h2]; decide
        rw [if_neg e2]
        rfl
/-- The ways that are the names of fields alone. -/
def topW (fs : List FT) : List (List Int) := fs.map (fun f => [f.num])
theorem topW_hd {fs : List FT} {n : Int} (h : ∃ f ∈ fs, f.num = n) : (topW fs).any (hdI n) = true := by
  obtain ⟨f, hf, rfl⟩ := h
  exact List.any_eq_true.2 ⟨[f.num], List.mem_map.2 ⟨f, hf, rfl⟩, by simp [hdI]⟩
theorem topW_go {fs : List FT} (n : Int) : goB (topW fs) n = false := by
  rw [Bool.eq_false_iff]
  intro h
  obtain ⟨⟨r, hr⟩, hne⟩ := goB_iff.1 h
  have h2 := rstI_mem.1 hr
  obtain ⟨f, hf, e⟩ := List.mem_map.1 h2
  injection e with e1 e2
  exact hne r hr e2.symm
theorem flat_sole {α : Type} (f : α → List α) : ∀ xs : List α, (∀ x ∈ xs, f x = [x]) → xs.flatMap f = xs
  | [], _ => rfl
  | x :: xs, h => by rw [List.flatMap_cons, h x (by simp), flat_sole f xs (fun y hy => h y (by simp [hy]))]; rfl
theorem flat_no {α : Type} (f : α → List α) : ∀ xs : List α, (∀ x ∈ xs, f x = []) → xs.flatMap f = []
  | [], _ => rfl
  | x :: xs, h => by rw [List.flatMap_cons, h x (by simp), flat_no f xs (fun y hy => h y (by simp [hy]))]; rfl
theorem keep_top {fs : List FT} (d : Nat) (m : CM) (h : ∀ y ∈ m.fs, ∃ f ∈ fs, f.num = y.num) : leftM true false (d + 1) (topW fs) m = CM.mk m.fs [] := by
  rw [leftM]
  refine congrArg (fun f => CM.mk f _) (flat_sole _ _ (fun y hy => ?_))
  unfold lf1
  rw [topW_go, topW_hd (h y hy)]
  rfl
theorem drop_top {fs : List FT} (d : Nat) (m : CM) (h : ∀ y ∈ m.fs, ∃ f ∈ fs, f.num = y.num) : leftM false true (d + 1) (topW fs) m = CM.mk [] m.us := by
  rw [leftM]
  refine congrArg (fun f => CM.mk f _) (flat_no _ _ (fun y hy => ?_))
  unfold lf1
  rw [topW_go, topW_hd (h y hy)]
  rfl
theorem uni_hdL {both : CF CM → CF CM → CF CM} (x : CF CM) (D : List (CF CM)) : ∀ K : List (CF CM), (∀ y ∈ K, x.num < y.num) → uni fOrd both (x :: D) K = x :: uni fOrd both D K
  | [], _ => by rw [uni_nilR, uni_nilR]
  | y :: K, h => uni_lt (fOrd_lt.2 (h y (by simp)))
theorem uni_hdR {both : CF CM → CF CM → CF CM} (y : CF CM) (K : List (CF CM)) : ∀ D : List (CF CM), (∀ x ∈ D, y.num < x.num) → uni fOrd both D (y :: K) = y :: uni fOrd both D K
  | [], _ => by rw [uni_nil, uni_nil]
  | x :: D, h => by
    have h1 := h x (by simp)
    rw [uni, if_neg (by rw [fOrd_lt]; omega), if_pos (by rw [fOrd_gt]; exact h1)]
theorem uni_hdB {both : CF CM → CF CM → CF CM} (x y : CF CM) (D K : List (CF CM)) (h : x.num = y.num) : uni fOrd both (x :: D) (y :: K) = both x y :: uni fOrd both D K := by
  rw [uni, if_neg (by rw [fOrd_lt]; omega), if_neg (by rw [fOrd_gt]; omega)]
/-- Two parts of a rising list, joined again. -/
def Prt (both : CF CM → CF CM → CF CM) (x : CF CM) (a b : List (CF CM)) : Prop := (a = [x] ∧ b = []) ∨ (a = [] ∧ b = [x]) ∨ ∃ p q, a = [p] ∧ b = [q] ∧ p.num = x.num ∧ q.num = x.num ∧ both p q = x
theorem prt_num {both : CF CM → CF CM → CF CM} {x : CF CM} {a b : List (CF CM)} (h : Prt both x a b) : (∀ y ∈ a, y.num = x.num) ∧ ∀ y ∈ b, y.num = x.num := by
  rcases h with ⟨rfl, rfl⟩ | ⟨rfl, rfl⟩ | ⟨p, q, rfl, rfl, h1, h2, -⟩
  · simp
  · simp
  · simp [h1, h2]
theorem uni_parts {both : CF CM → CF CM → CF CM} (f g : CF CM → List (CF CM)) : ∀ xs : List (CF CM), xs.Pairwise (fun a b => a.num < b.num) → (∀ x ∈ xs, Prt both x (f x) (g x)) → uni fOrd both (xs.flatMap f) (xs.flatMap g) = xs
  | [], _, _ => by simp [uni_nil]
  | x :: xs, hp, h => by
    obtain ⟨h1, h2⟩ := List.pairwise_cons.1 hp
    have ih := uni_parts f g xs h2 (fun y hy => h y (by simp [hy]))
    have hf : ∀ y ∈ xs.flatMap f, x.num < y.num := fun y hy => by
      obtain ⟨z, hz, hyz⟩ := List.mem_flatMap.1 hy
      rw [(prt_num (h z (by simp [hz]))).1 y hyz]
      exact h1 z hz
    have hg : ∀ y ∈ xs.flatMap g, x.num < y.num := fun y hy => by
      obtain ⟨z, hz, hyz⟩ := List.mem_flatMap.1 hy
      rw [(prt_num (h z (by simp [hz]))).2 y hyz]
      exact h1 z hz
    rw [List.flatMap_cons, List.flatMap_cons]
    rcases h x (by simp) with ⟨ea, eb⟩ | ⟨ea, eb⟩ | ⟨p, q, ea, eb, e1, e2, e3⟩
    · rw [ea, eb, List.nil_append, List.singleton_append, uni_hdL _ _ _ hg, ih]
    · rw [ea, eb, List.nil_append, List.singleton_append, uni_hdR _ _ _ hf, ih]
    · rw [ea, eb, List.singleton_append, List.singleton_append, uni_hdB _ _ _ _ (by rw [e1, e2]), ih, e3]
theorem wM_wth (y : CF CM) : wthM y = wM y := rfl
theorem go_facts {l : List TV} (hg : goodB l = true) {d : Nat} {x : TV} (hx : x ∈ l) {m : CM} (hk : keptB l (d + 1) x m = true) {ms : List (List Int)} (hw : ∀ v ∈ ms, WyP l x.t.fs v) {y : CF CM} (hy : y ∈ m.fs) (hgo : goB ms y.num = true) :
    (ownF x.t.fs y.num).lab = 1 ∧ (ownF x.t.fs y.num).kind = 17 ∧ (ownF x.t.fs y.num).num = y.num ∧ y = arM y.num (wM y) ∧ (∀ v ∈ rstI ms y.num, WyP l (blwB l x y).t.fs v) ∧ keptB l d (blwB l x y) (wM y) = true := by
  obtain ⟨h1, h2⟩ := kept_all hk
  obtain ⟨-, ht, -, -⟩ := hold_facts h1
  obtain ⟨hh, hf⟩ := ht y hy
  obtain ⟨o1, o2⟩ := ownF_hasF hh
  obtain ⟨⟨r, hr⟩, hne⟩ := goB_iff.1 hgo
  have key : ∀ r ∈ rstI ms y.num, isWyB (ownF x.t.fs y.num) = true ∧ WyP l ((l[(ownF x.t.fs y.num).ref.toNat]?).elim [] (·.t.fs)) r := fun r hr => by
    obtain ⟨f, hf, hfn, hfr⟩ := wyP_cons (hw _ (rstI_mem.1 hr))
    have e : ownF x.t.fs y.num = f := riseOneW (good_rise hg hx).1 o1 hf (by rw [o2, hfn])
    rw [e]
    exact hfr (hne r hr)
  have hwy := (key r hr).1
  unfold isWyB at hwy
  simp only [Bool.and_eq_true, decide_eq_true_eq] at hwy
  obtain ⟨w1, w2⟩ := wM_in hf hwy.1 hwy.2
  refine ⟨hwy.1, hwy.2, o2, w2, fun v hv => ?_, h2 y hy _ w1⟩
  have := (key v hv).2
  obtain ⟨r0, r1⟩ := good_refs hg hx o1
  unfold blwB
  rw [List.getElem?_eq_getElem r1] at this ⊢
  exact this
theorem lf1_cases {sN sU : Bool} {L : List (List Int) → CM → CM} {ms : List (List Int)} (y : CF CM) : (goB ms y.num = true ∧ lf1 sN sU L ms y = [arM y.num (L (rstI ms y.num) (wthM y))]) ∨ (goB ms y.num = false ∧ ((if ms.any (hdI y.num) then sN else sU) = true ∧ lf1 sN sU L ms y = [y] ∨ (if ms.any (hdI y.num) then sN else sU) = false ∧ lf1 sN sU L ms y = [])) := by
  unfold lf1
  generalize goB ms y.num = g
  generalize ms.any (hdI y.num) = a
  cases g <;> cases a <;> cases sN <;> cases sU <;> simp
theorem pw_inj {xs : List (CF CM)} (h : xs.Pairwise (fun a b => a.num < b.num)) {y z : CF CM} (hy : y ∈ xs) (hz : z ∈ xs) (e : y.num = z.num) : y = z := by
  obtain ⟨i, hi, rfl⟩ := List.mem_iff_getElem.1 hy
  obtain ⟨j, hj, rfl⟩ := List.mem_iff_getElem.1 hz
  have hq := List.pairwise_iff_getElem.1 h
  rcases Nat.lt_trichotomy i j with q | q | q
  · have := hq i j hi hj q; omega
  · subst q; rfl
  · have := hq j i hj hi q; omega
theorem lf1_num {sN sU : Bool} {L : List (List Int) → CM → CM} {ms : List (List Int)} {y o : CF CM} (h : o ∈ lf1 sN sU L ms y) : o.num = y.num := by
  rcases lf1_cases (sN := sN) (sU := sU) (L := L) (ms := ms) y with ⟨q, e⟩ | ⟨q, ⟨-, e⟩ | ⟨-, e⟩⟩
  · rw [e, List.mem_singleton] at h; subst h; rfl
  · rw [e, List.mem_singleton] at h; subst h; rfl
  · rw [e] at h; cases h
theorem lf1_from {sN sU : Bool} {L : List (List Int) → CM → CM} {ms : List (List Int)} {xs : List (CF CM)} {o : CF CM} (h : o ∈ xs.flatMap (lf1 sN sU L ms)) : ∃ y ∈ xs, o.num = y.num ∧ (o = y ∨ goB ms y.num = true ∧ o = arM y.num (L (rstI ms y.num) (wthM y))) := by
  obtain ⟨y, hy, ho⟩ := List.mem_flatMap.1 h
  refine ⟨y, hy, ?_⟩
  rcases lf1_cases (sN := sN) (sU := sU) (L := L) (ms := ms) y with ⟨q, e⟩ | ⟨q, ⟨-, e⟩ | ⟨-, e⟩⟩
  · rw [e, List.mem_singleton] at ho
    subst ho
    exact ⟨rfl, .inr ⟨q, rfl⟩⟩
  · rw [e, List.mem_singleton] at ho
    subst ho
    exact ⟨rfl, .inl rfl⟩
  · rw [e] at ho
    cases ho
theorem flat_pw (f : CF CM → List (CF CM)) : ∀ xs : List (CF CM), (∀ x ∈ xs, f x = [] ∨ ∃ z, f x = [z] ∧ z.num = x.num) → xs.Pairwise (fun a b => a.num < b.num) → (xs.flatMap f).Pairwise (fun a b => a.num < b.num)
  | [], _, _ => by simp
  | x :: xs, h, hp => by
    obtain ⟨h1, h2⟩ := List.pairwise_cons.1 hp
    have ih := flat_pw f xs (fun y hy => h y (by simp [hy])) h2
    rw [List.flatMap_cons]
    rcases h x (by simp) with e | ⟨z, e, ez⟩
    · rw [e]; exact ih
    · rw [e, List.singleton_append, List.pairwise_cons]
      refine ⟨fun y hy => ?_, ih⟩
      obtain ⟨u, hu, hyu⟩ := List.mem_flatMap.1 hy
      rcases h u (by simp [hu]) with q | ⟨v, q, ev⟩
      · rw [q] at hyu; cases hyu
      · rw [q, List.mem_singleton] at hyu
        subst hyu
        rw [ez, ev]
        exact h1 u hu
theorem lf1_one {sN sU : Bool} {L : List (List Int) → CM → CM} {ms : List (List Int)} (y : CF CM) : lf1 sN sU L ms y = [] ∨ ∃ z, lf1 sN sU L ms y = [z] ∧ z.num = y.num := by
  rcases lf1_cases (sN := sN) (sU := sU) (L := L) (ms := ms) y with ⟨q, e⟩ | ⟨q, ⟨-, e⟩ | ⟨-, e⟩⟩
  · exact .inr ⟨_, e, rfl⟩
  · exact .inr ⟨_, e, rfl⟩
  · exact .inl e
theorem rise_pw {xs : List (CF CM)} : riseM xs = true ↔ xs.Pairwise (fun a b => a.num < b.num) := by
  rw [rise_asc]
  unfold Asc
  constructor
  · intro h; exact h.imp (fun q => fOrd_lt.1 q)
  · intro h; exact h.imp (fun q => fOrd_lt.2 q)
theorem left_kept {l : List TV} (hg : goodB l = true) (sN sU : Bool) : ∀ (d : Nat) (x : TV) (m : CM) (ms : List (List Int)), x ∈ l → keptB l d x m = true → (∀ v ∈ ms, WyP l x.t.fs v) → keptB l d x (leftM sN sU d ms m) = true
  | 0, _, _, _, _, h, _ => h
  | d + 1, x, m, ms, hx, hk, hw => by
    obtain ⟨h1, h2⟩ := kept_all hk
    obtain ⟨hr, ht, hs, hu⟩ := hold_facts h1
    have hR : riseM (m.fs.flatMap (lf1 sN sU (leftM sN sU d) ms)) = true := rise_pw.2 (flat_pw _ _ (fun y _ => lf1_one y) (rise_pw.1 hr))
    have ga : ∀ y ∈ m.fs, goB ms y.num = true → keptB l d (blwB l x y) (leftM sN sU d (rstI ms y.num) (wthM y)) = true := fun y hy hgo => by
      obtain ⟨-, -, -, -, g5, g6⟩ := go_facts hg hx hk hw hy hgo
      exact left_kept hg sN sU d _ _ _ (blw_in hx y) g6 g5
    rw [leftM]
    refine kept_mk (hold_mk hR (fun o ho => ?_) ((single_iff hR).2 ?_) ?_) (fun o ho z hz => ?_)
    · obtain ⟨y, hy, en, rfl | ⟨hgo, rfl⟩⟩ := lf1_from ho
      · exact ht o hy
      · obtain ⟨g1, g2, -, -, -, -⟩ := go_facts hg hx hk hw hy hgo
        rw [en]
        refine ⟨(ht y hy).1, fld_mk ?_ ?_ ?_ ?_⟩
        · rw [g1]; rfl
        · intro v hv
          unfold arM at hv
          rw [List.mem_singleton] at hv
          subst hv
          unfold valB
          rw [if_pos g2]
          rfl
        · intro v hv
          cases hv
        · exact keysB_nil _
    · have sA := (single_iff hr).1 hs
      intro u hu' v hv' h4 g4 e
      obtain ⟨p, hp, ep, -⟩ := lf1_from hu'
      obtain ⟨q, hq, eq, -⟩ := lf1_from hv'
      rw [ep] at h4 e ⊢
      rw [eq] at g4 e ⊢
      exact sA p hp q hq h4 g4 e
    · intro e he
      cases sU with
      | true => exact hu e he
      | false => cases he
    · obtain ⟨y, hy, en, rfl | ⟨hgo, rfl⟩⟩ := lf1_from ho
      · exact h2 o hy z hz
      · rw [blw_num l x en]
        have ez : z = leftM sN sU d (rstI ms y.num) (wthM y) := by
          unfold allM arM at hz
          simpa using hz
        rw [ez]
        exact ga y hy hgo
theorem left_parts {l : List TV} (hg : goodB l = true) (ho : ∀ x ∈ l, ∀ o ∈ x.t.fs, o.lab = 4 → 0 ≤ o.one ∧ o.one < 128) : ∀ (d : Nat) (x : TV) (m : CM) (ms : List (List Int)), x ∈ l → keptB l d x m = true → (∀ v ∈ ms, WyP l x.t.fs v) → mergM l d x (leftM false true d ms m) (leftM true false d ms m) = m
  | 0, _, _, _, _, _, _ => rfl
  | d + 1, x, m, ms, hx, hk, hw => by
    obtain ⟨h1, h2⟩ := kept_all hk
    obtain ⟨hr, ht, hs, hu⟩ := hold_facts h1
    have sA := (single_iff hr).1 hs
    have eF : (m.fs.flatMap (lf1 false true (leftM false true d) ms)).filter (rivB x.t.fs (m.fs.flatMap (lf1 true false (leftM true false d) ms))) = m.fs.flatMap (lf1 false true (leftM false true d) ms) := by
      rw [List.filter_eq_self]
      intro o hoD
      obtain ⟨y, hy, hoy⟩ := List.mem_flatMap.1 hoD
      have en := lf1_num hoy
      unfold rivB
      rw [Bool.not_eq_true', Bool.and_eq_false_iff]
      cases h4 : ((ownF x.t.fs o.num).lab == 4) with
      | false => exact .inl rfl
      | true =>
        refine .inr ?_
        rw [List.any_eq_false]
        intro p hp hm
        obtain ⟨z, hz, hpz⟩ := List.mem_flatMap.1 hp
        have ez := lf1_num hpz
        unfold memB at hm
        rw [Bool.and_eq_true] at hm
        have h4' := eq_of_beq h4
        have g4 := eq_of_beq hm.1
        have eo := eq_of_beq hm.2
        rw [en] at h4' eo
        rw [ez] at g4 eo
        have e2 : y = z := pw_inj (rise_pw.1 hr) hy hz (sA y hy z hz h4' g4 (by rw [eo]))
        subst e2
        rcases lf1_cases (sN := false) (sU := true) (L := leftM false true d) (ms := ms) y with ⟨q, e⟩ | ⟨q, hq⟩
        · have := (go_facts hg hx hk hw hy q).1
          omega
        · rcases lf1_cases (sN := true) (sU := false) (L := leftM true false d) (ms := ms) y with ⟨q', e'⟩ | ⟨q', hq'⟩
          · rw [q] at q'; cases q'
          · cases hn : ms.any (hdI y.num) with
            | true =>
              rw [hn] at hq
              rcases hq with ⟨c, -⟩ | ⟨-, e⟩
              · cases c
              · rw [e] at hoy; cases hoy
            | false =>
              rw [hn] at hq'
              rcases hq' with ⟨c, -⟩ | ⟨-, e⟩
              · cases c
              · rw [e] at hpz; cases hpz
    have eU : uni fOrd (bothF l (mergM l d) x) (m.fs.flatMap (lf1 false true (leftM false true d) ms)) (m.fs.flatMap (lf1 true false (leftM true false d) ms)) = m.fs := by
      refine uni_parts _ _ _ (rise_pw.1 hr) (fun y hy => ?_)
      rcases lf1_cases (sN := false) (sU := true) (L := leftM false true d) (ms := ms) y with ⟨q, e⟩ | ⟨q, hq⟩
      · rcases lf1_cases (sN := true) (sU := false) (L := leftM true false d) (ms := ms) y with ⟨q', e'⟩ | ⟨q', _⟩
        · obtain ⟨g1, g2, g3, g4, g5, g6⟩ := go_facts hg hx hk hw hy q
          refine .inr (.inr ⟨_, _, e, e', rfl, rfl, ?_⟩)
          unfold bothF
          rw [if_pos (show (ownF x.t.fs (arM y.num (leftM false true d (rstI ms y.num) (wthM y))).num).lab = 1 ∧ (ownF x.t.fs (arM y.num (leftM false true d (rstI ms y.num) (wthM y))).num).kind = 17 from ⟨g1, g2⟩)]
          show CF.mk (ownF x.t.fs y.num).num [] [⟨0, [], [mergM l d (blwB l x (arM y.num _)) (leftM false true d (rstI ms y.num) (wthM y)) (leftM true false d (rstI ms y.num) (wthM y))]⟩] = y
          rw [blw_num l x (show (arM y.num (leftM false true d (rstI ms y.num) (wthM y))).num = y.num from rfl), wM_wth, left_parts hg ho d _ _ _ (blw_in hx y) g6 g5, g3]
          exact g4.symm
        · rw [q] at q'; cases q'
      · rcases lf1_cases (sN := true) (sU := false) (L := leftM true false d) (ms := ms) y with ⟨q', e'⟩ | ⟨q', hq'⟩
        · rw [q] at q'; cases q'
        · cases hn : ms.any (hdI y.num) with
          | true =>
            rw [hn] at hq hq'
            rcases hq with ⟨c, -⟩ | ⟨-, e⟩
            · cases c
            · rcases hq' with ⟨-, e'⟩ | ⟨c, -⟩
              · exact .inr (.inl ⟨e, e'⟩)
              · cases c
          | false =>
            rw [hn] at hq hq'
            rcases hq with ⟨-, e⟩ | ⟨c, -⟩
            · rcases hq' with ⟨c, -⟩ | ⟨-, e'⟩
              · cases c
              · exact .inl ⟨e, e'⟩
            · cases c
    rw [leftM, leftM, mergM]
    show CM.mk (uni fOrd (bothF l (mergM l d) x) ((m.fs.flatMap (lf1 false true (leftM false true d) ms)).filter (rivB x.t.fs (m.fs.flatMap (lf1 true false (leftM true false d) ms)))) (m.fs.flatMap (lf1 true false (leftM true false d) ms))) (m.us ++ []) = m
    rw [List.append_nil]
    have := eF
    rw [this, eU]
    cases m
    rfl
theorem siz_left {L : Nat} (hL : 1 ≤ L) (sN sU : Bool) : ∀ (d : Nat) (ms : List (List Int)) (m : CM), LftOk d ms m → sizM L d m → sizM L d (leftM sN sU d ms m)
  | 0, _, _, _, _ => trivial
  | d + 1, ms, m, ho, hs => by
    obtain ⟨h1, h2, h3⟩ := hs
    rw [leftM]
    refine ⟨Nat.le_trans (lf1_le m.fs) h1, ?_, fun o hoo => ?_⟩
    · cases sU with
      | true => exact h2
      | false => exact Nat.zero_le _
    · obtain ⟨y, hy, en, rfl | ⟨hgo, rfl⟩⟩ := lf1_from hoo
      · exact h3 o hy
      · refine ⟨Nat.zero_le _, hL, fun z hz => ?_⟩
        have ez : z = leftM sN sU d (rstI ms y.num) (wthM y) := by
          unfold allM arM at hz
          simpa using hz
        obtain ⟨⟨v, vs, u, us, ev, eu⟩, hlo⟩ := ho y hy hgo
        have ew : wthM y = u := by unfold wthM; rw [ev]; dsimp only; rw [eu]
        rw [ez]
        refine siz_left hL sN sU d _ _ hlo ?_
        rw [ew]
        exact (h3 y hy).2.2 u (by unfold allM; simp [ev, eu])
theorem nm_no46 {xs : List Int} (h : nmB xs = true) : ∀ c ∈ xs, c ≠ 46 := by
  unfold nmB at h
  rw [Bool.and_eq_true] at h
  have key : ∀ (f i : Nat), nmA xs f i = true → ∀ j, i ≤ j → j < i + f → bt xs j ≠ 46 := by
    intro f
    induction f with
    | zero => intro i _ j h1 h2; omega
    | succ f ih =>
      intro i hi j h1 h2
      rw [nmA, Bool.and_eq_true] at hi
      by_cases e : j = i
      · subst e
        intro q
        rw [q] at hi
        have := hi.1
        revert this
        cases hj : decide (j ≠ 0) <;> decide
      · exact ih (i + 1) hi.2 j (by omega) (by omega)
  intro c hc
  obtain ⟨i, hi, rfl⟩ := List.mem_iff_getElem.1 hc
  have := key _ 0 h.2 i (Nat.zero_le _) (by omega)
  unfold bt at this
  simpa [hi] using this
theorem ct_no46 : ∀ (xs : List Int), (∀ c ∈ xs, c ≠ 46) → ctN xs = xs ∧ ctG xs = false
  | [], _ => ⟨rfl, rfl⟩
  | c :: r, h => by
    obtain ⟨h1, h2⟩ := ct_no46 r (fun x hx => h x (by simp [hx]))
    rw [ctN, ctG, if_neg (h c (by simp)), if_neg (h c (by simp)), h1, h2]
    exact ⟨rfl, rfl⟩
theorem good_nms {l : List TV} (hg : goodB l = true) {x : TV} (hx : x ∈ l) : (∀ f ∈ x.t.fs, nmB f.name = true) ∧ x.t.fs.Pairwise (fun f g => f.name ≠ g.name) := by
  obtain ⟨k, hk, rfl⟩ := List.mem_iff_getElem.1 hx
  have h := good_at hg hk
  unfold stepB typB at h
  cases he : l[k].t.enum with
  | false =>
    rw [he] at h
    simp only [Bool.and_eq_true, Bool.false_eq_true, if_false] at h
    have h2 := h.2.2.2
    unfold msgB at h2
    simp only [Bool.and_eq_true] at h2
    have h3 := h2.2.2.2.2.2.2
    unfold nmsB at h3
    rw [Bool.and_eq_true] at h3
    have h4 := List.all_eq_true.1 h3.1
    refine ⟨fun f hf => h4 _ (List.mem_append_right _ (List.mem_map_of_mem hf)), ?_⟩
    have h5 := h3.2
    rw [dfB_iff _ (fun z hz => by obtain ⟨y, _, rfl⟩ := List.mem_map.1 hz; trivial), List.nodup_iff_pairwise_ne, List.pairwise_map, List.pairwise_append] at h5
    have h6 := h5.2.1
    rw [List.pairwise_map] at h6
    exact h6.imp (fun hne e => hne (by rw [e]))
  | true =>
    rw [he] at h
    simp only [Bool.and_eq_true, if_true, decide_eq_true_eq] at h
    have h3 : l[k].t.fs.length = 0 := by have := h.2.2.2.1; omega
    rw [List.eq_nil_of_length_eq_zero h3]
    exact ⟨fun f hf => (by cases hf), List.Pairwise.nil⟩
theorem find_nm : ∀ (fs : List FT) (f : FT), f ∈ fs → fs.Pairwise (fun f g => f.name ≠ g.name) → fs.find? (nmP f.name) = some f
  | g :: fs, f, hf, hp => by
    obtain ⟨h1, h2⟩ := List.pairwise_cons.1 hp
    rcases List.mem_cons.1 hf with rfl | hf
    · rw [List.find?_cons_of_pos (by unfold nmP; simp)]
    · rw [List.find?_cons_of_neg (by unfold nmP; simpa using h1 f hf)]
      exact find_nm fs f hf h2
theorem way_nm {l : List TV} {fs : List FT} (hp : fs.Pairwise (fun f g => f.name ≠ g.name)) (hn : ∀ f ∈ fs, nmB f.name = true) {f : FT} (hf : f ∈ fs) (n : Nat) : wayM l (n + 1) fs f.name = some [f.num] := by
  obtain ⟨h1, h2⟩ := ct_no46 f.name (nm_no46 (hn f hf))
  rw [wayM, h1, find_nm fs f hf hp]
  dsimp only
  rw [h2, if_neg (by simp)]
theorem msk_top {l : List TV} (hg : goodB l = true) {x : TV} (hx : x ∈ l) : mskM l x.t.fs (x.t.fs.map FT.name) = some (topW x.t.fs) := by
  obtain ⟨hn, hp⟩ := good_nms hg hx
  have key : ∀ gs : List FT, (∀ f ∈ gs, f ∈ x.t.fs) → mskM l x.t.fs (gs.map FT.name) = some (topW gs) := by
    intro gs
    induction gs with
    | nil => intro _; rfl
    | cons f gs ih =>
      intro h
      rw [List.map_cons, mskM, way_nm hp hn (h f (by simp))]
      dsimp only
      rw [ih (fun g hg => h g (by simp [hg]))]
      rfl
  exact key x.t.fs (fun _ h => h)
theorem top_has {l : List TV} {d : Nat} {x : TV} {m : CM} (hk : keptB l (d + 1) x m = true) : ∀ y ∈ m.fs, ∃ f ∈ x.t.fs, f.num = y.num := fun y hy => by
  obtain ⟨-, ht, -, -⟩ := hold_facts (kept_all hk).1
  have := ownF_hasF (ht y hy).1
  exact ⟨_, this.1, this.2⟩
set_option maxHeartbeats 1000000
theorem CE.ext4 {x y : CE} (h1 : x.num = y.num) (h2 : x.kind = y.kind) (h3 : x.n = y.n) (h4 : x.b = y.b) : x = y := by
  cases x; cases y; simp_all
theorem CV.ext3 {x y : CV CM} (h1 : x.n = y.n) (h2 : x.b = y.b) (h3 : x.ms = y.ms) : x = y := by
  cases x; cases y; simp_all
theorem CF.ext3 {x y : CF CM} (h1 : x.num = y.num) (h2 : x.ks = y.ks) (h3 : x.vs = y.vs) : x = y := by
  cases x; cases y; simp_all
end Go.Proofs.YtmfaabedfdppcaaGreatDoor
