/-
  The examples' block.
  The law's own first question.
  Lower.
  What a valid program's steps are asked: where all is well.
-/
import Derived.Test.YtmcbllannkhfaaaGreatDoorCKK
import Derived.Test.YtmcbllannkhfaaaGreatDoorCTY
namespace Go.Proofs.YtmcbllannkhfaaaGreatDoor
open Go.RowKit
set_option maxRecDepth 1000000
set_option linter.unusedVariables false
set_option linter.unusedSimpArgs false
set_option maxHeartbeats 1000000
def simBK : BK := ⟨decL simF, encL simF, []⟩
theorem simD : (#[.int .i64 1, .int .i64 0, .int .i64 0, .int .i64 0, .int .i64 0, .int .i64 2, .int .i64 8, .int .i64 5, .int .i64 0, .int .i64 0, .int .i64 5, .int .i64 2, .int .i64 0, .int .i64 0, .int .i64 0, .int .i64 7, .int .i64 1, .int .i64 0, .int .i64 0, .int .i64 0, .int .i64 4, .int .i64 0, .int .i64 0, .int .i64 0, .int .i64 0, .int .i64 2, .int .i64 16, .int .i64 9, .int .i64 0, .int .i64 0, .int .i64 5, .int .i64 4, .int .i64 0, .int .i64 0, .int .i64 0, .int .i64 8, .int .i64 2, .int .i64 0, .int .i64 0, .int .i64 0, .int .i64 4, .int .i64 0, .int .i64 0, .int .i64 0, .int .i64 0, .int .i64 2, .int .i64 18, .int .i64 12, .int .i64 0, .int .i64 0, .int .i64 11, .int .i64 2, .int .i64 4, .int .i64 0, .int .i64 0, .int .i64 4, .int .i64 0, .int .i64 0, .int .i64 0, .int .i64 0, .int .i64 2, .int .i64 26, .int .i64 15, .int .i64 0, .int .i64 0, .int .i64 10, .int .i64 3, .int .i64 1, .int .i64 0, .int .i64 0, .int .i64 4, .int .i64 0, .int .i64 0, .int .i64 0, .int .i64 0, .int .i64 13, .int .i64 0, .int .i64 0, .int .i64 0, .int .i64 0, .int .i64 4, .int .i64 0, .int .i64 0, .int .i64 0, .int .i64 0] : Array Value) = (simBK.dec.flatMap cIN).toArray := by kernel_rfl
theorem simE' : (#[.int .i64 16, .int .i64 1, .int .i64 3, .int .i64 2, .int .i64 0, .int .i64 17, .int .i64 8, .int .i64 0, .int .i64 0, .int .i64 0, .int .i64 18, .int .i64 2, .int .i64 0, .int .i64 0, .int .i64 0, .int .i64 16, .int .i64 2, .int .i64 5, .int .i64 0, .int .i64 0, .int .i64 21, .int .i64 18, .int .i64 4, .int .i64 0, .int .i64 0, .int .i64 16, .int .i64 3, .int .i64 8, .int .i64 0, .int .i64 0, .int .i64 17, .int .i64 26, .int .i64 0, .int .i64 0, .int .i64 0, .int .i64 19, .int .i64 1, .int .i64 0, .int .i64 0, .int .i64 0, .int .i64 23, .int .i64 0, .int .i64 0, .int .i64 0, .int .i64 0, .int .i64 24, .int .i64 0, .int .i64 0, .int .i64 0, .int .i64 0] : Array Value) = (simBK.enc.flatMap cIN).toArray := by kernel_rfl
theorem simDl : simBK.dec.length = 17 := by kernel_rfl
theorem simEl : simBK.enc.length = 10 := by kernel_rfl
def LwA (w : World) (e : Ending) (w' : World) : Prop := ∃ da ea, e = .returned (.agg #[.slice da simBK.dec.length 17, .slice ea simBK.enc.length 10, .slice none simBK.rows.length 0]) ∧ BkR w' simBK (.slice da simBK.dec.length 17) (.slice ea simBK.enc.length 10) (.slice none simBK.rows.length 0) ∧ Below w.heap.size w w'
theorem LwA.mk {w w' : World} {h1 h2 : Nat} (B1 : Blk w' h1 57 #[.int .i64 1, .int .i64 0, .int .i64 0, .int .i64 0, .int .i64 0, .int .i64 2, .int .i64 8, .int .i64 5, .int .i64 0, .int .i64 0, .int .i64 5, .int .i64 2, .int .i64 0, .int .i64 0, .int .i64 0, .int .i64 7, .int .i64 1, .int .i64 0, .int .i64 0, .int .i64 0, .int .i64 4, .int .i64 0, .int .i64 0, .int .i64 0, .int .i64 0, .int .i64 2, .int .i64 16, .int .i64 9, .int .i64 0, .int .i64 0, .int .i64 5, .int .i64 4, .int .i64 0, .int .i64 0, .int .i64 0, .int .i64 8, .int .i64 2, .int .i64 0, .int .i64 0, .int .i64 0, .int .i64 4, .int .i64 0, .int .i64 0, .int .i64 0, .int .i64 0, .int .i64 2, .int .i64 18, .int .i64 12, .int .i64 0, .int .i64 0, .int .i64 11, .int .i64 2, .int .i64 4, .int .i64 0, .int .i64 0, .int .i64 4, .int .i64 0, .int .i64 0, .int .i64 0, .int .i64 0, .int .i64 2, .int .i64 26, .int .i64 15, .int .i64 0, .int .i64 0, .int .i64 10, .int .i64 3, .int .i64 1, .int .i64 0, .int .i64 0, .int .i64 4, .int .i64 0, .int .i64 0, .int .i64 0, .int .i64 0, .int .i64 13, .int .i64 0, .int .i64 0, .int .i64 0, .int .i64 0, .int .i64 4, .int .i64 0, .int .i64 0, .int .i64 0, .int .i64 0]) (B2 : Blk w' h2 57 #[.int .i64 16, .int .i64 1, .int .i64 3, .int .i64 2, .int .i64 0, .int .i64 17, .int .i64 8, .int .i64 0, .int .i64 0, .int .i64 0, .int .i64 18, .int .i64 2, .int .i64 0, .int .i64 0, .int .i64 0, .int .i64 16, .int .i64 2, .int .i64 5, .int .i64 0, .int .i64 0, .int .i64 21, .int .i64 18, .int .i64 4, .int .i64 0, .int .i64 0, .int .i64 16, .int .i64 3, .int .i64 8, .int .i64 0, .int .i64 0, .int .i64 17, .int .i64 26, .int .i64 0, .int .i64 0, .int .i64 0, .int .i64 19, .int .i64 1, .int .i64 0, .int .i64 0, .int .i64 0, .int .i64 23, .int .i64 0, .int .i64 0, .int .i64 0, .int .i64 0, .int .i64 24, .int .i64 0, .int .i64 0, .int .i64 0, .int .i64 0]) (hb : Below w.heap.size w w') : LwA w (.returned (.agg #[.slice (some ⟨h1, 0, none⟩) 17 17, .slice (some ⟨h2, 0, none⟩) 10 10, .slice none 0 0])) w' := by
  refine ⟨some ⟨h1, 0, none⟩, some ⟨h2, 0, none⟩, by rw [simDl, simEl]; rfl, ⟨?_, ?_, rowS_nil _ _ _⟩, hb⟩
  · rw [simDl]
    exact rowOf' B1 5 17 _ simD (by rw [flatM_len (g := cIN) (k := 5) (fun _ => rfl), simDl]) (by decide)
  · rw [simEl]
    exact rowOf' B2 5 10 _ simE' (by rw [flatM_len (g := cIN) (k := 5) (fun _ => rfl), simEl]) (by decide)
theorem loweredW (w : World) : Calls Tryz.prog 23 #[] w (LwA w) := by
  go_enter Tryz.func23, Tryz.ntmps23
  go_wp2
  refine bodyPost_ret (v := .agg #[.slice (some ⟨w.heap.size + 1, 0, none⟩) 17 17, .slice (some ⟨w.heap.size + 1 + 1, 0, none⟩) 10 10, .slice none 0 0]) (by simp [results, Tryz.results23, go_sem]) rfl ?_
  refine LwA.mk ?_ ?_ (by exact blBy)
  · exact (Blk.newAt (by simp)).kept (below_alloc _)
  · exact Blk.newAt (by simp)
/-- The law's own first question. -/
theorem awakeW (w : World) (m : Int) (hm : w.cell? ⟨0, 0, none⟩ = some (.int .i64 m)) : Calls Tryz.prog 12 #[] w fun e w' => e = .returned (.bool true) ∧ Below w.heap.size w w' := by
  have HL : Hid (∀ W W' : World, Below w.heap.size w W → TbR W' (.slice (some ⟨W.heap.size + 1 + 1 + 1, 0, none⟩) (simL W.heap.size).length 2) (simL W.heap.size) → Below w.heap.size w W' → Calls Tryz.prog 9 #[.agg #[.slice (some ⟨W.heap.size + 1 + 1 + 1, 0, none⟩) (simL W.heap.size).length 2], .int .i64 1] W' (LowA W' simBK 0)) := hid fun W W' hW ht hW' => by
    have := lowerTypeT W' (simL W.heap.size) _ 2 ht (simOk _) m (cell_below hm hW') 1
    rw [lowE_ok ⟨simGood _, by decide, by show (1 : Int) < 2; decide⟩] at this
    have e : lowBK (simL W.heap.size) 1 = simBK := lowBK_at (k := 1) (simGood _) (show 1 < 2 by decide)
    rw [e] at this
    exact this
  go_enter Tryz.func12, Tryz.ntmps12
  go_wp2_with fail
  refine (simpleW _).mono ?_
  rintro e w1 ⟨rfl, ht, hb1⟩
  have HT := hid ht
  replace hb1 := hid hb1
  clear ht
  go_wp2_with fail
  refine (HL.out w w1 (Below.refl _ _) HT.out hb1.out).mono ?_
  rintro e w2 ⟨da, dc, ea, ec, ra, rc, rfl, ho, hb2⟩
  replace ho := hid ho.row
  replace hb2 : Hid (Below w.heap.size w w2) := hid (bl_then hb1.out hb2)
  clear HL HT hb1
  go_wp2_with fail
  have Bb : Hid (Blk (w2.alloc (.cells #[.slice da simBK.dec.length dc, .slice ea simBK.enc.length ec, .slice ra simBK.rows.length rc] 25)) w2.heap.size 25 #[.slice da simBK.dec.length dc, .slice ea simBK.enc.length ec, .slice ra simBK.rows.length rc]) := hid (Blk.new _ _ _)
  replace hb2 : Hid (Below w.heap.size w (w2.alloc (.cells #[.slice da simBK.dec.length dc, .slice ea simBK.enc.length ec, .slice ra simBK.rows.length rc] 25))) := hid (by have := hb2.out; exact blBy)
  replace ho : Hid (BkR (w2.alloc (.cells #[.slice da simBK.dec.length dc, .slice ea simBK.enc.length ec, .slice ra simBK.rows.length rc] 25)) simBK (.slice da simBK.dec.length dc) (.slice ea simBK.enc.length ec) (.slice ra simBK.rows.length rc)) := hid (ho.out.kept (below_alloc _))
  generalize w2.alloc (.cells #[.slice da simBK.dec.length dc, .slice ea simBK.enc.length ec, .slice ra simBK.rows.length rc] 25) = W at *
  generalize w2.heap.size = q at *
  have e0 := Bb.out.cell 0 _ rfl
  have e1 := Bb.out.cell 1 _ rfl
  have e2 := Bb.out.cell 2 _ rfl
  simp only [List.getElem_toArray, List.getElem_cons_succ, List.getElem_cons_zero] at e0 e1 e2
  go_region_held3 (fun W => W.cell? ⟨q, 0, none⟩ = some (.slice da simBK.dec.length dc) ∧ W.cell? ⟨q, 1, none⟩ = some (.slice ea simBK.enc.length ec) ∧ W.cell? ⟨q, 2, none⟩ = some (.slice ra simBK.rows.length rc)) (first | exact ⟨e0, e1, e2⟩) (first | (go_at_call 23; refine (loweredW _).mono ?_; rintro e w3 ⟨pa, qa, rfl, hl, hbx⟩; replace e0 := cell_below e0 (below_trans (by first | exact Below.refl _ _ | exact below_drew1 _ | exact below_drewN _ _) hbx); replace e1 := cell_below e1 (below_trans (by first | exact Below.refl _ _ | exact below_drew1 _ | exact below_drewN _ _) hbx); replace e2 := cell_below e2 (below_trans (by first | exact Below.refl _ _ | exact below_drew1 _ | exact below_drewN _ _) hbx); replace ho := hid (ho.out.kept (below_trans (by first | exact Below.refl _ _ | exact below_drew1 _ | exact below_drewN _ _) hbx)); replace hb2 := hid (below_trans hb2.out (below_trans (by first | exact Below.refl _ _ | exact below_drew1 _ | exact below_drewN _ _) hbx)); have HLW := hid hl; clear hl hbx) | (go_at_call 13; refine (sameBlockD _ simBK simBK _ _ _ _ _ _ _ _ _ _ _ _ ho.out HLW.out).mono ?_; rintro e w4 ⟨r, rfl, hr, hbx⟩; obtain rfl : r = true := hr.2 rfl; replace e0 := cell_below e0 hbx; replace e1 := cell_below e1 hbx; replace e2 := cell_below e2 hbx; replace hb2 := hid (below_trans hb2.out hbx); clear hr hbx))
  all_goals
    go_wp2
    go_ret
    exact ⟨rfl, hb2.out⟩
/-- A block and the values of its three lists. -/
structure BV where
  k : BK
  d : Value
  e : Value
  r : Value
def cBV (x : BV) : List Value := [x.d, x.e, x.r]
structure LwO (w : World) (base : Nat) (v : Value) (xs : List BV) : Prop where
  row : w.ownsRow base 25 3 v xs.length (xs.flatMap cBV)
  el : ∀ x ∈ xs, BkO w base x.k x.d x.e x.r
theorem LwO.kept {w w' : World} {base : Nat} {v : Value} {xs : List BV} (h : LwO w base v xs) (g : Below w.heap.size w w') : LwO w' base v xs := ⟨own_kept h.row g, fun x hx => (h.el x hx).kept g⟩
def ProgA (w : World) (ks : List BK) (er : Int) (e : Ending) (w' : World) : Prop := ∃ a c xs, e = .returned (.tuple #[.agg #[.slice a xs.length c], .int .i64 er]) ∧ xs.map BV.k = ks ∧ LwO w' w.heap.size (.slice a xs.length c) xs ∧ Below w.heap.size w w'
def lowP (l : List TV) : List BK := if goodB l = true then l.map (fun x => loBK x.t) else []
def lowPE (l : List TV) : Int := if goodB l = true then 0 else 18
theorem Tryz.infoPB : (Tryz.prog.info? 25).map (fun i => (i.zero, i.size, i.bytes)) = some (some (.agg #[.slice none 0 0, .slice none 0 0, .slice none 0 0]), 3, 72) := by kernel_rfl
/-- One block more. -/
theorem LwO.push {w : World} {base : Nat} {v : Value} {xs : List BV} (h : LwO w base v xs) (hb : base ≤ w.heap.size) (hn : xs.length ≤ 4000000) (k : BK) (da ea ra : Option Addr) (n1 dc n2 ec n3 rc : Nat) (ho : BkO w base k (.slice da n1 dc) (.slice ea n2 ec) (.slice ra n3 rc)) :
    ∃ a c w', Hid ((Builtin.append_ #[33, 33] 33 #[v, .slice (some ⟨w.heap.size, 0, none⟩) 1 1]).run Tryz.prog (w.alloc (.cells #[.slice da n1 dc, .slice ea n2 ec, .slice ra n3 rc] 25)) = .ok (.slice a (xs.length + 1) c) w') ∧ Hid (LwO w' base (.slice a (xs.length + 1) c) (xs ++ [⟨k, .slice da n1 dc, .slice ea n2 ec, .slice ra n3 rc⟩])) ∧ Hid (Grow w w' v (.slice a (xs.length + 1) c)) := by
  obtain ⟨v', w', h1, h2, h3⟩ := append_st 25 33 3 72 (.agg #[.slice none 0 0, .slice none 0 0, .slice none 0 0]) Tryz.underlying33 Tryz.infoPB rfl (by decide) (by decide) base v xs.length (xs.flatMap cBV) w #[.slice da n1 dc, .slice ea n2 ec, .slice ra n3 rc] rfl (fun u hu => by simp at hu; rcases hu with rfl | rfl | rfl <;> rfl) h.row hb hn
  obtain ⟨a, c, rfl⟩ := own_shape h2
  have hk : ∀ {k : BK} {d e r : Value}, BkO w base k d e r → BkO w' base k d e r := fun q => ⟨grow_own h3 h.row q.hd (by decide), grow_own h3 h.row q.he (by decide), grow_own h3 h.row q.hr (by decide), q.ap⟩
  refine ⟨a, c, w', hid h1, hid ⟨by rw [List.flatMap_append, List.length_append]; exact h2, fun x hx => ?_⟩, hid h3⟩
  rcases List.mem_append.1 hx with hx | hx
  · exact hk (h.el x hx)
  · simp at hx
    subst hx
    exact hk ho
theorem own_othP {w : World} {base e size n q j : Nat} {v u : Value} {fl : List Value} (h : w.ownsRow base e size v n fl) {t : TypeId} {cs : Array Value} (hq : Blk w q t cs) (ht : t ≠ e) : (w.setCell ⟨q, j, none⟩ u).ownsRow base e size v n fl :=
  own_keep (f := (· ≠ q)) h (fun k hk e => by
    obtain ⟨_, _, cur, h3⟩ := own_type h hk
    rw [e, show w.heap[q]? = _ from hq] at h3
    cases h3
    exact ht rfl) (Keep.setCell _ _ _ (fun h => h rfl))
theorem lowerT (w : World) (l : List TV) (ta : Option Addr) (tc : Nat) (h : TbR w (.slice ta l.length tc) l) (hk : ∀ x ∈ l, OkV x) (m : Int) (hm : w.cell? ⟨0, 0, none⟩ = some (.int .i64 m)) : Calls Tryz.prog 11 #[.agg #[.slice ta l.length tc]] w (ProgA w (lowP l) (lowPE l)) := by
  obtain ⟨_, _, e, hn⟩ := rowS_sl h.row
  clear e
  have h63 : (l.length : Int) ≤ 9223372036854775807 := by omega
  have HGC : Hid (∀ W, Below w.heap.size w W → Calls Tryz.prog 21 #[.agg #[.slice ta l.length tc]] W fun e w' => e = .returned (.bool (goodB l)) ∧ Below W.heap.size W w') := hid fun W hW => goodT W l ta tc (h.kept hW) hk m (cell_below hm hW)
  cases hg : goodB l with
  | false =>
    have HX : Hid (lowP l = [] ∧ lowPE l = 18) := hid ⟨by unfold lowP; rw [hg]; rfl, by unfold lowPE; rw [hg]; rfl⟩
    rw [HX.out.1, HX.out.2]
    rw [hg] at HGC
    clear h hk hm
    go_enter Tryz.func11, Tryz.ntmps11
    go_wp2_with fail
    refine (HGC.out _ (by exact blBy)).mono ?_
    rintro e w1 ⟨rfl, hb1⟩
    have Br : Blk w1 (w.heap.size + 1) 35 #[.slice none 0 0] := (Blk.newAt (by simp)).kept hb1
    replace hb1 : Hid (Below w.heap.size w w1) := hid (bl_then (by exact blBy) hb1)
    have xr := Br.cellF
    have yr := Br.frz
    have zr := Br.lt
    go_wp2
    refine bodyPost_ret (v := .tuple #[.agg #[.slice none 0 0], .int .i64 18]) (by simp [results, Tryz.results11, go_sem, xr, zr, yr]) rfl ?_
    exact ⟨none, 0, [], rfl, rfl, ⟨World.ownsRow_nil _ _ _ _, by simp⟩, by have := hb1.out; exact blBy⟩
  | true =>
  have HX : Hid (lowP l = l.map (fun x => loBK x.t) ∧ lowPE l = 0) := hid ⟨by unfold lowP; rw [hg]; rfl, by unfold lowPE; rw [hg]; rfl⟩
  rw [HX.out.1, HX.out.2]
  rw [hg] at HGC
  have HL := goodP_len hg
  have HBO : Hid (∀ j (hj : j < l.length) W t fa oa sa ra fc oc sc rc, l[j].t = t → TyR W ⟨t, .slice fa t.fs.length fc, .slice oa t.os.length oc, .slice sa t.ss.length sc, .slice ra t.rs.length rc⟩ → Calls Tryz.prog 22 #[.agg #[.string (strOfNums t.name), .bool t.enum, .slice fa t.fs.length fc, .slice oa t.os.length oc, .slice sa t.ss.length sc, .slice ra t.rs.length rc]] W (BlkA W (loBK t))) := hid fun j hj W t fa oa sa ra fc oc sc rc et ht => blockOfT W l j hg hj t et fa oa sa ra fc oc sc rc ht
  have HT := hid h
  clear h hk hm
  go_enter Tryz.func11, Tryz.ntmps11
  go_wp2_with fail
  refine (HGC.out _ (by exact blBy)).mono ?_
  rintro e w1 ⟨rfl, hb1⟩
  have Ba : Blk w1 w.heap.size 31 #[.slice ta l.length tc] := ((Blk.new _ _ _).kept (below_alloc _)).kept hb1
  have Br : Blk w1 (w.heap.size + 1) 35 #[.slice none 0 0] := (Blk.newAt (by simp)).kept hb1
  replace hb1 : Hid (Below w.heap.size w w1) := hid (bl_then (by exact blBy) hb1)
  have xa := Ba.cellF
  have za := Ba.lt
  go_wp2_with fail
  have HBW : Hid (Below w.heap.size w (w1.alloc (.cells #[.slice none 0 0] 35))) := hid (by have := hb1.out; exact blBy)
  have HBP : Hid (Blk (w1.alloc (.cells #[.slice none 0 0] 35)) w1.heap.size 35 #[.slice none 0 0]) := hid (Blk.new _ _ _)
  have HBR : Hid (Blk (w1.alloc (.cells #[.slice none 0 0] 35)) (w.heap.size + 1) 35 #[.slice none 0 0]) := hid (Br.kept (below_alloc _))
  have hqq : w.heap.size + 1 < w1.heap.size := Br.lt
  clear xa za Ba Br
  generalize w1.alloc (.cells #[.slice none 0 0] 35) = V at *
  generalize w1.heap.size = q at *
  go_loopw [14] (fun r wr => ∃ (j : Nat) (a : Option Addr) (c : Nat) (xs : List BV), r = .int .i64 j ∧ j ≤ l.length ∧ Hid (xs.length = j) ∧ Hid (xs.map BV.k = (l.take j).map (fun x => loBK x.t)) ∧ Hid (LwO wr (w.heap.size + 2) (.slice a j c) xs) ∧ Hid (Blk wr q 35 #[.slice a j c]) ∧ Hid (Blk wr (w.heap.size + 1) 35 #[.slice none 0 0]) ∧ Hid (Below w.heap.size w wr)) (fun r wr => l.length - numAt wr r)
  case atStart => exact ⟨0, none, 0, [], rfl, by omega, hid rfl, hid rfl, hid ⟨World.ownsRow_nil _ _ _ _, by simp⟩, HBP, HBR, HBW⟩
  case round =>
    clear HBP HBR HBW
    obtain ⟨j, a, c, xs, rfl, hj, hxl, hmap, HLW, HBP, HBR, hb⟩ := hrel
    by_cases hlt : j < l.length
    · have h3 : (j : Int) < (l.length : Int) := by omega
      have HTY := hid (HT.out.ty _ (List.getElem_mem hlt))
      have HBJ := hid (HBO.out j hlt)
      have HTK : Hid ((l.take (j + 1)).map (fun x => loBK x.t) = (l.take j).map (fun x => loBK x.t) ++ [loBK l[j].t]) := hid (by rw [List.take_succ_eq_append_getElem hlt, List.map_append]; rfl)
      obtain ⟨tb, tof, etb, hbl, c0, c1, c2, c3, c4, c5⟩ := row6 (HT.out.row.kept hb.out) hlt
      subst etb
      generalize l[j] = x at *
      obtain ⟨t, f, o, s, r⟩ := x
      obtain ⟨fa, fc, ef, -⟩ := rowS_sl HTY.out.f
      obtain ⟨oa, oc, eo, -⟩ := rowS_sl HTY.out.o
      obtain ⟨sa, sc, es, -⟩ := rowS_sl HTY.out.s
      obtain ⟨ra, rc, er, -⟩ := rowS_sl HTY.out.r
      dsimp only at ef eo es er
      subst ef eo es er
      dsimp only at c0 c1 c2 c3 c4 c5 HBJ HTK
      have HBX : Hid (Blk (wr.alloc (.cells #[.string (strOfNums t.name), .bool t.enum, .slice fa t.fs.length fc, .slice oa t.os.length oc, .slice sa t.ss.length sc, .slice ra t.rs.length rc] 53)) wr.heap.size 53 #[.string (strOfNums t.name), .bool t.enum, .slice fa t.fs.length fc, .slice oa t.os.length oc, .slice sa t.ss.length sc, .slice ra t.rs.length rc]) := hid (Blk.new _ _ _)
      have HP1 : Hid (Blk (wr.alloc (.cells #[.string (strOfNums t.name), .bool t.enum, .slice fa t.fs.length fc, .slice oa t.os.length oc, .slice sa t.ss.length sc, .slice ra t.rs.length rc] 53)) q 35 #[.slice a j c]) := hid (HBP.out.kept (below_alloc _))
      have HR1 : Hid (Blk (wr.alloc (.cells #[.string (strOfNums t.name), .bool t.enum, .slice fa t.fs.length fc, .slice oa t.os.length oc, .slice sa t.ss.length sc, .slice ra t.rs.length rc] 53)) (w.heap.size + 1) 35 #[.slice none 0 0]) := hid (HBR.out.kept (below_alloc _))
      have HB1 : Hid (Below w.heap.size w (wr.alloc (.cells #[.string (strOfNums t.name), .bool t.enum, .slice fa t.fs.length fc, .slice oa t.os.length oc, .slice sa t.ss.length sc, .slice ra t.rs.length rc] 53))) := hid (bl_alloc hb.out _)
      have HL1 : Hid (LwO (wr.alloc (.cells #[.string (strOfNums t.name), .bool t.enum, .slice fa t.fs.length fc, .slice oa t.os.length oc, .slice sa t.ss.length sc, .slice ra t.rs.length rc] 53)) (w.heap.size + 2) (.slice a j c) xs) := hid (HLW.out.kept (below_alloc _))
      go_upto_region 7 with fail
      clear c0 c1 c2 c3 c4 c5 HBP HBR hb HLW
      generalize wr.alloc (.cells #[.string (strOfNums t.name), .bool t.enum, .slice fa t.fs.length fc, .slice oa t.os.length oc, .slice sa t.ss.length sc, .slice ra t.rs.length rc] 53) = U at *
      generalize wr.heap.size = qx at *
      have HAP : Hid (∀ W, Below U.heap.size U W → ∀ da dc ea ec ra' rc', BkO W U.heap.size (loBK t) (.slice da (loBK t).dec.length dc) (.slice ea (loBK t).enc.length ec) (.slice ra' (loBK t).rows.length rc') → ∃ a2 c2 w', Hid ((Builtin.append_ #[33, 33] 33 #[.slice a j c, .slice (some ⟨W.heap.size, 0, none⟩) 1 1]).run Tryz.prog (W.alloc (.cells #[.slice da (loBK t).dec.length dc, .slice ea (loBK t).enc.length ec, .slice ra' (loBK t).rows.length rc'] 25)) = .ok (.slice a2 (j + 1) c2) w') ∧ Hid (Blk w' q 35 #[.slice a j c]) ∧ Hid (∃ xs', xs'.length = j + 1 ∧ xs'.map BV.k = (l.take (j + 1)).map (fun x => loBK x.t) ∧ LwO (w'.setCell ⟨q, 0, none⟩ (.slice a2 (j + 1) c2)) (w.heap.size + 2) (.slice a2 (j + 1) c2) xs' ∧ Blk (w'.setCell ⟨q, 0, none⟩ (.slice a2 (j + 1) c2)) q 35 #[.slice a2 (j + 1) c2] ∧ Blk (w'.setCell ⟨q, 0, none⟩ (.slice a2 (j + 1) c2)) (w.heap.size + 1) 35 #[.slice none 0 0] ∧ Below w.heap.size w (w'.setCell ⟨q, 0, none⟩ (.slice a2 (j + 1) c2)))) := hid fun W hW da dc ea ec ra' rc' ho => by
        have hUs : w.heap.size + 2 ≤ U.heap.size := by have := HP1.out.lt; omega
        have hlw := HL1.out.kept hW
        obtain ⟨a2, c2, w', r1, r2, r3⟩ := hlw.push (by have := hW.size; omega) (by have := hxl.out; omega) (loBK t) da ea ra' (loBK t).dec.length dc (loBK t).enc.length ec (loBK t).rows.length rc' (ho.mono hUs)
        rw [hxl.out] at r1 r2 r3
        have hrow : W.ownsRow (w.heap.size + 2) 25 3 (.slice a j c) xs.length (xs.flatMap cBV) := hlw.row
        have b1 := grow_blk r3.out hrow (HP1.out.kept hW) (by decide)
        have b2 := grow_blk r3.out hrow (HR1.out.kept hW) (by decide)
        have ne1 : q ≠ w.heap.size + 1 := by omega
        have hkk : ∀ {k : BK} {d e r : Value}, BkO w' (w.heap.size + 2) k d e r → BkO (w'.setCell ⟨q, 0, none⟩ (.slice a2 (j + 1) c2)) (w.heap.size + 2) k d e r := fun z => ⟨own_othP z.hd b1 (by decide), own_othP z.he b1 (by decide), own_othP z.hr b1 (by decide), z.ap⟩
        refine ⟨a2, c2, w', r1, hid b1, hid ⟨_, ?_, ?_, ⟨own_othP r2.out.row b1 (by decide), fun x hx => hkk (r2.out.el x hx)⟩, (b1.set 0 _).is (by simp), b2.other (a := ⟨q, 0, none⟩) (fun e => ne1 e.symm) _, ?_⟩⟩
        · simp [hxl.out]
        · rw [HTK.out, List.map_append, hmap.out]; rfl
        · refine Below.setCell ((HB1.out.trans (hW.mono (by omega))).trans (r3.out.below (by have := hW.size; omega) (fun k hk => ?_))) (by show w.heap.size ≤ q; omega) _
          have := (own_type hrow hk).1
          omega
      have xb := HBX.out.cellF
      have zb := HBX.out.lt
      have xp := HP1.out.cellF
      have yp := HP1.out.frz
      have zp := HP1.out.lt
      go_region_law (first | (refine step_append_ran rfl _ _ 33 33 rfl rfl _ _ _ _ rfl rfl HRUN.out ?_) | (go_simp; go_wp2_with (go_at_call 22; refine (HBJ.out _ t fa oa sa ra fc oc sc rc rfl (HTY.out.kept (by have := HB1.out; first | exact this | exact bl_drew this))).mono ?_; rintro e u1 ⟨da, dc, ea, ec, ra', rc', rfl, ho, hbx⟩; have HU1 : Hid (Below U.heap.size U u1) := hid (bl_then (below_drew1 _) hbx); obtain ⟨a3, c3, w3, HRUN, HB3, HE⟩ := HAP.out u1 HU1.out da dc ea ec ra' rc' ho; have xp1 := (HP1.out.kept HU1.out).cellF; have zp1 := (HP1.out.kept HU1.out).lt; have xp3 := HB3.out.cellF; have yp3 := HB3.out.frz; have zp3 := HB3.out.lt)))
      all_goals
        obtain ⟨xs', g1, g2, g3, g4, g5, g6⟩ := HE.out
        replace g3 := hid g3
        replace g4 := hid g4
        replace g5 := hid g5
        replace g6 := hid g6
        go_wp2
        exact ⟨⟨j + 1, a3, c3, xs', by simp, by omega, hid g1, hid g2, g3, g4, g5, g6⟩, by simp [numAt]; omega⟩
    · have h3 : ¬ (j : Int) < (l.length : Int) := by omega
      have ej : l.take j = l := List.take_of_length_le (by omega)
      rw [ej] at hmap
      have xr := HBR.out.cellF
      have yr := HBR.out.frz
      have zr := HBR.out.lt
      have xp := HBP.out.cellF
      have zp := HBP.out.lt
      go_wp2
      refine bodyPost_ret (v := .tuple #[.agg #[.slice a j c], .int .i64 0]) (by simp [results, Tryz.results11, go_sem, xr, zr, yr]) rfl ?_
      have hx := hxl.out
      subst hx
      have hk2 : ∀ {k : BK} {d e r : Value}, BkO wr (w.heap.size + 2) k d e r → BkO (wr.setCell ⟨w.heap.size + 1, 0, none⟩ (.slice a xs.length c)) w.heap.size k d e r := fun z => BkO.mono ⟨own_othP z.hd HBR.out (by decide), own_othP z.he HBR.out (by decide), own_othP z.hr HBR.out (by decide), z.ap⟩ (by omega)
      exact ⟨a, c, xs, rfl, hmap.out, ⟨own_mono (own_othP HLW.out.row HBR.out (by decide)) (by omega), fun x hx => hk2 (HLW.out.el x hx)⟩, Below.setCell hb.out (by show w.heap.size ≤ w.heap.size + 1; omega) _⟩
/-- A program, in memory. -/
structure PgR (w : World) (v : Value) (bs : List BV) : Prop where
  row : RowS w AnyZ 3 v bs.length (bs.flatMap cBV)
  el : ∀ x ∈ bs, BkR w x.k x.d x.e x.r
theorem PgR.kept {w w' : World} {v : Value} {bs : List BV} (h : PgR w v bs) (g : Below w.heap.size w w') : PgR w' v bs := ⟨h.row.kept g, fun x hx => (h.el x hx).kept g⟩
theorem LwO.prog {w : World} {base : Nat} {v : Value} {xs : List BV} (h : LwO w base v xs) : PgR w v xs := ⟨own_row h.row (fun _ _ => trivial), fun x hx => (h.el x hx).row⟩
theorem isSingleT (w : World) (k : Int) (h : 1 ≤ k ∧ k ≤ 16) : Calls Tryz.prog 127 #[.int .i64 k] w fun e w' => e = .returned (.bool true) ∧ w' = w := by
  have h1 : (1 ≤ k) = True := eq_true h.1
  have h2 : (k ≤ 16) = True := eq_true h.2
  go_enter Tryz.func127, Tryz.ntmps127
  go_wp2
  go_ret
  exact ⟨rfl, rfl⟩
theorem isFieldT (w : World) (k : Int) (h : 1 ≤ k ∧ k ≤ 536870911) : Calls Tryz.prog 129 #[.int .i64 k] w fun e w' => e = .returned (.bool true) ∧ w' = w := by
  have h1 : (1 ≤ k) = True := eq_true h.1
  have h2 : (k ≤ 536870911) = True := eq_true h.2
  go_enter Tryz.func129, Tryz.ntmps129
  go_wp2
  go_ret
  exact ⟨rfl, rfl⟩
/-- A tag of a field. -/
structure TagOk (t : Int) (n k : Int) : Prop where
  eq : t = tagV n k
  num : 1 ≤ n ∧ n ≤ 536870911
  kind : k = 0 ∨ k = 1 ∨ k = 2 ∨ k = 5
theorem i64_and7 (n : Int) : bits .and .i64 n 7 = n % 8 := by
  have h7 : (BitVec.ofInt 64 7).toNat = 2 ^ 3 - 1 := by decide
  have key : (BitVec.ofInt 64 n &&& BitVec.ofInt 64 7).toNat = (n % ((2 ^ 64 : Nat) : Int)).toNat % 2 ^ 3 := by
    rw [BitVec.toNat_and, BitVec.toNat_ofInt, h7, Nat.and_two_pow_sub_one_eq_mod]
  show IntKind.i64.wrap ((BitVec.ofInt 64 n &&& BitVec.ofInt 64 7).toNat : Nat) = n % 8
  rw [key, IntKind.wrap_i64]
  omega
theorem isTagT (w : World) (t n k : Int) (h : TagOk t n k) : Calls Tryz.prog 87 #[.int .i64 t] w fun e w' => e = .returned (.bool true) ∧ w' = w := by
  obtain ⟨e, hn, hk⟩ := h
  have h1 : bits .and .i64 t 7 = k := by rw [i64_and7, e]; unfold tagV; omega
  have h2 : t / 8 = n := by rw [e]; unfold tagV; omega
  have h3 : (1 ≤ n) = True := eq_true hn.1
  have h4 : (n ≤ 536870911) = True := eq_true hn.2
  clear e hn
  rcases hk with rfl | rfl | rfl | rfl
  all_goals
    go_enter Tryz.func87, Tryz.ntmps87
    go_wp2
    go_ret
    exact ⟨rfl, rfl⟩
theorem stepL (w : World) (op : Int) (ns : List Int) (hl : ns.length ≤ 4) (b : Nat) (hB : Blk w b 3 (ints ns)) : Calls Tryz.prog 118 #[.int .i64 op, .slice (some ⟨b, 0, none⟩) ns.length ns.length] w fun e w' => e = .returned (vIN (insV op ns)) ∧ Below w.heap.size w w' := stepT w op ns hl _ _ (ints_row ns hl hB)
theorem pg_at {w : World} {ba : Option Addr} {n bc : Nat} {bs : List BV} (h : PgR w (.slice ba n bc) bs) {k : Nat} (hk : k < bs.length) : ∃ b o da dc ea ec ra rc, ba = some ⟨b, o, none⟩ ∧ b < w.heap.size ∧ w.cell? ⟨b, o + k * 3, none⟩ = some (.slice da bs[k].k.dec.length dc) ∧ w.cell? ⟨b, o + k * 3 + 1, none⟩ = some (.slice ea bs[k].k.enc.length ec) ∧ w.cell? ⟨b, o + k * 3 + 2, none⟩ = some (.slice ra bs[k].k.rows.length rc) ∧ BkR w bs[k].k (.slice da bs[k].k.dec.length dc) (.slice ea bs[k].k.enc.length ec) (.slice ra bs[k].k.rows.length rc) := by
  obtain ⟨b, o, e, hc⟩ := rowAt (g := cBV) (fun _ => rfl) h.row (i := k) (x := bs[k]) (by simp [hk])
  have hb := h.el _ (List.getElem_mem hk)
  obtain ⟨da, dc, e1, -⟩ := rowS_sl hb.hd
  obtain ⟨ea, ec, e2, -⟩ := rowS_sl hb.he
  obtain ⟨ra, rc, e3, -⟩ := rowS_sl hb.hr
  have c0 := hc 0 _ rfl
  have c1 := hc 1 _ rfl
  have c2 := hc 2 _ rfl
  rw [e1] at c0
  rw [e2] at c1
  rw [e3] at c2
  rw [e1, e2, e3] at hb
  exact ⟨b, o, da, dc, ea, ec, ra, rc, e, World.block_lt_of_cell? _ _ c0, c0, c1, c2, hb⟩
theorem isEnumT (w : World) (bs : List BV) (ba : Option Addr) (bc : Nat) (h : PgR w (.slice ba bs.length bc) bs) (k : Nat) (hk : k < bs.length) (h1 : bs[k].k.dec.length = 0) (h2 : bs[k].k.enc.length = 0) : Calls Tryz.prog 128 #[.slice ba bs.length bc, .int .i64 (k : Int)] w fun e w' => e = .returned (.bool true) ∧ Below w.heap.size w w' := by
  obtain ⟨b, o, da, dc, ea, ec, ra, rc, rfl, hb, c0, c1, c2, -⟩ := pg_at h hk
  rw [h1] at c0
  rw [h2] at c1
  have r1 : (0 : Int) ≤ (k : Int) := by omega
  have r2 : (k : Int) < (bs.length : Int) := by omega
  generalize bs[k].k.rows.length = n3 at *
  clear h h1 h2
  go_enter Tryz.func128, Tryz.ntmps128
  go_wp2
  go_ret
  exact ⟨rfl, by exact blBy⟩
theorem isMessageT (w : World) (bs : List BV) (ba : Option Addr) (bc : Nat) (h : PgR w (.slice ba bs.length bc) bs) (k : Nat) (hk : k < bs.length) (h1 : 0 < bs[k].k.dec.length) (hz : bs[k].k.dec.length ≤ 100000 ∧ bs[k].k.enc.length ≤ 100000) : Calls Tryz.prog 130 #[.slice ba bs.length bc, .int .i64 (k : Int)] w fun e w' => e = .returned (.bool true) ∧ Below w.heap.size w w' := by
  obtain ⟨b, o, da, dc, ea, ec, ra, rc, rfl, hb, c0, c1, c2, -⟩ := pg_at h hk
  have r1 : (0 : Int) ≤ (k : Int) := by omega
  have r2 : (k : Int) < (bs.length : Int) := by omega
  generalize bs[k].k.rows.length = n3 at *
  generalize bs[k].k.dec.length = n1 at *
  generalize bs[k].k.enc.length = n2 at *
  have r3 : (0 : Int) < (n1 : Int) + (n2 : Int) := by omega
  have r4 : (n1 : Int) + (n2 : Int) ≤ 9223372036854775807 := by omega
  have r5 : (n1 : Int) ≤ 100000 := by omega
  have r6 : (n2 : Int) ≤ 100000 := by omega
  clear h h1 hz
  go_enter Tryz.func130, Tryz.ntmps130
  go_wp2
  go_ret
  exact ⟨ret_bool (by first | rfl | exact decide_eq_true r3 | (simp; omega)), by exact blBy⟩
/-- A block that a kind needs. -/
def OfKind (bs : List BV) (kind ref : Int) : Prop := 1 ≤ kind ∧ kind ≤ 17 ∧ ∃ k : Nat, ref = (k : Int) ∧ (kind = 16 → ∃ h : k < bs.length, bs[k].k.dec.length = 0 ∧ bs[k].k.enc.length = 0) ∧ (kind = 17 → ∃ h : k < bs.length, 0 < bs[k].k.dec.length ∧ bs[k].k.dec.length ≤ 100000 ∧ bs[k].k.enc.length ≤ 100000) ∧ (kind ≠ 16 → kind ≠ 17 → ref = 0)
theorem isOfKindT (w : World) (bs : List BV) (ba : Option Addr) (bc : Nat) (h : PgR w (.slice ba bs.length bc) bs) (kind ref : Int) (hk : OfKind bs kind ref) : Calls Tryz.prog 133 #[.slice ba bs.length bc, .int .i64 kind, .int .i64 ref] w fun e w' => e = .returned (.bool true) ∧ Below w.heap.size w w' := by
  obtain ⟨g1, g2, k, rfl, q16, q17, q0⟩ := hk
  by_cases h16 : kind = 16
  · obtain ⟨hl, a1, a2⟩ := q16 h16
    have HE := hid (fun W hW => isEnumT W bs ba bc (h.kept hW) k hl a1 a2)
    subst h16
    clear h q16 q17 q0
    go_enter Tryz.func133, Tryz.ntmps133
    go_wp2_with fail
    refine (HE.out _ (by exact blBy)).mono ?_
    rintro e w1 ⟨rfl, hb⟩
    go_wp2
    go_ret
    exact ⟨rfl, hb⟩
  by_cases h17 : kind = 17
  · obtain ⟨hl, a1, a2⟩ := q17 h17
    have HE := hid (fun W hW => isMessageT W bs ba bc (h.kept hW) k hl a1 a2)
    subst h17
    clear h q16 q17 q0
    go_enter Tryz.func133, Tryz.ntmps133
    go_wp2_with fail
    refine (HE.out _ (by exact blBy)).mono ?_
    rintro e w1 ⟨rfl, hb⟩
    go_wp2
    go_ret
    exact ⟨rfl, hb⟩
  have e0 := q0 h16 h17
  obtain rfl : k = 0 := by omega
  have k16 : (kind == 16) = false := by simpa using h16
  have k17 : (kind == 17) = false := by simpa using h17
  have r1 : (1 ≤ kind) = True := eq_true g1
  have r2 : (kind ≤ 16) = True := eq_true (by
    rcases Int.lt_or_le 16 kind with q | q
    · exact absurd (Int.le_antisymm g2 q) h17
    · exact q)
  clear h q16 q17 q0 e0
  go_enter Tryz.func133, Tryz.ntmps133
  go_wp2
  go_ret
  exact ⟨ret_bool (by first | rfl | simp), by first | exact Below.refl _ _ | exact blBy⟩
theorem areRowSymbolsT (w : World) (bs : List BV) (ba : Option Addr) (bc : Nat) (h : PgR w (.slice ba bs.length bc) bs) (kind num : Int) (hk : (kind = 16 ∧ ∃ k : Nat, num = (k : Int) + 1 ∧ ∃ h : k < bs.length, bs[k].k.dec.length = 0 ∧ bs[k].k.enc.length = 0) ∨ (kind ≠ 16 ∧ num = 0)) (h63 : num ≤ 1000) : Calls Tryz.prog 131 #[.slice ba bs.length bc, .int .i64 kind, .int .i64 num] w fun e w' => e = .returned (.bool true) ∧ Below w.heap.size w w' := by
  rcases hk with ⟨rfl, k, rfl, hl, a1, a2⟩ | ⟨h16, rfl⟩
  · have HE := hid (fun W hW => isEnumT W bs ba bc (h.kept hW) k hl a1 a2)
    clear h
    go_enter Tryz.func131, Tryz.ntmps131
    go_wp2_with (first | (go_at_call 128; (try simp only [Int.add_sub_cancel]); refine (HE.out _ (by first | exact Below.refl _ _ | exact blBy)).mono ?_; rintro e w1 ⟨rfl, hb⟩))
    go_ret
    exact ⟨rfl, hb⟩
  · have k16 : (kind == 16) = false := by simpa using h16
    clear h
    go_enter Tryz.func131, Tryz.ntmps131
    go_wp2
    go_ret
    exact ⟨ret_bool (by first | rfl | simp), by first | exact Below.refl _ _ | exact blBy⟩
end Go.Proofs.YtmcbllannkhfaaaGreatDoor
