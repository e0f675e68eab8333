/-
  The examples' block.
  The law's own first question.
  What a lowered message looks like.
  PlanShaped.
-/
import Derived.Test.YtmcbllannkhfaaaGreatDoorCKK
import Derived.Test.YtmcbllannkhfaaaGreatDoorCTY
namespace Go.Proofs.YtmcbllannkhfaaaGreatDoor
open Go.RowKit
set_option maxRecDepth 1000000
set_option linter.unusedVariables false
set_option linter.unusedSimpArgs false
set_option maxHeartbeats 1000000
def simBK : BK := ⟨decL simF, encL simF, []⟩
theorem simD : (#[.int .i64 1, .int .i64 0, .int .i64 0, .int .i64 0, .int .i64 0, .int .i64 2, .int .i64 8, .int .i64 5, .int .i64 0, .int .i64 0, .int .i64 5, .int .i64 2, .int .i64 0, .int .i64 0, .int .i64 0, .int .i64 7, .int .i64 1, .int .i64 0, .int .i64 0, .int .i64 0, .int .i64 4, .int .i64 0, .int .i64 0, .int .i64 0, .int .i64 0, .int .i64 2, .int .i64 16, .int .i64 9, .int .i64 0, .int .i64 0, .int .i64 5, .int .i64 4, .int .i64 0, .int .i64 0, .int .i64 0, .int .i64 8, .int .i64 2, .int .i64 0, .int .i64 0, .int .i64 0, .int .i64 4, .int .i64 0, .int .i64 0, .int .i64 0, .int .i64 0, .int .i64 2, .int .i64 18, .int .i64 12, .int .i64 0, .int .i64 0, .int .i64 11, .int .i64 2, .int .i64 4, .int .i64 0, .int .i64 0, .int .i64 4, .int .i64 0, .int .i64 0, .int .i64 0, .int .i64 0, .int .i64 2, .int .i64 26, .int .i64 15, .int .i64 0, .int .i64 0, .int .i64 10, .int .i64 3, .int .i64 1, .int .i64 0, .int .i64 0, .int .i64 4, .int .i64 0, .int .i64 0, .int .i64 0, .int .i64 0, .int .i64 13, .int .i64 0, .int .i64 0, .int .i64 0, .int .i64 0, .int .i64 4, .int .i64 0, .int .i64 0, .int .i64 0, .int .i64 0] : Array Value) = (simBK.dec.flatMap cIN).toArray := by kernel_rfl
theorem simE' : (#[.int .i64 16, .int .i64 1, .int .i64 3, .int .i64 2, .int .i64 0, .int .i64 17, .int .i64 8, .int .i64 0, .int .i64 0, .int .i64 0, .int .i64 18, .int .i64 2, .int .i64 0, .int .i64 0, .int .i64 0, .int .i64 16, .int .i64 2, .int .i64 5, .int .i64 0, .int .i64 0, .int .i64 21, .int .i64 18, .int .i64 4, .int .i64 0, .int .i64 0, .int .i64 16, .int .i64 3, .int .i64 8, .int .i64 0, .int .i64 0, .int .i64 17, .int .i64 26, .int .i64 0, .int .i64 0, .int .i64 0, .int .i64 19, .int .i64 1, .int .i64 0, .int .i64 0, .int .i64 0, .int .i64 23, .int .i64 0, .int .i64 0, .int .i64 0, .int .i64 0, .int .i64 24, .int .i64 0, .int .i64 0, .int .i64 0, .int .i64 0] : Array Value) = (simBK.enc.flatMap cIN).toArray := by kernel_rfl
theorem simDl : simBK.dec.length = 17 := by kernel_rfl
theorem simEl : simBK.enc.length = 10 := by kernel_rfl
def LwA (w : World) (e : Ending) (w' : World) : Prop := ∃ da ea, e = .returned (.agg #[.slice da simBK.dec.length 17, .slice ea simBK.enc.length 10, .slice none simBK.rows.length 0]) ∧ BkR w' simBK (.slice da simBK.dec.length 17) (.slice ea simBK.enc.length 10) (.slice none simBK.rows.length 0) ∧ Below w.heap.size w w'
theorem LwA.mk {w w' : World} {h1 h2 : Nat} (B1 : Blk w' h1 57 #[.int .i64 1, .int .i64 0, .int .i64 0, .int .i64 0, .int .i64 0, .int .i64 2, .int .i64 8, .int .i64 5, .int .i64 0, .int .i64 0, .int .i64 5, .int .i64 2, .int .i64 0, .int .i64 0, .int .i64 0, .int .i64 7, .int .i64 1, .int .i64 0, .int .i64 0, .int .i64 0, .int .i64 4, .int .i64 0, .int .i64 0, .int .i64 0, .int .i64 0, .int .i64 2, .int .i64 16, .int .i64 9, .int .i64 0, .int .i64 0, .int .i64 5, .int .i64 4, .int .i64 0, .int .i64 0, .int .i64 0, .int .i64 8, .int .i64 2, .int .i64 0, .int .i64 0, .int .i64 0, .int .i64 4, .int .i64 0, .int .i64 0, .int .i64 0, .int .i64 0, .int .i64 2, .int .i64 18, .int .i64 12, .int .i64 0, .int .i64 0, .int .i64 11, .int .i64 2, .int .i64 4, .int .i64 0, .int .i64 0, .int .i64 4, .int .i64 0, .int .i64 0, .int .i64 0, .int .i64 0, .int .i64 2, .int .i64 26, .int .i64 15, .int .i64 0, .int .i64 0, .int .i64 10, .int .i64 3, .int .i64 1, .int .i64 0, .int .i64 0, .int .i64 4, .int .i64 0, .int .i64 0, .int .i64 0, .int .i64 0, .int .i64 13, .int .i64 0, .int .i64 0, .int .i64 0, .int .i64 0, .int .i64 4, .int .i64 0, .int .i64 0, .int .i64 0, .int .i64 0]) (B2 : Blk w' h2 57 #[.int .i64 16, .int .i64 1, .int .i64 3, .int .i64 2, .int .i64 0, .int .i64 17, .int .i64 8, .int .i64 0, .int .i64 0, .int .i64 0, .int .i64 18, .int .i64 2, .int .i64 0, .int .i64 0, .int .i64 0, .int .i64 16, .int .i64 2, .int .i64 5, .int .i64 0, .int .i64 0, .int .i64 21, .int .i64 18, .int .i64 4, .int .i64 0, .int .i64 0, .int .i64 16, .int .i64 3, .int .i64 8, .int .i64 0, .int .i64 0, .int .i64 17, .int .i64 26, .int .i64 0, .int .i64 0, .int .i64 0, .int .i64 19, .int .i64 1, .int .i64 0, .int .i64 0, .int .i64 0, .int .i64 23, .int .i64 0, .int .i64 0, .int .i64 0, .int .i64 0, .int .i64 24, .int .i64 0, .int .i64 0, .int .i64 0, .int .i64 0]) (hb : Below w.heap.size w w') : LwA w (.returned (.agg #[.slice (some ⟨h1, 0, none⟩) 17 17, .slice (some ⟨h2, 0, none⟩) 10 10, .slice none 0 0])) w' := by
  refine ⟨some ⟨h1, 0, none⟩, some ⟨h2, 0, none⟩, by rw [simDl, simEl]; rfl, ⟨?_, ?_, rowS_nil _ _ _⟩, hb⟩
  · rw [simDl]
    exact rowOf' B1 5 17 _ simD (by rw [flatM_len (g := cIN) (k := 5) (fun _ => rfl), simDl]) (by decide)
  · rw [simEl]
    exact rowOf' B2 5 10 _ simE' (by rw [flatM_len (g := cIN) (k := 5) (fun _ => rfl), simEl]) (by decide)
theorem loweredW (w : World) : Calls Tryz.prog 23 #[] w (LwA w) := by
  go_enter Tryz.func23, Tryz.ntmps23
  go_wp2
  refine bodyPost_ret (v := .agg #[.slice (some ⟨w.heap.size + 1, 0, none⟩) 17 17, .slice (some ⟨w.heap.size + 1 + 1, 0, none⟩) 10 10, .slice none 0 0]) (by simp [results, Tryz.results23, go_sem]) rfl ?_
  refine LwA.mk ?_ ?_ (by exact blBy)
  · exact (Blk.newAt (by simp)).kept (below_alloc _)
  · exact Blk.newAt (by simp)
/-- The law's own first question. -/
theorem awakeW (w : World) (m : Int) (hm : w.cell? ⟨0, 0, none⟩ = some (.int .i64 m)) : Calls Tryz.prog 12 #[] w fun e w' => e = .returned (.bool true) ∧ Below w.heap.size w w' := by
  have HL : Hid (∀ W W' : World, Below w.heap.size w W → TbR W' (.slice (some ⟨W.heap.size + 1 + 1 + 1, 0, none⟩) (simL W.heap.size).length 2) (simL W.heap.size) → Below w.heap.size w W' → Calls Tryz.prog 9 #[.agg #[.slice (some ⟨W.heap.size + 1 + 1 + 1, 0, none⟩) (simL W.heap.size).length 2], .int .i64 1] W' (LowA W' simBK 0)) := hid fun W W' hW ht hW' => by
    have := lowerTypeT W' (simL W.heap.size) _ 2 ht (simOk _) m (cell_below hm hW') 1
    rw [lowE_ok ⟨simGood _, by decide, by show (1 : Int) < 2; decide⟩] at this
    have e : lowBK (simL W.heap.size) 1 = simBK := lowBK_at (k := 1) (simGood _) (show 1 < 2 by decide)
    rw [e] at this
    exact this
  go_enter Tryz.func12, Tryz.ntmps12
  go_wp2_with fail
  refine (simpleW _).mono ?_
  rintro e w1 ⟨rfl, ht, hb1⟩
  have HT := hid ht
  replace hb1 := hid hb1
  clear ht
  go_wp2_with fail
  refine (HL.out w w1 (Below.refl _ _) HT.out hb1.out).mono ?_
  rintro e w2 ⟨da, dc, ea, ec, ra, rc, rfl, ho, hb2⟩
  replace ho := hid ho.row
  replace hb2 : Hid (Below w.heap.size w w2) := hid (bl_then hb1.out hb2)
  clear HL HT hb1
  go_wp2_with fail
  have Bb : Hid (Blk (w2.alloc (.cells #[.slice da simBK.dec.length dc, .slice ea simBK.enc.length ec, .slice ra simBK.rows.length rc] 25)) w2.heap.size 25 #[.slice da simBK.dec.length dc, .slice ea simBK.enc.length ec, .slice ra simBK.rows.length rc]) := hid (Blk.new _ _ _)
  replace hb2 : Hid (Below w.heap.size w (w2.alloc (.cells #[.slice da simBK.dec.length dc, .slice ea simBK.enc.length ec, .slice ra simBK.rows.length rc] 25))) := hid (by have := hb2.out; exact blBy)
  replace ho : Hid (BkR (w2.alloc (.cells #[.slice da simBK.dec.length dc, .slice ea simBK.enc.length ec, .slice ra simBK.rows.length rc] 25)) simBK (.slice da simBK.dec.length dc) (.slice ea simBK.enc.length ec) (.slice ra simBK.rows.length rc)) := hid (ho.out.kept (below_alloc _))
  generalize w2.alloc (.cells #[.slice da simBK.dec.length dc, .slice ea simBK.enc.length ec, .slice ra simBK.rows.length rc] 25) = W at *
  generalize w2.heap.size = q at *
  have e0 := Bb.out.cell 0 _ rfl
  have e1 := Bb.out.cell 1 _ rfl
  have e2 := Bb.out.cell 2 _ rfl
  simp only [List.getElem_toArray, List.getElem_cons_succ, List.getElem_cons_zero] at e0 e1 e2
  go_region_held3 (fun W => W.cell? ⟨q, 0, none⟩ = some (.slice da simBK.dec.length dc) ∧ W.cell? ⟨q, 1, none⟩ = some (.slice ea simBK.enc.length ec) ∧ W.cell? ⟨q, 2, none⟩ = some (.slice ra simBK.rows.length rc)) (first | exact ⟨e0, e1, e2⟩) (first | (go_at_call 23; refine (loweredW _).mono ?_; rintro e w3 ⟨pa, qa, rfl, hl, hbx⟩; replace e0 := cell_below e0 (below_trans (by first | exact Below.refl _ _ | exact below_drew1 _ | exact below_drewN _ _) hbx); replace e1 := cell_below e1 (below_trans (by first | exact Below.refl _ _ | exact below_drew1 _ | exact below_drewN _ _) hbx); replace e2 := cell_below e2 (below_trans (by first | exact Below.refl _ _ | exact below_drew1 _ | exact below_drewN _ _) hbx); replace ho := hid (ho.out.kept (below_trans (by first | exact Below.refl _ _ | exact below_drew1 _ | exact below_drewN _ _) hbx)); replace hb2 := hid (below_trans hb2.out (below_trans (by first | exact Below.refl _ _ | exact below_drew1 _ | exact below_drewN _ _) hbx)); have HLW := hid hl; clear hl hbx) | (go_at_call 13; refine (sameBlockD _ simBK simBK _ _ _ _ _ _ _ _ _ _ _ _ ho.out HLW.out).mono ?_; rintro e w4 ⟨r, rfl, hr, hbx⟩; obtain rfl : r = true := hr.2 rfl; replace e0 := cell_below e0 hbx; replace e1 := cell_below e1 hbx; replace e2 := cell_below e2 hbx; replace hb2 := hid (below_trans hb2.out hbx); clear hr hbx))
  all_goals
    go_wp2
    go_ret
    exact ⟨rfl, hb2.out⟩
def isCase (x : IN) : Bool := x.op == 2
def isHas (x : IN) : Bool := x.op == 16
def caseT (l : List IN) : List Int := (l.filter isCase).map IN.a
def hasT (l : List IN) : List Int := (l.filter isHas).map IN.a
theorem caseT_app (l r : List IN) : caseT (l ++ r) = caseT l ++ caseT r := by simp [caseT]
theorem hasT_app (l r : List IN) : hasT (l ++ r) = hasT l ++ hasT r := by simp [hasT]
theorem clrL_no (fs : List FT) (f : FT) : caseT (clrL fs f) = [] := by
  unfold clrL
  split
  · unfold caseT
    rw [List.map_eq_nil_iff, List.filter_eq_nil_iff]
    intro x hx
    simp at hx
    obtain ⟨o, _, rfl⟩ := hx
    simp [isCase, clrS, insV]
  · rfl
theorem valL_no (fs : List FT) (f : FT) : caseT (valL fs f) = [] := by
  unfold valL
  split
  · rfl
  · split
    · rw [caseT_app, clrL_no]; rfl
    · rw [caseT_app, caseT_app, caseT_app, clrL_no]
      have : caseT [insV (putV f.lab) [f.num]] = [] := by
        unfold putV
        split <;> rfl
      rw [this]
      split <;> rfl
theorem caseL_t (n : Nat) (t : Int) (b : List IN) (h : caseT b = []) : caseT (caseL n t b) = [t] := by
  unfold caseL
  rw [show insV 2 [t, ((n + 1 + b.length + 1 : Nat) : Int)] :: (b ++ [insV 4 [0]]) = [insV 2 [t, ((n + 1 + b.length + 1 : Nat) : Int)]] ++ (b ++ [insV 4 [0]]) from rfl, caseT_app, caseT_app, h]
  rfl
def tagsF (f : FT) : List Int := tagV f.num (wireV f) :: (if rowsV f = true then [tagV f.num 2] else [])
theorem decS_t (fs : List FT) (acc : List IN) (f : FT) : caseT (decS fs acc f) = caseT acc ++ tagsF f := by
  unfold decS case2 case1 tagsF
  split
  · rw [caseT_app, caseT_app, caseL_t _ _ _ (valL_no fs f), caseL_t _ _ _ (by rfl), List.append_assoc]
    rfl
  · rw [caseT_app, caseL_t _ _ _ (valL_no fs f)]
theorem decF_t (fs : List FT) : ∀ (l : List FT) (acc : List IN), caseT (l.foldl (decS fs) acc) = caseT acc ++ l.flatMap tagsF
  | [], acc => by simp
  | f :: l, acc => by rw [List.foldl_cons, decF_t fs l, decS_t, List.flatMap_cons, List.append_assoc]
theorem decL_t (fs : List FT) : caseT (decL fs) = fs.flatMap tagsF := by
  unfold decL
  rw [caseT_app, decF_t]
  simp [caseT, isCase, insV]
theorem wrtL_no (f : FT) : hasT (wrtL f) = [] := by
  unfold wrtL
  split
  · rfl
  · split
    · rfl
    · split
      · rfl
      · split <;> rfl
theorem encF_t : ∀ (l : List FT) (acc : List IN), hasT (l.foldl encS acc) = hasT acc ++ l.map FT.num
  | [], acc => by simp
  | f :: l, acc => by
    rw [List.foldl_cons, encF_t l, List.map_cons]
    unfold encS
    rw [hasT_app, show insV 16 [f.num, ((acc.length + 1 + (wrtL f).length : Nat) : Int), if f.lab = 0 then f.kind else 0] :: wrtL f = [insV 16 [f.num, ((acc.length + 1 + (wrtL f).length : Nat) : Int), if f.lab = 0 then f.kind else 0]] ++ wrtL f from rfl, hasT_app, wrtL_no]
    simp [hasT, isHas, insV]
theorem encL_t (fs : List FT) : hasT (encL fs) = fs.map FT.num := by
  unfold encL
  rw [hasT_app, encF_t]
  simp [hasT, isHas, insV]
/-- What is asked of two Cases one behind the other. -/
def ordP (a b : Int) : Prop := a / 8 < b / 8 ∨ (a / 8 = b / 8 ∧ b % 8 = 2 ∧ a % 8 ≠ 2)
theorem tagV_div (n k : Int) (hk : 0 ≤ k ∧ k < 8) : tagV n k / 8 = n ∧ tagV n k % 8 = k := by unfold tagV; omega
theorem rowsV_wire (f : FT) (hf : FOk f) (h : rowsV f = true) : wireV f ≠ 2 := by
  unfold rowsV knum at h
  simp at h
  unfold wireV kwire
  rw [if_neg (by omega)]
  split
  · omega
  · split
    · omega
    · split <;> omega
/-- Consecutive elements of a list. -/
def nextP (R : Int → Int → Prop) : List Int → Prop
  | [] => True
  | [_] => True
  | a :: b :: r => R a b ∧ nextP R (b :: r)
theorem nextP_at {R : Int → Int → Prop} : ∀ (l : List Int), nextP R l → ∀ i (h : i + 1 < l.length), R l[i] l[i + 1]
  | [], _, i, h => by simp at h
  | [_], _, i, h => by simp at h
  | a :: b :: r, hn, 0, h => hn.1
  | a :: b :: r, hn, i + 1, h => nextP_at (b :: r) hn.2 i (by simpa using h)
theorem tags_next : ∀ (fs : List FT), (∀ f ∈ fs, FOk f) → fs.Pairwise (fun a b => a.num < b.num) → nextP ordP (fs.flatMap tagsF) ∧ ∀ t r, fs.flatMap tagsF = t :: r → ∃ f, fs.head? = some f ∧ t / 8 = f.num
  | [], _, _ => ⟨trivial, fun t r e => by simp at e⟩
  | f :: l, hf, hp => by
    have hf0 := hf f (by simp)
    obtain ⟨h1, h2⟩ := tags_next l (fun g hg => hf g (by simp [hg])) (List.pairwise_cons.1 hp).2
    have hlt := (List.pairwise_cons.1 hp).1
    have hw := tagV_div f.num (wireV f) (wireV_le f hf0)
    have h2' := tagV_div f.num 2 (by decide)
    rw [List.flatMap_cons]
    refine ⟨?_, fun t r e => ⟨f, rfl, ?_⟩⟩
    · have key : ∀ (t : Int), t / 8 = f.num → nextP ordP (t :: l.flatMap tagsF) := by
        intro t ht
        cases hc : l.flatMap tagsF with
        | nil => trivial
        | cons u r =>
          rw [hc] at h1
          refine ⟨.inl ?_, h1⟩
          obtain ⟨g, hg, eg⟩ := h2 u r hc
          have hm : g ∈ l := List.mem_of_head? hg
          have := hlt g hm
          omega
      unfold tagsF
      by_cases hr : rowsV f = true
      · rw [if_pos hr]
        exact ⟨.inr ⟨by omega, by omega, by have := rowsV_wire f hf0 hr; omega⟩, key _ h2'.1⟩
      · rw [if_neg hr]
        exact key _ hw.1
    · unfold tagsF at e
      cases e
      exact hw.1
theorem rise_pair {fs : List FT} (h : Rise fs) : fs.Pairwise (fun a b => a.num < b.num) := by
  rw [List.pairwise_iff_getElem]
  intro i j hi hj hij
  exact h i j hij hj hi
theorem decF_head (fs : List FT) : ∀ (l : List FT) (acc : List IN), ∃ r, l.foldl (decS fs) acc = acc ++ r
  | [], acc => ⟨[], by simp⟩
  | f :: l, acc => by
    obtain ⟨r, e⟩ := decF_head fs l (decS fs acc f)
    rw [List.foldl_cons, e]
    unfold decS case2 case1
    split
    · exact ⟨_, by rw [List.append_assoc, List.append_assoc]⟩
    · exact ⟨_, by rw [List.append_assoc]⟩
theorem decL_shape (fs : List FT) : ∃ r, decL fs = insV 1 [] :: (r ++ [insV 13 [], insV 4 [0]]) := by
  obtain ⟨r, e⟩ := decF_head fs fs [insV 1 []]
  exact ⟨r, by unfold decL; rw [e]; rfl⟩
theorem planShapedW (w : World) (l : List TV) (ta : Option Addr) (tc : Nat) (h : TbR w (.slice ta l.length tc) l) (hk : ∀ x ∈ l, OkV x) (m : Int) (hm : w.cell? ⟨0, 0, none⟩ = some (.int .i64 m)) (i : Int) : Calls Tryz.prog 7 #[.agg #[.slice ta l.length tc], .int .i64 i] w fun e w' => e = .returned (.bool true) ∧ Below w.heap.size w w' := by
  have HA : Hid (∀ W, Below w.heap.size w W → Calls Tryz.prog 12 #[] W fun e w' => e = .returned (.bool true) ∧ Below W.heap.size W w') := hid fun W hW => awakeW W m (cell_below hm hW)
  have HLT : Hid (∀ W, Below w.heap.size w W → Calls Tryz.prog 9 #[.agg #[.slice ta l.length tc], .int .i64 i] W (LowA W (lowBK l i) (lowE l i))) := hid fun W hW => lowerTypeT W l ta tc (h.kept hW) hk m (cell_below hm hW) i
  have HT := hid h
  clear h hk hm
  by_cases hok : goodB l = true ∧ 0 ≤ i ∧ i < l.length
  case neg =>
    rw [lowBK_no hok, lowE_no hok] at HLT
    go_enter Tryz.func7, Tryz.ntmps7
    go_wp2_with fail
    refine (HA.out _ (by exact blBy)).mono ?_
    rintro e w1 ⟨rfl, hb1⟩
    have Bt : Blk w1 w.heap.size 31 #[.slice ta l.length tc] := (Blk.new _ _ _).kept hb1
    replace hb1 : Hid (Below w.heap.size w w1) := hid (bl_then (by exact blBy) hb1)
    have xt := Bt.cellF
    have zt := Bt.lt
    go_wp2_with fail
    refine (HLT.out _ (by have := hb1.out; exact blBy)).mono ?_
    rintro e w2 ⟨da, dc, ea, ec, ra, rc, rfl, ho, hb2⟩
    replace hb2 : Hid (Below w.heap.size w w2) := hid (bl_then (by have := hb1.out; exact blBy) hb2)
    clear xt zt
    go_wp2
    go_ret
    exact ⟨rfl, by have := hb2.out; exact blBy⟩
  have HX : Hid (lowE l i = 0) := hid (lowE_ok hok)
  obtain ⟨hg, h0, hi⟩ := hok
  obtain ⟨k, rfl⟩ : ∃ k : Nat, i = (k : Int) := ⟨i.toNat, by omega⟩
  have hkl : k < l.length := by omega
  rw [HX.out, lowBK_at hg hkl] at HLT
  cases he : l[k].t.enum with
  | true =>
    have hE := goodP_enum hg hkl he
    have hs : (rowsL l[k].t.ss).length = l[k].t.ss.length := by rw [(rowsL_perm _).length_eq, List.length_map]
    have HR : Hid (0 < (rowsL l[k].t.ss).length) := hid (by rw [hs]; exact hE.1)
    have e2 : loBK l[k].t = ⟨[], [], rowsL l[k].t.ss⟩ := by unfold loBK; rw [if_pos he]
    rw [e2] at HLT
    clear hE hs e2 he
    generalize rowsL l[k].t.ss = rs at *
    have r0 : (0 : Int) < (rs.length : Int) := by have := HR.out; omega
    go_enter Tryz.func7, Tryz.ntmps7
    go_wp2_with fail
    refine (HA.out _ (by exact blBy)).mono ?_
    rintro e w1 ⟨rfl, hb1⟩
    have Bt : Blk w1 w.heap.size 31 #[.slice ta l.length tc] := (Blk.new _ _ _).kept hb1
    replace hb1 : Hid (Below w.heap.size w w1) := hid (bl_then (by exact blBy) hb1)
    have xt := Bt.cellF
    have zt := Bt.lt
    go_wp2_with fail
    refine (HLT.out _ (by have := hb1.out; exact blBy)).mono ?_
    rintro e w2 ⟨da, dc, ea, ec, ra, rc, rfl, ho, hb2⟩
    replace hb2 : Hid (Below w.heap.size w w2) := hid (bl_then (by have := hb1.out; exact blBy) hb2)
    clear xt zt
    go_wp2
    go_ret
    exact ⟨ret_bool (decide_eq_true HR.out), by have := hb2.out; exact blBy⟩
  | false =>
  obtain ⟨hl, hri, hfo⟩ := goodP_msg hg hkl he
  have e2 : loBK l[k].t = ⟨decL l[k].t.fs, encL l[k].t.fs, []⟩ := by unfold loBK; rw [if_neg (by rw [he]; simp)]
  rw [e2] at HLT
  clear e2 he hg
  have HFS : Hid (∀ W, Below w.heap.size w W → ∃ fa fc, RowS W AnyZ 6 (.slice ta l.length tc) l.length (l.flatMap cTV) ∧ l[k].f = .slice fa l[k].t.fs.length fc) := hid fun W hW => by
    obtain ⟨fa, fc, ef, -⟩ := rowS_sl (HT.out.ty _ (List.getElem_mem hkl)).f
    exact ⟨fa, fc, (HT.out.kept hW).row, ef⟩
  obtain ⟨r, hshape⟩ := decL_shape l[k].t.fs
  obtain ⟨tn, -⟩ := tags_next l[k].t.fs hfo (rise_pair hri)
  rw [← decL_t] at tn
  have hn := encL_t l[k].t.fs
  generalize hD : decL l[k].t.fs = D at *
  generalize hE : encL l[k].t.fs = E at *
  go_enter Tryz.func7, Tryz.ntmps7
  go_wp2_with fail
  refine (HA.out _ (by exact blBy)).mono ?_
  rintro e w1 ⟨rfl, hb1⟩
  have Bt : Blk w1 w.heap.size 31 #[.slice ta l.length tc] := (Blk.new _ _ _).kept hb1
  replace hb1 : Hid (Below w.heap.size w w1) := hid (bl_then (by exact blBy) hb1)
  have xt := Bt.cellF
  have zt := Bt.lt
  go_wp2_with fail
  refine (HLT.out _ (by have := hb1.out; exact blBy)).mono ?_
  rintro e w2 ⟨da, dc, ea, ec, ra, rc, rfl, ho, hb2⟩
  replace Bt := Bt.kept hb2
  replace hb2 : Hid (Below w.heap.size w w2) := hid (bl_then (by have := hb1.out; exact blBy) hb2)
  have HRB := hid ho.row
  clear xt zt ho
  dsimp only
  have hb3 : Hid (Below w.heap.size w (w2.alloc (.cells #[.slice da D.length dc, .slice ea E.length ec, .slice ra 0 rc] 25))) := hid (by have := hb2.out; exact blBy)
  have Bb : Hid (Blk (w2.alloc (.cells #[.slice da D.length dc, .slice ea E.length ec, .slice ra 0 rc] 25)) w2.heap.size 25 #[.slice da D.length dc, .slice ea E.length ec, .slice ra 0 rc]) := hid (Blk.new _ _ _)
  replace Bt := hid (Bt.kept (below_alloc (.cells #[.slice da D.length dc, .slice ea E.length ec, .slice ra 0 rc] 25)))
  have hnD : D.length = r.length + 3 := by rw [hshape]; simp
  have hD0 : D[0]? = some (insV 1 []) := by rw [hshape]; rfl
  have hD1 : D[D.length - 2]? = some (insV 13 []) := by rw [hnD, hshape]; simp
  have hD2 : D[D.length - 1]? = some (insV 4 [0]) := by rw [hnD, hshape]; simp
  obtain ⟨pb, po, epb, c0⟩ := rowAt (g := cIN) (fun _ => rfl) HRB.out.hd hD0
  obtain ⟨pb1, po1, epb1, c1⟩ := rowAt (g := cIN) (fun _ => rfl) HRB.out.hd hD1
  obtain ⟨pb2, po2, epb2, c2⟩ := rowAt (g := cIN) (fun _ => rfl) HRB.out.hd hD2
  subst epb
  cases epb1
  cases epb2
  replace c0 := c0 0 _ rfl
  replace c1 := c1 0 _ rfl
  replace c2 := c2 0 _ rfl
  simp only [Nat.zero_mul, Nat.add_zero, insV] at c0 c1 c2
  obtain ⟨n, en⟩ : ∃ n, n = D.length := ⟨_, rfl⟩
  obtain ⟨n1, en1⟩ : ∃ n1, n1 = D.length - 2 := ⟨_, rfl⟩
  obtain ⟨n2, en2⟩ : ∃ n2, n2 = D.length - 1 := ⟨_, rfl⟩
  have k1 : ((n : Int) == 0) = false := by rw [beq_eq_false_iff_ne]; omega
  have k2 : ((n : Int) < 3) = False := eq_false (by omega)
  have k3 : (n = 0) = False := eq_false (by omega)
  have k4 : (n : Int) - 2 = (n1 : Int) := by omega
  have k5 : (n : Int) - 1 = (n2 : Int) := by omega
  have k6 : (n1 : Int) < (n : Int) := by omega
  have k7 : (n2 : Int) < (n : Int) := by omega
  have k8 : (0 : Int) < (n : Int) := by omega
  have k9 : (n : Int) ≤ 9223372036854775807 := by obtain ⟨_, _, _, hh⟩ := rowS_sl HRB.out.hd; dsimp only at hh; omega
  rw [← en1] at c1
  rw [← en2] at c2
  rw [← en] at HRB Bb Bt hb3 ⊢
  replace en := hid en
  clear hnD hD0 hD1 hD2 en1 en2 hshape
  have xb := Bb.out.cellF
  have zb := Bb.out.lt
  have hpb : pb < w2.heap.size := World.block_lt_of_cell? _ _ c0
  go_wp2_with fail
  have HRW : Hid (BkR (w2.alloc (.cells #[.slice (some ⟨pb, po, none⟩) n dc, .slice ea E.length ec, .slice ra 0 rc] 25)) ⟨D, E, []⟩ (.slice (some ⟨pb, po, none⟩) n dc) (.slice ea E.length ec) (.slice ra 0 rc)) := hid (HRB.out.kept (below_alloc _))
  clear HRB xb zb c0 c1 c2 k1 k2 k3 k4 k5 k6 k7 k8 hpb hb1
  generalize w2.alloc (.cells #[.slice (some ⟨pb, po, none⟩) n dc, .slice ea E.length ec, .slice ra 0 rc] 25) = W at *
  generalize w2.heap.size = q at *
  have hq : q < W.heap.size := Bb.out.lt
  have HCL : Hid (∀ l : List IN, l.length ≤ 100000 → (caseT l).length ≤ 100000 ∧ (hasT l).length ≤ 100000) := hid fun l h => by
    have h1 := List.length_filter_le isCase l
    have h2 := List.length_filter_le isHas l
    simp only [caseT, hasT, List.length_map]
    omega
  have HDN : Hid (D.length ≤ 100000 ∧ E.length ≤ 100000) := hid (by
    have h1 := decF_len l[k].t.fs l[k].t.fs [insV 1 []]
    have h2 := encF_len l[k].t.fs []
    have h3 : l[k].t.fs.length * (l[k].t.fs.length + 8) ≤ 128 * 136 := Nat.mul_le_mul hl (by omega)
    rw [← hD, ← hE]
    unfold decL encL
    simp only [List.length_append, List.length_cons, List.length_nil] at *
    omega)
  go_loopw [8, 9] (fun o r wr => ∃ (j : Nat) (oa : Option Addr) (oc : Nat), r = .int .i64 j ∧ o = .slice oa (caseT (D.take j)).length oc ∧ j ≤ n ∧ Hid (wr.ownsRow W.heap.size 3 1 (.slice oa (caseT (D.take j)).length oc) (caseT (D.take j)).length ((caseT (D.take j)).flatMap cI64)) ∧ Hid (Below W.heap.size W wr)) (fun o r wr => n - numAt wr r)
  case atStart => exact ⟨0, none, 0, rfl, rfl, by omega, hid (World.ownsRow_nil _ _ _ _), hid (Below.refl _ _)⟩
  case round =>
    obtain ⟨j, oa, oc, rfl, rfl, hj, HO, hb⟩ := hrel
    have Bw := Bb.out.kept hb.out
    have xb := Bw.cellF
    have zb := Bw.lt
    by_cases hlt : j < n
    · have j1 : (j : Int) < (n : Int) := by omega
      have hltD : j < D.length := by have := en.out; omega
      obtain ⟨pb', po', epb, hc⟩ := rowAt (g := cIN) (fun _ => rfl) (HRW.out.hd.kept hb.out) (i := j) (x := D[j]) (by simp [hltD])
      cases epb
      have c0 := hc 0 _ rfl
      have c1 := hc 1 _ rfl
      clear hc
      simp only [Nat.add_zero] at c0
      have hpb : pb < wr.heap.size := World.block_lt_of_cell? _ _ c0
      have HTK : Hid (caseT (D.take (j + 1)) = caseT (D.take j) ++ caseT [D[j]]) := hid (by rw [List.take_succ_eq_append_getElem hltD, caseT_app])
      have HLJ := hid (HCL.out (D.take j) (by rw [List.length_take]; have := HDN.out.1; omega)).1
      generalize D[j] = x at *
      generalize caseT (D.take j) = C at *
      by_cases h2 : x.op = 2
      · have q2 : (x.op == 2) = true := by simpa using h2
        have HC1 : Hid (caseT [x] = [x.a]) := hid (by simp [caseT, isCase, h2])
        clear h2
        obtain ⟨la, lc, x1, HRUN, HV2, HG1⟩ := appendIn W.heap.size _ C x.a wr HO.out hb.out.size (by have := HLJ.out; omega)
        have HB1 : Hid (Below W.heap.size W x1) := hid (hb.out.trans (grow_bel HG1.out HO.out (Nat.le_refl _) hb.out.size))
        go_wp2_with (first | (at_builtin; refine wpList_append_ran rfl _ _ 58 58 rfl rfl _ _ (.slice la (C.length + 1) lc) x1 rfl rfl HRUN.out ?_))
        exact ⟨⟨j + 1, la, lc, by simp, by rw [HTK.out, HC1.out]; simp, by omega, hid (by rw [HTK.out, HC1.out]; have := HV2.out; simpa using this), HB1⟩, by simp [numAt]; omega⟩
      · have q2 : (x.op == 2) = false := by simpa using h2
        have HC1 : Hid (caseT [x] = []) := hid (by simp [caseT, isCase, h2])
        clear h2
        go_wp2
        exact ⟨⟨j + 1, oa, oc, by simp, by rw [HTK.out, HC1.out]; simp, by omega, hid (by rw [HTK.out, HC1.out, List.append_nil]; exact HO.out), hb⟩, by simp [numAt]; omega⟩
    · have j1 : ¬ (j : Int) < (n : Int) := by omega
      have e1 : D.take j = D := List.take_of_length_le (by have := en.out; omega)
      rw [e1] at HO ⊢
      have HPOS : Hid (∀ i (h : i < (caseT D).length), 0 ≤ (caseT D)[i] ∧ (caseT D)[i] ≤ 4294967295) := hid fun i h => by
        have hm : (caseT D)[i] ∈ l[k].t.fs.flatMap tagsF := by rw [← decL_t, hD]; exact List.getElem_mem h
        obtain ⟨f, hf, ht⟩ := List.mem_flatMap.1 hm
        have q1 := (hfo f hf).num
        have q2 := wireV_le f (hfo f hf)
        unfold tagsF at ht
        rcases List.mem_cons.1 ht with e | ht
        · rw [e]; unfold tagV; omega
        · split at ht
          · simp at ht; rw [ht]; unfold tagV; omega
          · simp at ht
      replace tn := hid tn
      go_wp2
      clear xb zb e1
      have hC63 : ((caseT D).length : Int) ≤ 9223372036854775807 := by have := (HCL.out D HDN.out.1).1; omega
      generalize caseT D = C at *
      go_loopw [10] (fun r wr => ∃ j : Nat, r = .int .i64 j ∧ 1 ≤ j ∧ Hid (wr.ownsRow W.heap.size 3 1 (.slice oa C.length oc) C.length (C.flatMap cI64)) ∧ Hid (Below W.heap.size W wr)) (fun r wr => C.length + 1 - numAt wr r)
      case atStart => exact ⟨1, rfl, by omega, HO, hb⟩
      case round =>
        clear HO hb
        obtain ⟨j2, rfl, hj2, HO, hb⟩ := hrel
        by_cases hlt : j2 < C.length
        · have j2a : (j2 : Int) < (C.length : Int) := by omega
          obtain ⟨i, ei⟩ : ∃ i : Nat, i = j2 - 1 := ⟨_, rfl⟩
          have hii : i + 1 = j2 := by omega
          have j2b : (j2 : Int) - 1 = (i : Int) := by omega
          have j2c : (i : Int) < (C.length : Int) := by omega
          have hil : i < C.length := by omega
          have HOR : Hid (ordP C[i] C[j2] ∧ 0 ≤ C[i] ∧ 0 ≤ C[j2]) := hid ⟨by have := nextP_at C tn.out i (by omega); simpa [hii] using this, (HPOS.out _ _).1, (HPOS.out _ _).1⟩
          have HAB : Hid (C[i] ≤ 4294967295 ∧ C[j2] ≤ 4294967295) := hid ⟨(HPOS.out _ _).2, (HPOS.out _ _).2⟩
          obtain ⟨g, go, eg, hc⟩ := rowAt (g := cI64) (K := 1) (fun _ => rfl) (own_row HO.out (Z := AnyZ) (fun _ _ => trivial)) (i := i) (x := C[i]) (by simp [hil])
          obtain ⟨g2, go2, eg2, hd⟩ := rowAt (g := cI64) (K := 1) (fun _ => rfl) (own_row HO.out (Z := AnyZ) (fun _ _ => trivial)) (i := j2) (x := C[j2]) (by simp [hlt])
          subst eg
          cases eg2
          have c0 := hc 0 _ rfl
          have c1 := hd 0 _ rfl
          clear hc hd ei hii
          simp only [Nat.add_zero, Nat.mul_one] at c0 c1
          have hgb : g < wr.heap.size := World.block_lt_of_cell? _ _ c0
          generalize C[i] = a at *
          generalize C[j2] = b at *
          have eA : wrap64 (a.tdiv 8) = a / 8 := by rw [Int.tdiv_eq_ediv_of_nonneg HOR.out.2.1]; unfold wrap64; have := HAB.out; have := HOR.out.2; omega
          have eB : wrap64 (b.tdiv 8) = b / 8 := by rw [Int.tdiv_eq_ediv_of_nonneg HOR.out.2.2]; unfold wrap64; have := HAB.out; have := HOR.out.2; omega
          have eC : wrap64 (a.tmod 8) = a % 8 := by rw [Int.tmod_eq_emod_of_nonneg HOR.out.2.1]; unfold wrap64; omega
          have eD : wrap64 (b.tmod 8) = b % 8 := by rw [Int.tmod_eq_emod_of_nonneg HOR.out.2.2]; unfold wrap64; omega
          have eC' : a.tmod 8 = a % 8 := Int.tmod_eq_emod_of_nonneg HOR.out.2.1
          have eD' : b.tmod 8 = b % 8 := Int.tmod_eq_emod_of_nonneg HOR.out.2.2
          go_wp2
          all_goals first
            | exact ⟨⟨j2 + 1, by simp, by omega, HO, hb⟩, by simp [numAt]; omega⟩
            | (exfalso; have hh := HOR.out.1; unfold ordP at hh; simp only [beq_iff_eq, beq_eq_false_iff_ne, ne_eq] at *; omega)
        · have j2a : ¬ (j2 : Int) < (C.length : Int) := by omega
          have Bw := Bb.out.kept hb.out
          have xb := Bw.cellF
          have zb := Bw.lt
          clear HO tn
          have e1 : (E.length : Int) ≤ 9223372036854775807 := by have := HDN.out.2; omega
          go_wp2
          clear xb zb HPOS hC63 j2a
          go_loopw [13, 14] (fun o r wr => ∃ (j : Nat) (oa : Option Addr) (oc : Nat), r = .int .i64 j ∧ o = .slice oa (hasT (E.take j)).length oc ∧ j ≤ E.length ∧ Hid (wr.ownsRow W.heap.size 3 1 (.slice oa (hasT (E.take j)).length oc) (hasT (E.take j)).length ((hasT (E.take j)).flatMap cI64)) ∧ Hid (Below W.heap.size W wr)) (fun o r wr => E.length - numAt wr r)
          case atStart => exact ⟨0, none, 0, rfl, rfl, by omega, hid (World.ownsRow_nil _ _ _ _), hb⟩
          case round =>
            clear hb Bw
            obtain ⟨j3, ha, hc3, rfl, rfl, hj3, HO, hb⟩ := hrel
            have Bw := Bb.out.kept hb.out
            have xb := Bw.cellF
            have zb := Bw.lt
            by_cases hlt : j3 < E.length
            · have j1 : (j3 : Int) < (E.length : Int) := by omega
              obtain ⟨fb, fo, efb, hc⟩ := rowAt (g := cIN) (fun _ => rfl) (HRW.out.he.kept hb.out) (i := j3) (x := E[j3]) (by simp [hlt])
              subst efb
              have c0 := hc 0 _ rfl
              have c1 := hc 1 _ rfl
              clear hc
              simp only [Nat.add_zero] at c0
              have hpb : fb < wr.heap.size := World.block_lt_of_cell? _ _ c0
              have HTK : Hid (hasT (E.take (j3 + 1)) = hasT (E.take j3) ++ hasT [E[j3]]) := hid (by rw [List.take_succ_eq_append_getElem hlt, hasT_app])
              have HLJ := hid (HCL.out (E.take j3) (by rw [List.length_take]; have := HDN.out.2; omega)).2
              generalize E[j3] = x at *
              generalize hasT (E.take j3) = H at *
              by_cases h2 : x.op = 16
              · have q2 : (x.op == 16) = true := by simpa using h2
                have HC1 : Hid (hasT [x] = [x.a]) := hid (by simp [hasT, isHas, h2])
                clear h2
                obtain ⟨la, lc, x1, HRUN, HV2, HG1⟩ := appendIn W.heap.size _ H x.a wr HO.out hb.out.size (by have := HLJ.out; omega)
                have HB1 : Hid (Below W.heap.size W x1) := hid (hb.out.trans (grow_bel HG1.out HO.out (Nat.le_refl _) hb.out.size))
                go_wp2_with (first | (at_builtin; refine wpList_append_ran rfl _ _ 58 58 rfl rfl _ _ (.slice la (H.length + 1) lc) x1 rfl rfl HRUN.out ?_))
                exact ⟨⟨j3 + 1, la, lc, by simp, by rw [HTK.out, HC1.out]; simp, by omega, hid (by rw [HTK.out, HC1.out]; have := HV2.out; simpa using this), HB1⟩, by simp [numAt]; omega⟩
              · have q2 : (x.op == 16) = false := by simpa using h2
                have HC1 : Hid (hasT [x] = []) := hid (by simp [hasT, isHas, h2])
                clear h2
                go_wp2
                exact ⟨⟨j3 + 1, ha, hc3, by simp, by rw [HTK.out, HC1.out]; simp, by omega, hid (by rw [HTK.out, HC1.out, List.append_nil]; exact HO.out), hb⟩, by simp [numAt]; omega⟩
            · have j1 : ¬ (j3 : Int) < (E.length : Int) := by omega
              have e2 : E.take j3 = E := List.take_of_length_le (by omega)
              rw [e2, hn] at HO ⊢
              have HLF : Hid ((l[k].t.fs.map FT.num).length = l[k].t.fs.length) := hid (List.length_map _)
              have HUP : Hid (∀ (i j : Nat) (h : i < j) (hj : j < (l[k].t.fs.map FT.num).length) (hi : i < (l[k].t.fs.map FT.num).length), (l[k].t.fs.map FT.num)[i] < (l[k].t.fs.map FT.num)[j]) := hid fun i j h hj hi => by
                rw [List.length_map] at hj hi
                simp only [List.getElem_map]
                exact hri i j h hj hi
              have hH63 : ((l[k].t.fs.map FT.num).length : Int) ≤ 9223372036854775807 := by rw [List.length_map]; omega
              replace hn := hid hn
              generalize l[k].t.fs.map FT.num = H at *
              go_wp2
              clear xb zb e2
              go_loopw [15] (fun r wr => ∃ j : Nat, r = .int .i64 j ∧ 1 ≤ j ∧ Hid (wr.ownsRow W.heap.size 3 1 (.slice ha H.length hc3) H.length (H.flatMap cI64)) ∧ Hid (Below W.heap.size W wr)) (fun r wr => H.length + 1 - numAt wr r)
              case atStart => exact ⟨1, rfl, by omega, HO, hb⟩
              case round =>
                clear HO hb Bw
                obtain ⟨j4, rfl, hj4, HO, hb⟩ := hrel
                by_cases hlt : j4 < H.length
                · have j4a : (j4 : Int) < (H.length : Int) := by omega
                  obtain ⟨i, ei⟩ : ∃ i : Nat, i = j4 - 1 := ⟨_, rfl⟩
                  have j4b : (j4 : Int) - 1 = (i : Int) := by omega
                  have j4c : (i : Int) < (H.length : Int) := by omega
                  have hil : i < H.length := by omega
                  have HOR : Hid (H[i] < H[j4]) := hid (HUP.out i j4 (by omega) hlt hil)
                  obtain ⟨g4, go4, eg, hc⟩ := rowAt (g := cI64) (K := 1) (fun _ => rfl) (own_row HO.out (Z := AnyZ) (fun _ _ => trivial)) (i := i) (x := H[i]) (by simp [hil])
                  obtain ⟨g2, go2, eg2, hd⟩ := rowAt (g := cI64) (K := 1) (fun _ => rfl) (own_row HO.out (Z := AnyZ) (fun _ _ => trivial)) (i := j4) (x := H[j4]) (by simp [hlt])
                  subst eg
                  cases eg2
                  have c0 := hc 0 _ rfl
                  have c1 := hd 0 _ rfl
                  clear hc hd ei
                  simp only [Nat.add_zero, Nat.mul_one] at c0 c1
                  have hgb : g4 < wr.heap.size := World.block_lt_of_cell? _ _ c0
                  generalize H[i] = a at *
                  generalize H[j4] = b at *
                  have f1 : (b ≤ a) = False := eq_false (by have := HOR.out; omega)
                  have f2 : a < b := HOR.out
                  have f3 : IntKind.i64.wrap (i : Int) = (i : Int) := wraps_i64 _ (by omega) (by have := HLF.out; omega)
                  go_wp2
                  go_quiet (fail)
                  go_wp2
                  exact ⟨⟨j4 + 1, by simp, by omega, hid (own_kept HO.out (below_drewN _ _)), hid (bl_drewN hb.out _)⟩, by simp [numAt]; omega⟩
                · have j4a : ¬ (j4 : Int) < (H.length : Int) := by omega
                  have Bw := Bt.out.kept hb.out
                  have xt := Bw.cellF
                  have zt := Bw.lt
                  obtain ⟨tb, tof, etb, hbl, d0, d1, d2, d3, d4, d5⟩ := row6 (HT.out.row.kept (hb3.out.trans (hb.out.mono hb3.out.size))) hkl
                  subst etb
                  obtain ⟨fa, fc, ef, -⟩ := rowS_sl (HT.out.ty _ (List.getElem_mem hkl)).f
                  rw [ef] at d2
                  have r5 : (k : Int) < (l.length : Int) := by omega
                  have HBF : Hid (Below w.heap.size w wr) := hid (hb3.out.trans (hb.out.mono hb3.out.size))
                  have HEQ : Hid (((H.length : Int) == (l[k].t.fs.length : Int)) = true) := hid (by rw [HLF.out]; simp)
                  go_wp2
                  go_ret
                  exact ⟨ret_bool (by first | exact HEQ.out | (rw [HLF.out]; simp)), by have := HBF.out; first | exact this | exact blBy⟩
end Go.Proofs.YtmcbllannkhfaaaGreatDoor
