/-
  The examples' block.
  The law's own first question.
  What a lowered message looks like.
  PlanKept.
-/
import Derived.Test.YtmcbllannkhfaaaGreatDoorCKK
import Derived.Test.YtmcbllannkhfaaaGreatDoorCTY
namespace Go.Proofs.YtmcbllannkhfaaaGreatDoor
open Go.RowKit
set_option maxRecDepth 1000000
set_option linter.unusedVariables false
set_option linter.unusedSimpArgs false
set_option maxHeartbeats 1000000
def simBK : BK := ⟨decL simF, encL simF, []⟩
theorem simD : (#[.int .i64 1, .int .i64 0, .int .i64 0, .int .i64 0, .int .i64 0, .int .i64 2, .int .i64 8, .int .i64 5, .int .i64 0, .int .i64 0, .int .i64 5, .int .i64 2, .int .i64 0, .int .i64 0, .int .i64 0, .int .i64 7, .int .i64 1, .int .i64 0, .int .i64 0, .int .i64 0, .int .i64 4, .int .i64 0, .int .i64 0, .int .i64 0, .int .i64 0, .int .i64 2, .int .i64 16, .int .i64 9, .int .i64 0, .int .i64 0, .int .i64 5, .int .i64 4, .int .i64 0, .int .i64 0, .int .i64 0, .int .i64 8, .int .i64 2, .int .i64 0, .int .i64 0, .int .i64 0, .int .i64 4, .int .i64 0, .int .i64 0, .int .i64 0, .int .i64 0, .int .i64 2, .int .i64 18, .int .i64 12, .int .i64 0, .int .i64 0, .int .i64 11, .int .i64 2, .int .i64 4, .int .i64 0, .int .i64 0, .int .i64 4, .int .i64 0, .int .i64 0, .int .i64 0, .int .i64 0, .int .i64 2, .int .i64 26, .int .i64 15, .int .i64 0, .int .i64 0, .int .i64 10, .int .i64 3, .int .i64 1, .int .i64 0, .int .i64 0, .int .i64 4, .int .i64 0, .int .i64 0, .int .i64 0, .int .i64 0, .int .i64 13, .int .i64 0, .int .i64 0, .int .i64 0, .int .i64 0, .int .i64 4, .int .i64 0, .int .i64 0, .int .i64 0, .int .i64 0] : Array Value) = (simBK.dec.flatMap cIN).toArray := by kernel_rfl
theorem simE' : (#[.int .i64 16, .int .i64 1, .int .i64 3, .int .i64 2, .int .i64 0, .int .i64 17, .int .i64 8, .int .i64 0, .int .i64 0, .int .i64 0, .int .i64 18, .int .i64 2, .int .i64 0, .int .i64 0, .int .i64 0, .int .i64 16, .int .i64 2, .int .i64 5, .int .i64 0, .int .i64 0, .int .i64 21, .int .i64 18, .int .i64 4, .int .i64 0, .int .i64 0, .int .i64 16, .int .i64 3, .int .i64 8, .int .i64 0, .int .i64 0, .int .i64 17, .int .i64 26, .int .i64 0, .int .i64 0, .int .i64 0, .int .i64 19, .int .i64 1, .int .i64 0, .int .i64 0, .int .i64 0, .int .i64 23, .int .i64 0, .int .i64 0, .int .i64 0, .int .i64 0, .int .i64 24, .int .i64 0, .int .i64 0, .int .i64 0, .int .i64 0] : Array Value) = (simBK.enc.flatMap cIN).toArray := by kernel_rfl
theorem simDl : simBK.dec.length = 17 := by kernel_rfl
theorem simEl : simBK.enc.length = 10 := by kernel_rfl
def LwA (w : World) (e : Ending) (w' : World) : Prop := ∃ da ea, e = .returned (.agg #[.slice da simBK.dec.length 17, .slice ea simBK.enc.length 10, .slice none simBK.rows.length 0]) ∧ BkR w' simBK (.slice da simBK.dec.length 17) (.slice ea simBK.enc.length 10) (.slice none simBK.rows.length 0) ∧ Below w.heap.size w w'
theorem LwA.mk {w w' : World} {h1 h2 : Nat} (B1 : Blk w' h1 57 #[.int .i64 1, .int .i64 0, .int .i64 0, .int .i64 0, .int .i64 0, .int .i64 2, .int .i64 8, .int .i64 5, .int .i64 0, .int .i64 0, .int .i64 5, .int .i64 2, .int .i64 0, .int .i64 0, .int .i64 0, .int .i64 7, .int .i64 1, .int .i64 0, .int .i64 0, .int .i64 0, .int .i64 4, .int .i64 0, .int .i64 0, .int .i64 0, .int .i64 0, .int .i64 2, .int .i64 16, .int .i64 9, .int .i64 0, .int .i64 0, .int .i64 5, .int .i64 4, .int .i64 0, .int .i64 0, .int .i64 0, .int .i64 8, .int .i64 2, .int .i64 0, .int .i64 0, .int .i64 0, .int .i64 4, .int .i64 0, .int .i64 0, .int .i64 0, .int .i64 0, .int .i64 2, .int .i64 18, .int .i64 12, .int .i64 0, .int .i64 0, .int .i64 11, .int .i64 2, .int .i64 4, .int .i64 0, .int .i64 0, .int .i64 4, .int .i64 0, .int .i64 0, .int .i64 0, .int .i64 0, .int .i64 2, .int .i64 26, .int .i64 15, .int .i64 0, .int .i64 0, .int .i64 10, .int .i64 3, .int .i64 1, .int .i64 0, .int .i64 0, .int .i64 4, .int .i64 0, .int .i64 0, .int .i64 0, .int .i64 0, .int .i64 13, .int .i64 0, .int .i64 0, .int .i64 0, .int .i64 0, .int .i64 4, .int .i64 0, .int .i64 0, .int .i64 0, .int .i64 0]) (B2 : Blk w' h2 57 #[.int .i64 16, .int .i64 1, .int .i64 3, .int .i64 2, .int .i64 0, .int .i64 17, .int .i64 8, .int .i64 0, .int .i64 0, .int .i64 0, .int .i64 18, .int .i64 2, .int .i64 0, .int .i64 0, .int .i64 0, .int .i64 16, .int .i64 2, .int .i64 5, .int .i64 0, .int .i64 0, .int .i64 21, .int .i64 18, .int .i64 4, .int .i64 0, .int .i64 0, .int .i64 16, .int .i64 3, .int .i64 8, .int .i64 0, .int .i64 0, .int .i64 17, .int .i64 26, .int .i64 0, .int .i64 0, .int .i64 0, .int .i64 19, .int .i64 1, .int .i64 0, .int .i64 0, .int .i64 0, .int .i64 23, .int .i64 0, .int .i64 0, .int .i64 0, .int .i64 0, .int .i64 24, .int .i64 0, .int .i64 0, .int .i64 0, .int .i64 0]) (hb : Below w.heap.size w w') : LwA w (.returned (.agg #[.slice (some ⟨h1, 0, none⟩) 17 17, .slice (some ⟨h2, 0, none⟩) 10 10, .slice none 0 0])) w' := by
  refine ⟨some ⟨h1, 0, none⟩, some ⟨h2, 0, none⟩, by rw [simDl, simEl]; rfl, ⟨?_, ?_, rowS_nil _ _ _⟩, hb⟩
  · rw [simDl]
    exact rowOf' B1 5 17 _ simD (by rw [flatM_len (g := cIN) (k := 5) (fun _ => rfl), simDl]) (by decide)
  · rw [simEl]
    exact rowOf' B2 5 10 _ simE' (by rw [flatM_len (g := cIN) (k := 5) (fun _ => rfl), simEl]) (by decide)
theorem loweredW (w : World) : Calls Tryz.prog 23 #[] w (LwA w) := by
  go_enter Tryz.func23, Tryz.ntmps23
  go_wp2
  refine bodyPost_ret (v := .agg #[.slice (some ⟨w.heap.size + 1, 0, none⟩) 17 17, .slice (some ⟨w.heap.size + 1 + 1, 0, none⟩) 10 10, .slice none 0 0]) (by simp [results, Tryz.results23, go_sem]) rfl ?_
  refine LwA.mk ?_ ?_ (by exact blBy)
  · exact (Blk.newAt (by simp)).kept (below_alloc _)
  · exact Blk.newAt (by simp)
/-- The law's own first question. -/
theorem awakeW (w : World) (m : Int) (hm : w.cell? ⟨0, 0, none⟩ = some (.int .i64 m)) : Calls Tryz.prog 12 #[] w fun e w' => e = .returned (.bool true) ∧ Below w.heap.size w w' := by
  have HL : Hid (∀ W W' : World, Below w.heap.size w W → TbR W' (.slice (some ⟨W.heap.size + 1 + 1 + 1, 0, none⟩) (simL W.heap.size).length 2) (simL W.heap.size) → Below w.heap.size w W' → Calls Tryz.prog 9 #[.agg #[.slice (some ⟨W.heap.size + 1 + 1 + 1, 0, none⟩) (simL W.heap.size).length 2], .int .i64 1] W' (LowA W' simBK 0)) := hid fun W W' hW ht hW' => by
    have := lowerTypeT W' (simL W.heap.size) _ 2 ht (simOk _) m (cell_below hm hW') 1
    rw [lowE_ok ⟨simGood _, by decide, by show (1 : Int) < 2; decide⟩] at this
    have e : lowBK (simL W.heap.size) 1 = simBK := lowBK_at (k := 1) (simGood _) (show 1 < 2 by decide)
    rw [e] at this
    exact this
  go_enter Tryz.func12, Tryz.ntmps12
  go_wp2_with fail
  refine (simpleW _).mono ?_
  rintro e w1 ⟨rfl, ht, hb1⟩
  have HT := hid ht
  replace hb1 := hid hb1
  clear ht
  go_wp2_with fail
  refine (HL.out w w1 (Below.refl _ _) HT.out hb1.out).mono ?_
  rintro e w2 ⟨da, dc, ea, ec, ra, rc, rfl, ho, hb2⟩
  replace ho := hid ho.row
  replace hb2 : Hid (Below w.heap.size w w2) := hid (bl_then hb1.out hb2)
  clear HL HT hb1
  go_wp2_with fail
  have Bb : Hid (Blk (w2.alloc (.cells #[.slice da simBK.dec.length dc, .slice ea simBK.enc.length ec, .slice ra simBK.rows.length rc] 25)) w2.heap.size 25 #[.slice da simBK.dec.length dc, .slice ea simBK.enc.length ec, .slice ra simBK.rows.length rc]) := hid (Blk.new _ _ _)
  replace hb2 : Hid (Below w.heap.size w (w2.alloc (.cells #[.slice da simBK.dec.length dc, .slice ea simBK.enc.length ec, .slice ra simBK.rows.length rc] 25))) := hid (by have := hb2.out; exact blBy)
  replace ho : Hid (BkR (w2.alloc (.cells #[.slice da simBK.dec.length dc, .slice ea simBK.enc.length ec, .slice ra simBK.rows.length rc] 25)) simBK (.slice da simBK.dec.length dc) (.slice ea simBK.enc.length ec) (.slice ra simBK.rows.length rc)) := hid (ho.out.kept (below_alloc _))
  generalize w2.alloc (.cells #[.slice da simBK.dec.length dc, .slice ea simBK.enc.length ec, .slice ra simBK.rows.length rc] 25) = W at *
  generalize w2.heap.size = q at *
  have e0 := Bb.out.cell 0 _ rfl
  have e1 := Bb.out.cell 1 _ rfl
  have e2 := Bb.out.cell 2 _ rfl
  simp only [List.getElem_toArray, List.getElem_cons_succ, List.getElem_cons_zero] at e0 e1 e2
  go_region_held3 (fun W => W.cell? ⟨q, 0, none⟩ = some (.slice da simBK.dec.length dc) ∧ W.cell? ⟨q, 1, none⟩ = some (.slice ea simBK.enc.length ec) ∧ W.cell? ⟨q, 2, none⟩ = some (.slice ra simBK.rows.length rc)) (first | exact ⟨e0, e1, e2⟩) (first | (go_at_call 23; refine (loweredW _).mono ?_; rintro e w3 ⟨pa, qa, rfl, hl, hbx⟩; replace e0 := cell_below e0 (below_trans (by first | exact Below.refl _ _ | exact below_drew1 _ | exact below_drewN _ _) hbx); replace e1 := cell_below e1 (below_trans (by first | exact Below.refl _ _ | exact below_drew1 _ | exact below_drewN _ _) hbx); replace e2 := cell_below e2 (below_trans (by first | exact Below.refl _ _ | exact below_drew1 _ | exact below_drewN _ _) hbx); replace ho := hid (ho.out.kept (below_trans (by first | exact Below.refl _ _ | exact below_drew1 _ | exact below_drewN _ _) hbx)); replace hb2 := hid (below_trans hb2.out (below_trans (by first | exact Below.refl _ _ | exact below_drew1 _ | exact below_drewN _ _) hbx)); have HLW := hid hl; clear hl hbx) | (go_at_call 13; refine (sameBlockD _ simBK simBK _ _ _ _ _ _ _ _ _ _ _ _ ho.out HLW.out).mono ?_; rintro e w4 ⟨r, rfl, hr, hbx⟩; obtain rfl : r = true := hr.2 rfl; replace e0 := cell_below e0 hbx; replace e1 := cell_below e1 hbx; replace e2 := cell_below e2 hbx; replace hb2 := hid (below_trans hb2.out hbx); clear hr hbx))
  all_goals
    go_wp2
    go_ret
    exact ⟨rfl, hb2.out⟩
theorem own_put {w : World} {base e size g n cap : Nat} {fl : List Value} (h : w.ownsRow base e size (.slice (some ⟨g, 0, none⟩) n cap) n fl) (j : Nat) (hj : j < n * size) (v : Value) : (w.setCell ⟨g, j, none⟩ v).ownsRow base e size (.slice (some ⟨g, 0, none⟩) n cap) n (fl.set j v) := by
  refine ⟨by rw [List.length_set]; exact h.1, ?_⟩
  rcases h.2 with ⟨e, _⟩ | ⟨g', cap', cur, e, hbg, hgg, hnc, hcm, hcs, htk⟩
  · cases e
  cases e
  refine .inr ⟨g, cap, cur.setIfInBounds j v, rfl, hbg, Blk.set hgg j v, hnc, hcm, by simpa using hcs, ?_⟩
  rw [← htk]
  simp [List.take_set]
theorem own_oth {w : World} {base e size n q j : Nat} {v u : Value} {fl : List Value} (h : w.ownsRow base e size v n fl) (hq : v.ownBlock ≠ some q) : (w.setCell ⟨q, j, none⟩ u).ownsRow base e size v n fl :=
  own_keep (f := (· ≠ q)) h (fun k hk e => hq (by rw [← e]; exact hk)) (Keep.setCell _ _ _ (fun h => h rfl))
theorem clrL_op (fs : List FT) (f : FT) : ∀ x ∈ clrL fs f, x.op ≤ 25 := by
  intro x hx
  unfold clrL at hx
  split at hx
  · simp at hx
    obtain ⟨o, _, rfl⟩ := hx
    simp [clrS, insV]
  · simp at hx
theorem valL_op (fs : List FT) (f : FT) : ∀ x ∈ valL fs f, x.op ≤ 25 := by
  intro x hx
  unfold valL at hx
  split at hx
  · simp at hx; subst hx; simp [insV]
  · split at hx
    · rcases List.mem_append.1 hx with h | h
      · exact clrL_op fs f x h
      · simp at h; subst h; simp [insV]
    · rcases List.mem_append.1 hx with h | h
      · rcases List.mem_append.1 h with h | h
        · rcases List.mem_append.1 h with h | h
          · simp at h; subst h; simp [insV]
          · split at h
            · simp at h; subst h; simp [insV]
            · simp at h
        · exact clrL_op fs f x h
      · simp at h; subst h; simp only [insV, putV]; split <;> omega
theorem caseL_op (n : Nat) (t : Int) (b : List IN) (hb : ∀ x ∈ b, x.op ≤ 25) : ∀ x ∈ caseL n t b, x.op ≤ 25 := by
  intro x hx
  unfold caseL at hx
  simp only [List.mem_cons, List.mem_append, List.not_mem_nil, or_false] at hx
  rcases hx with rfl | h | rfl
  · simp [insV]
  · exact hb x h
  · simp [insV]
theorem decF_op (fs : List FT) : ∀ (l : List FT) (acc : List IN), (∀ x ∈ acc, x.op ≤ 25) → ∀ x ∈ l.foldl (decS fs) acc, x.op ≤ 25
  | [], acc, h => h
  | f :: l, acc, h => by
    rw [List.foldl_cons]
    refine decF_op fs l _ ?_
    intro x hx
    unfold decS case2 case1 at hx
    split at hx
    · rcases List.mem_append.1 hx with q | q
      · rcases List.mem_append.1 q with q | q
        · exact h x q
        · exact caseL_op _ _ _ (valL_op fs f) x q
      · exact caseL_op _ _ _ (by intro y hy; simp [rowL] at hy; subst hy; simp [insV]) x q
    · rcases List.mem_append.1 hx with q | q
      · exact h x q
      · exact caseL_op _ _ _ (valL_op fs f) x q
theorem decL_op (fs : List FT) : ∀ x ∈ decL fs, x.op ≤ 25 := by
  intro x hx
  unfold decL at hx
  rcases List.mem_append.1 hx with q | q
  · exact decF_op fs fs _ (by intro y hy; simp at hy; subst hy; simp [insV]) x q
  · simp at q
    rcases q with rfl | rfl <;> simp [insV]
theorem lowBK_op (l : List TV) (i : Int) : ∀ x ∈ (lowBK l i).dec, x.op ≤ 25 := by
  intro x hx
  unfold lowBK at hx
  split at hx
  · split at hx
    · unfold loBK at hx
      split at hx
      · simp at hx
      · exact decL_op _ x hx
    · simp [bkZ] at hx
  · simp [bkZ] at hx
theorem lowBK_len (l : List TV) (i : Int) : (lowBK l i).dec.length ≤ 100000 ∧ (lowBK l i).enc.length ≤ 100000 ∧ (lowBK l i).rows.length ≤ 100000 := by
  by_cases hok : goodB l = true ∧ 0 ≤ i ∧ i < l.length
  case neg => rw [lowBK_no hok]; simp [bkZ]
  obtain ⟨hg, h0, hi⟩ := hok
  obtain ⟨k, rfl⟩ : ∃ k : Nat, i = (k : Int) := ⟨i.toNat, by omega⟩
  have hkl : k < l.length := by omega
  rw [lowBK_at hg hkl]
  cases he : l[k].t.enum with
  | true =>
    have hE := goodP_enum hg hkl he
    unfold loBK
    rw [if_pos he]
    simp only [List.length_nil]
    rw [(rowsL_perm _).length_eq, List.length_map]
    omega
  | false =>
    obtain ⟨hl, _, _⟩ := goodP_msg hg hkl he
    unfold loBK
    rw [if_neg (by rw [he]; simp)]
    have h1 := decF_len l[k].t.fs l[k].t.fs [insV 1 []]
    have h2 := encF_len l[k].t.fs []
    have h3 : l[k].t.fs.length * (l[k].t.fs.length + 8) ≤ 128 * 136 := Nat.mul_le_mul hl (by omega)
    unfold decL encL
    simp only [List.length_append, List.length_cons, List.length_nil] at *
    omega
/-- What is known of a block that is written over. -/
structure AR (V wr : World) (base qa h : Nat) (d e r : Value) (n1 n2 n3 : Nat) : Prop where
  hd : ∃ fl, wr.ownsRow base 57 5 d n1 fl
  he : ∃ fl, wr.ownsRow base 57 5 e n2 fl
  hr : ∃ fl, wr.ownsRow base 41 2 r n3 fl
  kp : Keep (fun b => b < h ∨ qa < b) V wr
  bk : Blk wr qa 25 #[d, e, r]
  ap : ∀ b, d.ownBlock = some b → e.ownBlock ≠ some b
  hb : h ≤ base
  bd : ∀ b, d.ownBlock = some b → b < qa
  be : ∀ b, e.ownBlock = some b → b < qa
  br : ∀ b, r.ownBlock = some b → b < qa
theorem own_ne {w : World} {base e size n q : Nat} {v : Value} {fl : List Value} (h : w.ownsRow base e size v n fl) {t : TypeId} {cs : Array Value} (hq : Blk w q t cs) (ht : t ≠ e) : v.ownBlock ≠ some q := by
  intro hk
  obtain ⟨_, _, cur, h3⟩ := own_type h hk
  rw [show w.heap[q]? = _ from hq] at h3
  cases h3
  exact ht rfl
theorem AR.keep {V wr wr' : World} {base qa h : Nat} {d e r : Value} {n1 n2 n3 : Nat} (H : AR V wr base qa h d e r n1 n2 n3) (g : Below wr.heap.size wr wr') : AR V wr' base qa h d e r n1 n2 n3 := by
  obtain ⟨⟨f1, o1⟩, ⟨f2, o2⟩, ⟨f3, o3⟩, h4, h5, h6, h7, h8, h9, h10⟩ := H
  exact ⟨⟨f1, own_kept o1 g⟩, ⟨f2, own_kept o2 g⟩, ⟨f3, own_kept o3 g⟩, h4.trans (Keep.ofBelow g), h5.kept g, h6, h7, h8, h9, h10⟩
theorem AR.putD {V wr : World} {base qa h g c : Nat} {e r : Value} {n1 n2 n3 : Nat} (H : AR V wr base qa h (.slice (some ⟨g, 0, none⟩) n1 c) e r n1 n2 n3) (j : Nat) (hj : j < n1 * 5) (v : Value) : AR V (wr.setCell ⟨g, j, none⟩ v) base qa h (.slice (some ⟨g, 0, none⟩) n1 c) e r n1 n2 n3 := by
  obtain ⟨⟨f1, o1⟩, ⟨f2, o2⟩, ⟨f3, o3⟩, h4, h5, h6, h7, h8, h9, h10⟩ := H
  have hg := own_type o1 rfl
  refine ⟨⟨_, own_put o1 j hj v⟩, ⟨f2, own_oth o2 (h6 g rfl)⟩, ⟨f3, own_oth o3 (fun q => own_apart o1 o3 (by decide) (k := g) rfl q)⟩, h4.trans (Keep.setCell _ _ _ ?_), h5.other (a := ⟨g, j, none⟩) ?_ _, h6, h7, h8, h9, h10⟩
  · show ¬ (g < h ∨ qa < g)
    have q1 : base ≤ g := hg.1
    have q2 : g < qa := h8 g rfl
    have q3 : h ≤ base := h7
    omega
  · show qa ≠ g
    have q2 := h8 g rfl
    omega
theorem AR.putE {V wr : World} {base qa h g c : Nat} {d r : Value} {n1 n2 n3 : Nat} (H : AR V wr base qa h d (.slice (some ⟨g, 0, none⟩) n2 c) r n1 n2 n3) (j : Nat) (hj : j < n2 * 5) (v : Value) : AR V (wr.setCell ⟨g, j, none⟩ v) base qa h d (.slice (some ⟨g, 0, none⟩) n2 c) r n1 n2 n3 := by
  obtain ⟨⟨f1, o1⟩, ⟨f2, o2⟩, ⟨f3, o3⟩, h4, h5, h6, h7, h8, h9, h10⟩ := H
  have hg := own_type o2 rfl
  refine ⟨⟨f1, own_oth o1 (fun q => h6 g q rfl)⟩, ⟨_, own_put o2 j hj v⟩, ⟨f3, own_oth o3 (fun q => own_apart o2 o3 (by decide) (k := g) rfl q)⟩, h4.trans (Keep.setCell _ _ _ ?_), h5.other (a := ⟨g, j, none⟩) ?_ _, h6, h7, h8, h9, h10⟩
  · show ¬ (g < h ∨ qa < g)
    have q1 : base ≤ g := hg.1
    have q2 : g < qa := h9 g rfl
    have q3 : h ≤ base := h7
    omega
  · show qa ≠ g
    have q2 := h9 g rfl
    omega
theorem AR.putR {V wr : World} {base qa h g c : Nat} {d e : Value} {n1 n2 n3 : Nat} (H : AR V wr base qa h d e (.slice (some ⟨g, 0, none⟩) n3 c) n1 n2 n3) (j : Nat) (hj : j < n3 * 2) (v : Value) : AR V (wr.setCell ⟨g, j, none⟩ v) base qa h d e (.slice (some ⟨g, 0, none⟩) n3 c) n1 n2 n3 := by
  obtain ⟨⟨f1, o1⟩, ⟨f2, o2⟩, ⟨f3, o3⟩, h4, h5, h6, h7, h8, h9, h10⟩ := H
  have hg := own_type o3 rfl
  refine ⟨⟨f1, own_oth o1 (fun q => own_apart o1 o3 (by decide) q rfl)⟩, ⟨f2, own_oth o2 (fun q => own_apart o2 o3 (by decide) q rfl)⟩, ⟨_, own_put o3 j hj v⟩, h4.trans (Keep.setCell _ _ _ ?_), h5.other (a := ⟨g, j, none⟩) ?_ _, h6, h7, h8, h9, h10⟩
  · show ¬ (g < h ∨ qa < g)
    have q1 : base ≤ g := hg.1
    have q2 : g < qa := h10 g rfl
    have q3 : h ≤ base := h7
    omega
  · show qa ≠ g
    have q2 := h10 g rfl
    omega
/-- One more, appended to a list of the block; the block's other lists stay. -/
theorem app1 {w : World} {base qa h n : Nat} {v : Value} {fl : List Value} (t ts size bytes : Nat) (z : Value) (hts : Tryz.prog.underlying ts = some (.slice t)) (hinfo : (Tryz.prog.info? t).map (fun i => (i.zero, i.size, i.bytes)) = some (some z, size, bytes)) (hzs : z.cells.size = size) (h0 : 0 < size) (hby : bytes ≤ 400) (o : w.ownsRow base t size v n fl) (hb : base ≤ w.heap.size) (hn : n ≤ 100000) (cs : Array Value) (hcs : cs.size = size) (h1 : ∀ u ∈ cs.toList, u.oneCell' = true) (hh : h ≤ base) (hv : ∀ b, v.ownBlock = some b → b < qa) :
    ∃ a c w', Hid ((Builtin.append_ #[ts, ts] ts #[v, .slice (some ⟨w.heap.size, 0, none⟩) 1 1]).run Tryz.prog (w.alloc (.cells cs t)) = .ok (.slice a (n + 1) c) w') ∧ Hid (Grow w w' v (.slice a (n + 1) c)) ∧ Hid (Keep (fun b => b < h ∨ qa < b) w w') := by
  obtain ⟨v', w', r1, r2, r3⟩ := append_st t ts size bytes z hts hinfo hzs h0 hby base v n fl w cs hcs h1 o hb (by omega)
  obtain ⟨a, c, rfl⟩ := own_shape r2
  refine ⟨a, c, w', hid r1, hid r3, hid (Keep.ofGrow r3 (fun k hk e => ?_))⟩
  have q1 := (own_type o e).1
  have q2 := hv k e
  omega
theorem own_grow {w w' : World} {v v' u : Value} {base e s n : Nat} {fl : List Value} (g : Grow w w' v v') (h : w.ownsRow base e s u n fl) (hne : ∀ k, u.ownBlock = some k → v.ownBlock ≠ some k) : w'.ownsRow base e s u n fl :=
  own_keep (f := fun k => v.ownBlock ≠ some k) h hne (Keep.ofGrow g (fun _ hk => hk))
theorem keep_setQ {V w : World} {qa h j : Nat} {v : Value} (k : Keep (fun b => b < h ∨ qa < b) V w) (hq : h ≤ qa) : Keep (fun b => b < h ∨ qa < b) V (w.setCell ⟨qa, j, none⟩ v) := k.trans (Keep.setCell _ _ _ (by show ¬ (qa < h ∨ qa < qa); omega))
theorem planKeptW (w : World) (l : List TV) (ta : Option Addr) (tc : Nat) (h : TbR w (.slice ta l.length tc) l) (hk : ∀ x ∈ l, OkV x) (m : Int) (hm : w.cell? ⟨0, 0, none⟩ = some (.int .i64 m)) (i : Int) : Calls Tryz.prog 8 #[.agg #[.slice ta l.length tc], .int .i64 i] w fun e w' => e = .returned (.bool true) ∧ Below w.heap.size w w' := by
  have HA : Hid (∀ W, Below w.heap.size w W → Calls Tryz.prog 12 #[] W fun e w' => e = .returned (.bool true) ∧ Below W.heap.size W w') := hid fun W hW => awakeW W m (cell_below hm hW)
  have HLT : Hid (∀ W, Below w.heap.size w W → Calls Tryz.prog 9 #[.agg #[.slice ta l.length tc], .int .i64 i] W (LowA W (lowBK l i) (lowE l i))) := hid fun W hW => lowerTypeT W l ta tc (h.kept hW) hk m (cell_below hm hW) i
  have HOP := hid (lowBK_op l i)
  have HSZ := hid (lowBK_len l i)
  clear h hk hm
  generalize lowBK l i = K at *
  generalize lowE l i = er at *
  go_enter Tryz.func8, Tryz.ntmps8
  go_wp2_with fail
  refine (HA.out _ (by exact blBy)).mono ?_
  rintro e w1 ⟨rfl, hb1⟩
  have Bt : Blk w1 w.heap.size 31 #[.slice ta l.length tc] := (Blk.new _ _ _).kept hb1
  replace hb1 : Hid (Below w.heap.size w w1) := hid (bl_then (by exact blBy) hb1)
  have xt := Bt.cellF
  have zt := Bt.lt
  go_wp2_with fail
  refine (HLT.out _ (by have := hb1.out; exact blBy)).mono ?_
  rintro e w2 ⟨da, dc, ea, ec, ra, rc, rfl, ho, hb2⟩
  replace Bt := Bt.kept hb2
  have zw1 : Hid (w.heap.size < w1.heap.size) := hid zt
  have hs2 := hid hb2.size
  replace hb2 : Hid (Below w.heap.size w w2) := hid (bl_then (by have := hb1.out; exact blBy) hb2)
  have HOA := hid ho
  clear xt zt ho
  have xt := Bt.cellF
  have zt := Bt.lt
  go_wp2_with fail
  refine (HLT.out _ (by have := hb2.out; exact blBy)).mono ?_
  rintro e w3 ⟨da2, dc2, ea2, ec2, ra2, rc2, rfl, ho, hb3⟩
  have Bq : Blk (w3.alloc (.cells #[.slice da2 K.dec.length dc2, .slice ea2 K.enc.length ec2, .slice ra2 K.rows.length rc2] 25)) w2.heap.size 25 #[.slice da K.dec.length dc, .slice ea K.enc.length ec, .slice ra K.rows.length rc] := ((Blk.new _ _ _).kept hb3).kept (below_alloc _)
  have HAR : Hid (AR (w3.alloc (.cells #[.slice da2 K.dec.length dc2, .slice ea2 K.enc.length ec2, .slice ra2 K.rows.length rc2] 25)) (w3.alloc (.cells #[.slice da2 K.dec.length dc2, .slice ea2 K.enc.length ec2, .slice ra2 K.rows.length rc2] 25)) w1.heap.size w2.heap.size (w.heap.size + 1) (.slice da K.dec.length dc) (.slice ea K.enc.length ec) (.slice ra K.rows.length rc) K.dec.length K.enc.length K.rows.length) := hid (by
    have hh := ((HOA.out.kept (below_alloc (.cells #[.slice da K.dec.length dc, .slice ea K.enc.length ec, .slice ra K.rows.length rc] 25))).kept hb3).kept (below_alloc (.cells #[.slice da2 K.dec.length dc2, .slice ea2 K.enc.length ec2, .slice ra2 K.rows.length rc2] 25))
    exact ⟨⟨_, hh.hd⟩, ⟨_, hh.he⟩, ⟨_, hh.hr⟩, Keep.refl _ _, Bq, hh.ap, by have := zw1.out; omega, fun b q => (own_type HOA.out.hd q).2.1, fun b q => (own_type HOA.out.he q).2.1, fun b q => (own_type HOA.out.hr q).2.1⟩)
  have HOB : Hid (BkO (w3.alloc (.cells #[.slice da2 K.dec.length dc2, .slice ea2 K.enc.length ec2, .slice ra2 K.rows.length rc2] 25)) (w2.heap.size + 1) K (.slice da2 K.dec.length dc2) (.slice ea2 K.enc.length ec2) (.slice ra2 K.rows.length rc2)) := hid ((ho.mono (by simp)).kept (below_alloc _))
  have Bb : Hid (Blk (w3.alloc (.cells #[.slice da2 K.dec.length dc2, .slice ea2 K.enc.length ec2, .slice ra2 K.rows.length rc2] 25)) w3.heap.size 25 #[.slice da2 K.dec.length dc2, .slice ea2 K.enc.length ec2, .slice ra2 K.rows.length rc2]) := hid (Blk.new _ _ _)
  have hq3 : w2.heap.size < w3.heap.size := by have := hb3.size; simp at this; omega
  replace Bt := hid ((Bt.kept (below_alloc (.cells #[.slice da K.dec.length dc, .slice ea K.enc.length ec, .slice ra K.rows.length rc] 25))).kept hb3 |>.kept (below_alloc (.cells #[.slice da2 K.dec.length dc2, .slice ea2 K.enc.length ec2, .slice ra2 K.rows.length rc2] 25)))
  have HBV : Hid (Below w.heap.size w (w3.alloc (.cells #[.slice da2 K.dec.length dc2, .slice ea2 K.enc.length ec2, .slice ra2 K.rows.length rc2] 25))) := hid (bl_alloc (bl_then (by have := hb2.out; exact blBy) hb3) _)
  have hq2 : w.heap.size < w2.heap.size := by have := zw1.out; have := hs2.out; omega
  have hbq : Hid (w1.heap.size ≤ w2.heap.size) := hs2
  clear xt zt ho Bq HOA hb3 hb1
  go_wp2_with fail
  generalize w3.alloc (.cells #[.slice da2 K.dec.length dc2, .slice ea2 K.enc.length ec2, .slice ra2 K.rows.length rc2] 25) = V at *
  generalize w3.heap.size = qb at *
  generalize w2.heap.size = qa at *
  generalize w1.heap.size = base at *
  have z1 : (K.dec.length : Int) ≤ 9223372036854775807 := by have := HSZ.out; omega
  have z2 : (K.enc.length : Int) ≤ 9223372036854775807 := by have := HSZ.out; omega
  have z3 : (K.rows.length : Int) ≤ 9223372036854775807 := by have := HSZ.out; omega
  go_loopw [9] (fun r wr => ∃ j : Nat, r = .int .i64 j ∧ j ≤ K.dec.length ∧ Hid (AR V wr base qa (w.heap.size + 1) (.slice da K.dec.length dc) (.slice ea K.enc.length ec) (.slice ra K.rows.length rc) K.dec.length K.enc.length K.rows.length)) (fun r wr => K.dec.length - numAt wr r)
  case atStart => exact ⟨0, rfl, by omega, HAR⟩
  case round =>
    clear HAR
    obtain ⟨j9, rfl, hj9, HAR⟩ := hrel
    have xa := HAR.out.bk.cellF
    have za := HAR.out.bk.lt
    by_cases hlt : j9 < K.dec.length
    · have h2 : (j9 : Int) < (K.dec.length : Int) := by omega
      obtain ⟨fl, o⟩ := HAR.out.hd
      rcases o.2 with ⟨_, h0⟩ | ⟨g, cap, cur, e, hbg, hgg, hnc, hcm, hcs, htk⟩
      · omega
      cases e
      have hjs : j9 * 5 < K.dec.length * 5 := by omega
      have hsz : j9 * 5 < cur.size := by rw [hcs]; have := Nat.mul_le_mul_right 5 hnc; omega
      have hG : Blk wr g _ cur := hgg
      have xg : wr.cell? ⟨g, j9 * 5, none⟩ = some cur[j9 * 5] := hG.cell _ _ (Array.getElem?_eq_getElem hsz)
      have yg := hG.frz
      have zg := hG.lt
      clear o hgg htk hcs hcm hnc hG
      generalize cur[j9 * 5] = cv at *
      go_wp2
      exact ⟨⟨j9 + 1, by simp, by omega, hid (HAR.out.putD (j9 * 5) hjs _)⟩, by simp [numAt]; omega⟩
    · have h2 : ¬ (j9 : Int) < (K.dec.length : Int) := by omega
      go_wp2
      clear xa za h2
      go_loopw [10] (fun r wr => ∃ j : Nat, r = .int .i64 j ∧ j ≤ K.enc.length ∧ Hid (AR V wr base qa (w.heap.size + 1) (.slice da K.dec.length dc) (.slice ea K.enc.length ec) (.slice ra K.rows.length rc) K.dec.length K.enc.length K.rows.length)) (fun r wr => K.enc.length - numAt wr r)
      case atStart => exact ⟨0, rfl, by omega, HAR⟩
      case round =>
        clear HAR
        obtain ⟨j10, rfl, hj10, HAR⟩ := hrel
        have xa := HAR.out.bk.cellF
        have za := HAR.out.bk.lt
        by_cases hlt : j10 < K.enc.length
        · have h2 : (j10 : Int) < (K.enc.length : Int) := by omega
          obtain ⟨fl, o⟩ := HAR.out.he
          rcases o.2 with ⟨_, h0⟩ | ⟨g, cap, cur, e, hbg, hgg, hnc, hcm, hcs, htk⟩
          · omega
          cases e
          have hjs : j10 * 5 < K.enc.length * 5 := by omega
          have hsz : j10 * 5 < cur.size := by rw [hcs]; have := Nat.mul_le_mul_right 5 hnc; omega
          have hG : Blk wr g _ cur := hgg
          have xg : wr.cell? ⟨g, j10 * 5, none⟩ = some cur[j10 * 5] := hG.cell _ _ (Array.getElem?_eq_getElem hsz)
          have yg := hG.frz
          have zg := hG.lt
          clear o hgg htk hcs hcm hnc hG
          generalize cur[j10 * 5] = cv at *
          go_wp2
          exact ⟨⟨j10 + 1, by simp, by omega, hid (HAR.out.putE (j10 * 5) hjs _)⟩, by simp [numAt]; omega⟩
        · have h2 : ¬ (j10 : Int) < (K.enc.length : Int) := by omega
          go_wp2
          clear xa za h2
          go_loopw [11] (fun r wr => ∃ j : Nat, r = .int .i64 j ∧ j ≤ K.rows.length ∧ Hid (AR V wr base qa (w.heap.size + 1) (.slice da K.dec.length dc) (.slice ea K.enc.length ec) (.slice ra K.rows.length rc) K.dec.length K.enc.length K.rows.length)) (fun r wr => K.rows.length - numAt wr r)
          case atStart => exact ⟨0, rfl, by omega, HAR⟩
          case round =>
            clear HAR
            obtain ⟨j11, rfl, hj11, HAR⟩ := hrel
            have xa := HAR.out.bk.cellF
            have za := HAR.out.bk.lt
            by_cases hlt : j11 < K.rows.length
            · have h2 : (j11 : Int) < (K.rows.length : Int) := by omega
              obtain ⟨fl, o⟩ := HAR.out.hr
              rcases o.2 with ⟨_, h0⟩ | ⟨g, cap, cur, e, hbg, hgg, hnc, hcm, hcs, htk⟩
              · omega
              cases e
              have hjs : j11 * 2 < K.rows.length * 2 := by omega
              have hsz : j11 * 2 < cur.size := by rw [hcs]; have := Nat.mul_le_mul_right 2 hnc; omega
              have hG : Blk wr g _ cur := hgg
              have xg : wr.cell? ⟨g, j11 * 2, none⟩ = some cur[j11 * 2] := hG.cell _ _ (Array.getElem?_eq_getElem hsz)
              have yg := hG.frz
              have zg := hG.lt
              clear o hgg htk hcs hcm hnc hG
              generalize cur[j11 * 2] = cv at *
              go_wp2
              exact ⟨⟨j11 + 1, by simp, by omega, hid (HAR.out.putR (j11 * 2) hjs _)⟩, by simp [numAt]; omega⟩
            · have h2 : ¬ (j11 : Int) < (K.rows.length : Int) := by omega
              clear hlt xa za
              obtain ⟨⟨f1, o1⟩, ⟨f2, o2⟩, ⟨f3, o3⟩, h4, h5, h6, h7, h8, h9, h10⟩ := HAR.out
              have hbs : base ≤ wr.heap.size := Nat.le_trans hbq.out (Nat.le_of_lt h5.lt)
              obtain ⟨a1, c1, x1, HRUN, HG1, HK1⟩ := app1 (qa := qa) (h := w.heap.size + 1) 57 22 5 40 (.agg #[.int .i64 0, .int .i64 0, .int .i64 0, .int .i64 0, .int .i64 0]) Tryz.underlying22 Tryz.infoPI rfl (by decide) (by decide) o1 hbs HSZ.out.1 #[.int .i64 96, .int .i64 0, .int .i64 0, .int .i64 0, .int .i64 0] rfl (fun u hu => by simp at hu; rcases hu with rfl | rfl <;> rfl) h7 h8
              have B1 := grow_blk HG1.out o1 h5 (by decide)
              have p2 := own_grow HG1.out o2 (fun k q1 q2 => h6 k q2 q1)
              have p3 := own_grow HG1.out o3 (fun k q1 q2 => own_apart o1 o3 (by decide) q2 q1)
              have C1 : Hid (Blk (x1.setCell ⟨qa, 0, none⟩ (.slice a1 (K.dec.length + 1) c1)) qa 25 #[.slice a1 (K.dec.length + 1) c1, .slice ea K.enc.length ec, .slice ra K.rows.length rc]) := hid ((B1.set 0 _).is (by simp))
              have P2 : Hid ((x1.setCell ⟨qa, 0, none⟩ (.slice a1 (K.dec.length + 1) c1)).ownsRow base 57 5 (.slice ea K.enc.length ec) K.enc.length f2) := hid (own_oth p2 (own_ne p2 B1 (by decide)))
              have P3 : Hid ((x1.setCell ⟨qa, 0, none⟩ (.slice a1 (K.dec.length + 1) c1)).ownsRow base 41 2 (.slice ra K.rows.length rc) K.rows.length f3) := hid (own_oth p3 (own_ne p3 B1 (by decide)))
              have KP : Hid (Keep (fun b => b < w.heap.size + 1 ∨ qa < b) V (x1.setCell ⟨qa, 0, none⟩ (.slice a1 (K.dec.length + 1) c1))) := hid (keep_setQ (h4.trans HK1.out) (by omega))
              have hsz1 : (x1.setCell ⟨qa, 0, none⟩ (.slice a1 (K.dec.length + 1) c1)).heap.size = x1.heap.size := by simp [World.setCell]
              obtain ⟨a2, c2, x2, HRUN2, HG2, HK2⟩ := app1 (qa := qa) (h := w.heap.size + 1) 57 22 5 40 (.agg #[.int .i64 0, .int .i64 0, .int .i64 0, .int .i64 0, .int .i64 0]) Tryz.underlying22 Tryz.infoPI rfl (by decide) (by decide) P2.out (Nat.le_trans hbq.out (Nat.le_of_lt C1.out.lt)) HSZ.out.2.1 #[.int .i64 95, .int .i64 0, .int .i64 0, .int .i64 0, .int .i64 0] rfl (fun u hu => by simp at hu; rcases hu with rfl | rfl <;> rfl) h7 h9
              rw [hsz1] at HRUN2
              have B2 := grow_blk HG2.out P2.out C1.out (by decide)
              have q3 := own_grow HG2.out P3.out (fun k q1 q2 => own_apart P2.out P3.out (by decide) q2 q1)
              have C2 : Hid (Blk (x2.setCell ⟨qa, 1, none⟩ (.slice a2 (K.enc.length + 1) c2)) qa 25 #[.slice a1 (K.dec.length + 1) c1, .slice a2 (K.enc.length + 1) c2, .slice ra K.rows.length rc]) := hid ((B2.set 1 _).is (by simp))
              have Q3 : Hid ((x2.setCell ⟨qa, 1, none⟩ (.slice a2 (K.enc.length + 1) c2)).ownsRow base 41 2 (.slice ra K.rows.length rc) K.rows.length f3) := hid (own_oth q3 (own_ne q3 B2 (by decide)))
              replace KP : Hid (Keep (fun b => b < w.heap.size + 1 ∨ qa < b) V (x2.setCell ⟨qa, 1, none⟩ (.slice a2 (K.enc.length + 1) c2))) := hid (keep_setQ (KP.out.trans HK2.out) (by omega))
              have hsz2 : (x2.setCell ⟨qa, 1, none⟩ (.slice a2 (K.enc.length + 1) c2)).heap.size = x2.heap.size := by simp [World.setCell]
              obtain ⟨a3, c3, x3, HRUN3, HG3, HK3⟩ := app1 (qa := qa) (h := w.heap.size + 1) 41 23 2 16 (.agg #[.int .i64 0, .int .i64 0]) Tryz.underlying23 Tryz.infoPL rfl (by decide) (by decide) Q3.out (Nat.le_trans hbq.out (Nat.le_of_lt C2.out.lt)) HSZ.out.2.2 #[.int .i64 94, .int .i64 0] rfl (fun u hu => by simp at hu; rcases hu with rfl | rfl <;> rfl) h7 h10
              rw [hsz2] at HRUN3
              have B3 := grow_blk HG3.out Q3.out C2.out (by decide)
              replace KP : Hid (Keep (fun b => b < w.heap.size + 1 ∨ qa < b) V (x3.setCell ⟨qa, 2, none⟩ (.slice a3 (K.rows.length + 1) c3))) := hid (keep_setQ (KP.out.trans HK3.out) (by omega))
              have xa := h5.cellF
              have za := h5.lt
              have x1c := B1.cellF
              have x1f := B1.frz
              have x1l := B1.lt
              have x2c := B2.cellF
              have x2f := B2.frz
              have x2l := B2.lt
              have x3c := B3.cellF
              have x3f := B3.frz
              have x3l := B3.lt
              clear o1 o2 o3 p2 p3 q3 P2 P3 Q3 h4 hsz1 hsz2 HG1 HG2 HG3 HK1 HK2 HK3 hbs
              go_upto_region 21 with (first | (at_builtin; refine wpList_append_ran rfl _ _ 22 22 rfl rfl (.slice da K.dec.length dc) (.slice (some ⟨wr.heap.size, 0, none⟩) 1 1) (.slice a1 (K.dec.length + 1) c1) x1 rfl rfl HRUN.out ?_) | (at_builtin; refine wpList_append_ran rfl _ _ 22 22 rfl rfl (.slice ea K.enc.length ec) (.slice (some ⟨x1.heap.size, 0, none⟩) 1 1) (.slice a2 (K.enc.length + 1) c2) x2 rfl rfl HRUN2.out ?_) | (at_builtin; refine wpList_append_ran rfl _ _ 23 23 rfl rfl (.slice ra K.rows.length rc) (.slice (some ⟨x2.heap.size, 0, none⟩) 1 1) (.slice a3 (K.rows.length + 1) c3) x3 rfl rfl HRUN3.out ?_))
              clear HRUN HRUN2 HRUN3 xa za x1c x1f x1l x2c x2f x2l x3c x3f x3l B1 B2 B3 C1 C2
              generalize x3.setCell ⟨qa, 2, none⟩ (.slice a3 (K.rows.length + 1) c3) = Y3 at *
              have HBY : Hid (Below w.heap.size w Y3) := hid ⟨KP.out.os.trans HBV.out.os, KP.out.tape.trans HBV.out.tape, KP.out.output.trans HBV.out.output, Nat.le_trans HBV.out.size KP.out.size, fun k hk => (KP.out.block k (Nat.lt_of_lt_of_le hk HBV.out.size) (.inl (Nat.lt_succ_of_lt hk))).trans (HBV.out.block k hk)⟩
              have HOY : Hid (BkR Y3 K (.slice da2 K.dec.length dc2) (.slice ea2 K.enc.length ec2) (.slice ra2 K.rows.length rc2)) := hid (BkO.row ⟨own_keep HOB.out.hd (fun k q => .inr (by have := (own_type HOB.out.hd q).1; omega)) KP.out, own_keep HOB.out.he (fun k q => .inr (by have := (own_type HOB.out.he q).1; omega)) KP.out, own_keep HOB.out.hr (fun k q => .inr (by have := (own_type HOB.out.hr q).1; omega)) KP.out, HOB.out.ap⟩)
              have BbY : Hid (Blk Y3 qb 25 #[.slice da2 K.dec.length dc2, .slice ea2 K.enc.length ec2, .slice ra2 K.rows.length rc2]) := hid (Bb.out.keep KP.out (.inr hq3))
              have BtY : Hid (Blk Y3 w.heap.size 31 #[.slice ta l.length tc]) := hid (Bt.out.keep KP.out (.inl (Nat.lt_succ_self _)))
              clear HAR HOB Bb Bt KP HBV h2
              go_wp2_with fail
              go_loopw [12] (fun r wr => ∃ j : Nat, r = .int .i64 j ∧ j ≤ K.dec.length ∧ Hid (Below Y3.heap.size Y3 wr)) (fun r wr => K.dec.length - numAt wr r)
              case atStart => exact ⟨0, rfl, by omega, hid (Below.refl _ _)⟩
              case round =>
                obtain ⟨j, rfl, hj, hb⟩ := hrel
                have Bw := BbY.out.kept hb.out
                have xb := Bw.cellF
                have zb := Bw.lt
                by_cases hlt : j < K.dec.length
                · have h2 : (j : Int) < (K.dec.length : Int) := by omega
                  obtain ⟨pb, po, epb, hc⟩ := rowAt (g := cIN) (fun _ => rfl) (HOY.out.hd.kept hb.out) (i := j) (x := K.dec[j]) (by simp [hlt])
                  subst epb
                  have c0 := hc 0 _ rfl
                  clear hc
                  simp only [Nat.add_zero] at c0
                  have hpb : pb < wr.heap.size := World.block_lt_of_cell? _ _ c0
                  have ho := HOP.out _ (List.getElem_mem hlt)
                  generalize K.dec[j] = x at *
                  have q1 : (x.op == 99) = false := by rw [beq_eq_false_iff_ne]; omega
                  have q2 : (x.op == 98) = false := by rw [beq_eq_false_iff_ne]; omega
                  clear ho
                  go_wp2
                  first
                    | exact ⟨⟨j + 1, by simp, by omega, hb⟩, by simp [numAt]; omega⟩
                    | (go_quiet (fail); go_wp2; exact ⟨⟨j + 1, by simp, by omega, hid (bl_drewN hb.out _)⟩, by simp [numAt]; omega⟩)
                · have h2 : ¬ (j : Int) < (K.dec.length : Int) := by omega
                  have Btw := BtY.out.kept hb.out
                  have xt := Btw.cellF
                  have zt := Btw.lt
                  have HBW : Hid (Below w.heap.size w wr) := hid (HBY.out.trans (hb.out.mono HBY.out.size))
                  have HOW := hid (HOY.out.kept hb.out)
                  replace Bw := hid Bw
                  go_wp2_with fail
                  clear xb zb
                  refine (HLT.out _ HBW.out).mono ?_
                  rintro e w5 ⟨da3, dc3, ea3, ec3, ra3, rc3, rfl, ho, hb5⟩
                  replace Bw := hid (Bw.out.kept hb5)
                  replace HOW := hid (HOW.out.kept hb5)
                  have HOC := hid ho.row
                  replace HBW := hid (bl_then HBW.out hb5)
                  clear ho hb5 xt zt Btw
                  have xb := Bw.out.cellF
                  have zb := Bw.out.lt
                  go_wp2_with fail
                  refine (sameBlockD _ K K _ _ _ _ _ _ _ _ _ _ _ _ (HOW.out.kept (below_alloc _)) (HOC.out.kept (below_alloc _))).mono ?_
                  rintro e w6 ⟨r, rfl, hr, hb6⟩
                  obtain rfl : r = true := hr.2 rfl
                  replace HBW := hid (bl_then (bl_alloc HBW.out _) hb6)
                  go_wp2
                  go_ret
                  exact ⟨rfl, HBW.out⟩
end Go.Proofs.YtmcbllannkhfaaaGreatDoor
