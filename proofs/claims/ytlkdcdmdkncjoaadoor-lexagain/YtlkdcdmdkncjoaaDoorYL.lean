/-
  The reader's words.
-/
import Derived.Test.YtlkdcdmdkncjoaaDoorYJ
import Derived.Test.YtlkdcdmdkncjoaaDoorYK
namespace Go.Proofs.YtlkdcdmdkncjoaaDoor
open Go.RowKit
set_option maxRecDepth 1000000
set_option maxHeartbeats 16000000
set_option linter.unusedVariables false

/-- How far the words are. -/
structure Inv (w0 w : World) (p : Nat) (xs : List Int) (j : Nat) (kept : Value) (wds : List Wd) (ws : List (Mw × Value)) : Prop where
  rd : ∃ fr bl bc, Rd w p xs fr bl bc j kept
  is : ws.map Prod.fst = wds.map (mw xs)
  kp : Kp w w0.heap.size p 39 kept ws
  kk : Keep (· ≠ p) w0 w
  le : j ≤ xs.length
  cnt : ws.length ≤ j
  lx : lxAt xs j wds = lx xs
theorem tok_bad {xs : List Int} {i : Nat} {c : Int} (h : tok xs i = .bad c) : c = 11 ∨ c = 7 := by
  unfold tok at h
  split at h
  · cases h
  · split at h
    · unfold tokC at h
      split at h
      · cases h
      · split at h
        · split at h
          · cases h; exact .inl rfl
          · cases h
        · cases h; exact .inl rfl
    · split at h
      · cases h
      · split at h
        · unfold tokN at h
          split at h
          · cases h; exact .inl rfl
          · split at h
            · cases h; exact .inr rfl
            · cases h
        · split at h
          · unfold tokQ at h
            split at h
            · cases h; exact .inl rfl
            · split at h
              · cases h; exact .inl rfl
              · cases h
          · split at h
            · cases h
            · cases h; exact .inl rfl
theorem keep_old {p : Nat} {kept : Value} {w0 w w' : World} {n t : Nat} {l : List Value} (h : Keep (· ≠ p) w0 w) (hr : w.ownsRow w0.heap.size t 6 kept n l) (g : Keep (fun k => k ≠ p ∧ kept.ownBlock ≠ some k) w w') : Keep (· ≠ p) w0 w' :=
  ⟨g.os.trans h.os, g.tape.trans h.tape, g.output.trans h.output, Nat.le_trans h.size g.size, fun k hk hf => by
    rw [g.block k (Nat.lt_of_lt_of_le hk h.size) ⟨hf, fun e => by have := (hr.lt k e).1; omega⟩, h.block k hk hf]⟩
theorem went_step {w0 w1 w2 : World} {p : Nat} {xs : List Int} {j : Nat} {kept : Value} {wds : List Wd} {ws : List (Mw × Value)} {e : Ending} (hI : Inv w0 w1 p xs j kept wds ws) (hj : j < xs.length)
    (h : Went w0.heap.size xs p j (lnA xs j) (clA xs j) kept ws w1 (tok xs j) e w2) :
    (∃ k kept' wds' ws', e = .returned (.int .i64 0) ∧ j < k ∧ Inv w0 w2 p xs k kept' wds' ws') ∨ (∃ c, (c = 11 ∨ c = 7) ∧ e = .returned (.int .i64 c) ∧ lx xs = ⟨[], c, j⟩ ∧ (∃ i' kept', Rd w2 p xs j (lnA xs j) (clA xs j) i' kept') ∧ Keep (· ≠ p) w0 w2) := by
  cases ht : tok xs j with
  | skip k =>
    rw [ht] at h
    obtain ⟨he, hr, hk⟩ := h
    have hlt := tok_skip hj ht
    exact .inl ⟨k, kept, wds, ws, he, hlt.1, ⟨_, _, _, hr⟩, hI.is, hI.kp.keep hk, hI.kk.trans hk, hlt.2, by have := hI.cnt; omega, by rw [← lxAt_skip hj ht]; exact hI.lx⟩
  | word kind k n b =>
    rw [ht] at h
    obtain ⟨he, kept', bv, hr, hkp, hk⟩ := h
    have hlt := tok_word hj ht
    refine .inl ⟨k, kept', wds ++ [⟨kind, j, k, n, b⟩], _, he, hlt.1, ⟨_, _, _, hr⟩, ?_, hkp, keep_old hI.kk hI.kp.row hk, hlt.2, by have := hI.cnt; simp; omega, by rw [← lxAt_word hj ht]; exact hI.lx⟩
    rw [List.map_append, List.map_append, hI.is]
    rfl
  | bad c =>
    rw [ht] at h
    obtain ⟨he, i', hr, hk⟩ := h
    exact .inr ⟨c, tok_bad ht, he, by rw [← hI.lx, lxAt_bad hj ht], ⟨i', kept, hr⟩, hI.kk.trans hk⟩
/-- What words leaves. -/
def Worded (xs : List Int) (p : Nat) (w : World) (e : Ending) (w' : World) : Prop :=
  e = .returned (.int .i64 (lx xs).code) ∧ Keep (· ≠ p) w w' ∧
  (((lx xs).code = 0 ∧ ∃ fr bl bc i kept ws, Rd w' p xs fr bl bc i kept ∧ Kp w' w.heap.size p 39 kept ws ∧ ws.map Prod.fst = (lx xs).ws.map (mw xs)) ∨
   (((lx xs).code = 11 ∨ (lx xs).code = 7) ∧ ∃ fr i kept, Rd w' p xs fr (lnA xs (lx xs).pos) (clA xs (lx xs).pos) i kept))
theorem went_name {base : Nat} {xs : List Int} {p fr : Nat} {bl bc : Int} {kept : Value} {ws : List (Mw × Value)} {w w' : World} {t : Tk} {kind n : Int} {j : Nat} {b : List Int} (ht : t = .word kind j n b) (h : Took base xs p fr bl bc kept ws w kind j n b w') : Went base xs p fr bl bc kept ws w t (.returned (.int .i64 0)) w' := by subst ht; exact ⟨rfl, h⟩
theorem went_skip {base : Nat} {xs : List Int} {p fr : Nat} {bl bc : Int} {kept : Value} {ws : List (Mw × Value)} {w w' : World} {t : Tk} {j : Nat} (ht : t = .skip j) (h : Rd w' p xs fr bl bc j kept) (hk : Keep (· ≠ p) w w') : Went base xs p fr bl bc kept ws w t (.returned (.int .i64 0)) w' := by subst ht; exact ⟨rfl, h, hk⟩
theorem went_bad {base : Nat} {xs : List Int} {p fr : Nat} {bl bc : Int} {kept : Value} {ws : List (Mw × Value)} {w w' : World} {t : Tk} {j : Nat} {c : Int} (ht : t = .bad c) (h : Rd w' p xs fr bl bc j kept) (hk : Keep (· ≠ p) w w') : Went base xs p fr bl bc kept ws w t (.returned (.int .i64 c)) w' := by subst ht; exact ⟨rfl, j, h, hk⟩
theorem went_eq {base : Nat} {xs : List Int} {p fr : Nat} {bl bc : Int} {kept : Value} {ws : List (Mw × Value)} {w w' : World} {t t' : Tk} {e : Ending} (ht : t = t') (h : Went base xs p fr bl bc kept ws w t e w') : Went base xs p fr bl bc kept ws w t' e w' := by subst ht; exact h
theorem Inv.kept {w0 w1 w2 : World} {p : Nat} {xs : List Int} {j : Nat} {kept : Value} {wds : List Wd} {ws : List (Mw × Value)} (h : Inv w0 w1 p xs j kept wds ws) (hb : Below w1.heap.size w1 w2) : Inv w0 w2 p xs j kept wds ws :=
  ⟨by obtain ⟨fr, bl, bc, hr⟩ := h.rd; exact ⟨fr, bl, bc, hr.kept hb⟩, h.is, h.kp.kept hb, h.kk.trans (Keep.ofBelow hb), h.le, h.cnt, h.lx⟩
theorem worded_bad {xs : List Int} {p : Nat} {w w' : World} {c : Int} {j : Nat} (hc : c = 11 ∨ c = 7) (hlx : lx xs = ⟨[], c, j⟩) (hr : ∃ i' kept', Rd w' p xs j (lnA xs j) (clA xs j) i' kept') (hk : Keep (· ≠ p) w w') : Worded xs p w (.returned (.int .i64 c)) w' := by
  obtain ⟨i', kept', hr⟩ := hr
  unfold Worded
  rw [hlx]
  exact ⟨rfl, hk, .inr ⟨hc, j, i', kept', hr⟩⟩
theorem worded_end {xs : List Int} {p : Nat} {w w1 w2 : World} {j : Nat} {kept kept' bv : Value} {wds : List Wd} {ws : List (Mw × Value)} (hI : Inv w w1 p xs j kept wds ws) (hj : j = xs.length) (hr : Rd w2 p xs j (lnA xs j) (clA xs j) j kept') (hkp : Kp w2 w.heap.size p 39 kept' (ws ++ [(⟨5, cut xs j j, 0, [], lnA xs j, clA xs j⟩, bv)])) (hk : Keep (fun k => k ≠ p ∧ kept.ownBlock ≠ some k) w1 w2) : Worded xs p w (.returned (.int .i64 0)) w2 := by
  unfold Worded
  rw [← hI.lx, lxAt_end hj]
  refine ⟨rfl, keep_old hI.kk hI.kp.row hk, .inl ⟨rfl, _, _, _, _, kept', _, hr, hkp, ?_⟩⟩
  rw [List.map_append, List.map_append, hI.is]
  rfl
section
variable (p : Nat) (xs : List Int) (w : World)
theorem wordsW (hb : ∀ x ∈ xs, 0 ≤ x ∧ x ≤ 255) (hl : xs.length ≤ 65536) (h : Rd w p xs 0 0 0 0 (.slice none 0 0)) (hs : Sentinel w 2) (hp : p ≠ 2) :
    Calls Tryd.prog 13 #[.pointer (some ⟨p, 0, none⟩)] w fun e w' => Worded xs p w e w' := by
  have HR := hid h
  have HI0 : Hid (Inv w w p xs 0 (.slice none 0 0) [] []) := hid ⟨⟨_, _, _, h⟩, rfl, Kp.nil _ _ _ _, Keep.refl _ _, by omega, by simp, rfl⟩
  have HSN := hid hs
  have HNP := hid hp
  have HBB := hid hb
  have HBD := hid (fun j => bt_bd hb j)
  clear h hs hp hb
  go_enter Tryd.func13, Tryd.ntmps13
  go_wp2
  refine wp_scope_mid (fun g a' w' => ∃ (j : Nat) (kept : Value) (wds : List Wd) (ws : List (Mw × Value)) (u1 u3 u4 u5 u6 u7 u8 u9 u10 u11 u12 u13 u14 u15 u16 u17 u18 u19 u20 u21 u22 u23 u24 u25 u26 u27 u28 u29 u30 u31 u32 u33 u34 u35 u36 u37 u38 u39 u40 u41 u42 u43 u44 u45 u46 u47 u48 u49 u50 u51 u52 u53 u54 u55 u56 u57 u58 : Value), a' = { tmps := List.toArray (.pointer (some ⟨p, 0, none⟩) :: u1 :: .int .i64 0 :: u3 :: u4 :: u5 :: u6 :: u7 :: u8 :: u9 :: u10 :: u11 :: u12 :: u13 :: u14 :: u15 :: u16 :: u17 :: u18 :: u19 :: u20 :: u21 :: u22 :: u23 :: u24 :: u25 :: u26 :: u27 :: u28 :: u29 :: u30 :: u31 :: u32 :: u33 :: u34 :: u35 :: u36 :: u37 :: u38 :: u39 :: u40 :: u41 :: u42 :: u43 :: u44 :: u45 :: u46 :: u47 :: u48 :: u49 :: u50 :: u51 :: u52 :: u53 :: u54 :: u55 :: u56 :: u57 :: u58 :: []), defers := [] } ∧ g = xs.length - j ∧ Hid (Inv w w' p xs j kept wds ws)) rfl ?_ ?_
  · rintro g a' w' ⟨j, kept, wds, ws, u1, u3, u4, u5, u6, u7, u8, u9, u10, u11, u12, u13, u14, u15, u16, u17, u18, u19, u20, u21, u22, u23, u24, u25, u26, u27, u28, u29, u30, u31, u32, u33, u34, u35, u36, u37, u38, u39, u40, u41, u42, u43, u44, u45, u46, u47, u48, u49, u50, u51, u52, u53, u54, u55, u56, u57, u58, rfl, rfl, I0⟩
    obtain ⟨fr, bl, bc, hR⟩ := I0.out.rd
    obtain ⟨c0, c1, c2, c3, c4, c5, c6, c7⟩ := hR.cells
    have f1 := hR.blk.frozen 1
    have f3 := hR.blk.frozen 3
    have f4 := hR.blk.frozen 4
    have HRR := hid hR
    clear hR
    go_wp2
    go_region
    obtain ⟨w1, hw1⟩ : ∃ w1, (((w'.setCell ⟨p, 1, none⟩ (.int .i64 j)).setCell ⟨p, 3, none⟩ (.int .i64 (lnA xs j))).setCell ⟨p, 4, none⟩ (.int .i64 (clA xs j))).drew = w1 := ⟨_, rfl⟩
    have HKW : Keep (· ≠ p) w' w1 := by
      rw [← hw1]
      exact (((Keep.setCell _ _ _ (by simp)).trans (Keep.setCell _ _ _ (by simp))).trans (Keep.setCell _ _ _ (by simp))).trans (Keep.ofBelow (below_drew1 _))
    have R1 : Hid (Rd w1 p xs j (lnA xs j) (clA xs j) j kept) := hid (by
      rw [← hw1]
      exact ⟨Blk.kept (Blk.is (((HRR.out.blk.set 1 _).set 3 _).set 4 _) (by simp)) (below_drew1 _)⟩)
    have I1 : Hid (Inv w w1 p xs j kept wds ws) := hid ⟨⟨_, _, _, R1.out⟩, I0.out.is, I0.out.kp.keep HKW, I0.out.kk.trans HKW, I0.out.le, I0.out.cnt, I0.out.lx⟩
    have hjle := I0.out.le
    have hcnt : ws.length ≤ 70000 := by have := I0.out.cnt; omega
    go_wp2_with fail
    try rw [hw1]
    clear hw1 HKW c0 c1 c2 c3 c4 c5 c6 c7 f1 f3 f4 HRR I0
    refine (peekW p xs j _ _ j kept _ HBB.out hjle hl R1.out).mono ?_
    rintro e w2 ⟨rfl, B2⟩
    have R2 := hid (R1.out.kept B2)
    have I2 := hid (I1.out.kept B2)
    clear B2 R1 I1
    go_wp2_with fail
    refine (endedW p xs j _ _ j kept _ R2.out).mono ?_
    rintro e w3 ⟨rfl, B3⟩
    have R3 := hid (R2.out.kept B3)
    have I3 := hid (I2.out.kept B3)
    clear B3 R2 I2
    have hbs : w.heap.size ≤ w3.heap.size := I3.out.kk.size
    by_cases hje : j = xs.length
    · rw [show decide (j = xs.length) = true by simpa using hje]
      have HJ := hid hje
      clear hje
      go_wp2_with fail
      refine (keepW p xs j _ _ j kept _ w.heap.size ws 5 0 [] none 0 (Nat.le_refl _) hjle hl R3.out I3.out.kp hbs hcnt (reads_nil _) (fun y hy => by cases hy)).mono ?_
      rintro e w4 ⟨rfl, kept', R4, K4, B4⟩
      have HH := hid (worded_end I3.out HJ.out R4 K4 B4)
      clear R4 K4 B4
      go_wp2
      simp only [Exit.jumps]
      go_ret
      exact HH.out
    have hjl : j < xs.length := by omega
    rw [show decide (j = xs.length) = false by simpa using hje]
    clear hje
    obtain ⟨hc0, hc1⟩ := HBD.out j
    go_wp2_with fail
    refine (blankW (bt xs j) hc0 hc1 _).mono ?_
    rintro e w3' ⟨rfl, rfl⟩
    cases hbl : isBl (bt xs j) with
    | true =>
      have HT : Hid (tok xs j = .skip (j + 1)) := hid (by unfold tok; rw [if_pos hbl])
      clear hbl
      go_wp2_with fail
      refine (passW p xs j _ _ j kept _ HBB.out hjl hl R3.out).mono ?_
      rintro e w4 ⟨rfl, R4, K4⟩
      have hW := went_skip (base := w.heap.size) (ws := ws) HT.out R4 K4
      clear R4 K4
      rcases went_step I3.out hjl hW with ⟨k, kept', wds', ws', he, hjk, hI⟩ | ⟨c, hc, he, hlx, hRR, hKK⟩
      · clear he
        have hkl := hI.le
        have HI := hid hI
        clear hI hW
        go_wp2
        go_step3
        exact ⟨rfl, xs.length - k, by omega, k, kept', wds', ws', _, _, _, _, _, _, _, _, _, _, _, _, _, _, _, _, _, _, _, _, _, _, _, _, _, _, _, _, _, _, _, _, _, _, _, _, _, _, _, _, _, _, _, _, _, _, _, _, _, _, _, _, _, _, _, _, _, rfl, rfl, HI⟩
      · exfalso
        simp at he
        omega
    | false =>
    by_cases h47 : bt xs j = 47
    · have HT : Hid (tokC xs j = tok xs j) := hid (by unfold tok; rw [if_neg (by simp [hbl]), if_pos h47])
      have e47 : (bt xs j == 47) = true := by simpa using h47
      clear h47 hbl
      go_wp2_with fail
      refine (commentW p xs j _ _ j kept _ w.heap.size ws HBB.out hjl hl R3.out).mono ?_
      rintro e w4 hW
      replace hW := went_eq HT.out hW
      rcases went_step I3.out hjl hW with ⟨k, kept', wds', ws', he, hjk, hI⟩ | ⟨c, hc, he, hlx, hRR, hKK⟩
      · subst he
        have hkl := hI.le
        have HI := hid hI
        clear hI hW
        go_wp2
        go_step3
        exact ⟨rfl, xs.length - k, by omega, k, kept', wds', ws', _, _, _, _, _, _, _, _, _, _, _, _, _, _, _, _, _, _, _, _, _, _, _, _, _, _, _, _, _, _, _, _, _, _, _, _, _, _, _, _, _, _, _, _, _, _, _, _, _, _, _, _, _, _, _, _, _, rfl, rfl, HI⟩
      · subst he
        have HW : Hid (Worded xs p w (.returned (.int .i64 c)) w4) := hid (worded_bad hc hlx hRR hKK)
        clear hlx hRR hKK hW
        rcases hc with rfl | rfl
        all_goals
          go_wp2
          simp only [Exit.jumps]
          go_ret
          exact HW.out
    have e47 : (bt xs j == 47) = false := by simpa using h47
    go_wp2_with fail
    refine (beginsW (bt xs j) _).mono ?_
    rintro e w3' ⟨rfl, rfl⟩
    cases hlt : letB (bt xs j) with
    | true =>
      have HT : Hid (tok xs j = .word 1 (sc namB xs (j + 1)) 0 []) := hid (by unfold tok; rw [if_neg (by simp [hbl]), if_neg h47, if_pos hlt])
      clear hbl h47 hlt
      go_wp2_with fail
      refine (nameW p xs j _ _ j kept _ w.heap.size ws HBB.out (Nat.le_refl _) hjl hl R3.out I3.out.kp hbs hcnt).mono ?_
      rintro e w4 ⟨rfl, T4⟩
      have hW := went_name HT.out T4
      clear T4
      rcases went_step I3.out hjl hW with ⟨k, kept', wds', ws', he, hjk, hI⟩ | ⟨c, hc, he, hlx, hRR, hKK⟩
      · clear he
        have hkl := hI.le
        have HI := hid hI
        clear hI hW
        go_wp2
        go_step3
        exact ⟨rfl, xs.length - k, by omega, k, kept', wds', ws', _, _, _, _, _, _, _, _, _, _, _, _, _, _, _, _, _, _, _, _, _, _, _, _, _, _, _, _, _, _, _, _, _, _, _, _, _, _, _, _, _, _, _, _, _, _, _, _, _, _, _, _, _, _, _, _, _, rfl, rfl, HI⟩
      · exfalso
        simp at he
        omega
    | false =>
    go_wp2_with fail
    refine (tenW (bt xs j) hc0 hc1 _).mono ?_
    rintro e w3' ⟨rfl, rfl⟩
    cases hdg : digB (bt xs j) with
    | true =>
      have HT : Hid (tokN xs j = tok xs j) := hid (by unfold tok; rw [if_neg (by simp [hbl]), if_neg h47, if_neg (by simp [hlt]), if_pos hdg])
      clear hbl h47 hlt hdg
      go_wp2_with fail
      refine (numberW p xs j _ _ j kept _ w.heap.size ws HBB.out rfl hjl hl R3.out I3.out.kp hbs hcnt (HSN.out.keep I3.out.kk HNP.out.symm) HNP.out).mono ?_
      rintro e w4 hW
      replace hW := went_eq HT.out hW
      rcases went_step I3.out hjl hW with ⟨k, kept', wds', ws', he, hjk, hI⟩ | ⟨c, hc, he, hlx, hRR, hKK⟩
      · subst he
        have hkl := hI.le
        have HI := hid hI
        clear hI hW
        go_wp2
        go_step3
        exact ⟨rfl, xs.length - k, by omega, k, kept', wds', ws', _, _, _, _, _, _, _, _, _, _, _, _, _, _, _, _, _, _, _, _, _, _, _, _, _, _, _, _, _, _, _, _, _, _, _, _, _, _, _, _, _, _, _, _, _, _, _, _, _, _, _, _, _, _, _, _, _, rfl, rfl, HI⟩
      · subst he
        have HW : Hid (Worded xs p w (.returned (.int .i64 c)) w4) := hid (worded_bad hc hlx hRR hKK)
        clear hlx hRR hKK hW
        rcases hc with rfl | rfl
        all_goals
          go_wp2
          simp only [Exit.jumps]
          go_ret
          exact HW.out
    | false =>
    by_cases h34 : bt xs j = 34
    · have HT : Hid (tokQ xs j = tok xs j) := hid (by unfold tok; rw [if_neg (by simp [hbl]), if_neg h47, if_neg (by simp [hlt]), if_neg (by simp [hdg]), if_pos h34])
      have e34 : (bt xs j == 34) = true := by simpa using h34
      clear hbl h47 hlt hdg h34
      go_wp2_with fail
      refine (quotedW p xs j _ _ j kept _ w.heap.size ws HBB.out rfl hjl hl R3.out I3.out.kp hbs hcnt).mono ?_
      rintro e w4 hW
      replace hW := went_eq HT.out hW
      rcases went_step I3.out hjl hW with ⟨k, kept', wds', ws', he, hjk, hI⟩ | ⟨c, hc, he, hlx, hRR, hKK⟩
      · subst he
        have hkl := hI.le
        have HI := hid hI
        clear hI hW
        go_wp2
        go_step3
        exact ⟨rfl, xs.length - k, by omega, k, kept', wds', ws', _, _, _, _, _, _, _, _, _, _, _, _, _, _, _, _, _, _, _, _, _, _, _, _, _, _, _, _, _, _, _, _, _, _, _, _, _, _, _, _, _, _, _, _, _, _, _, _, _, _, _, _, _, _, _, _, _, rfl, rfl, HI⟩
      · subst he
        have HW : Hid (Worded xs p w (.returned (.int .i64 c)) w4) := hid (worded_bad hc hlx hRR hKK)
        clear hlx hRR hKK hW
        rcases hc with rfl | rfl
        all_goals
          go_wp2
          simp only [Exit.jumps]
          go_ret
          exact HW.out
    have e34 : (bt xs j == 34) = false := by simpa using h34
    go_wp2_with fail
    refine (signsW (bt xs j) hc0 hc1 _).mono ?_
    rintro e w3' ⟨rfl, rfl⟩
    cases hsg : sgnB (bt xs j) with
    | true =>
      have HT : Hid (tok xs j = .word 4 (j + 1) 0 []) := hid (by unfold tok; rw [if_neg (by simp [hbl]), if_neg h47, if_neg (by simp [hlt]), if_neg (by simp [hdg]), if_neg h34, if_pos hsg])
      clear hbl h47 hlt hdg h34 hsg
      go_wp2_with fail
      refine (signW p xs j _ _ j kept _ w.heap.size ws HBB.out (Nat.le_refl _) hjl hl R3.out I3.out.kp hbs hcnt).mono ?_
      rintro e w4 ⟨rfl, T4⟩
      have hW := went_name HT.out T4
      clear T4
      rcases went_step I3.out hjl hW with ⟨k, kept', wds', ws', he, hjk, hI⟩ | ⟨c, hc, he, hlx, hRR, hKK⟩
      · clear he
        have hkl := hI.le
        have HI := hid hI
        clear hI hW
        go_wp2
        go_step3
        exact ⟨rfl, xs.length - k, by omega, k, kept', wds', ws', _, _, _, _, _, _, _, _, _, _, _, _, _, _, _, _, _, _, _, _, _, _, _, _, _, _, _, _, _, _, _, _, _, _, _, _, _, _, _, _, _, _, _, _, _, _, _, _, _, _, _, _, _, _, _, _, _, rfl, rfl, HI⟩
      · exfalso
        simp at he
        omega
    | false =>
    have HT : Hid (tok xs j = .bad 11) := hid (by unfold tok; rw [if_neg (by simp [hbl]), if_neg h47, if_neg (by simp [hlt]), if_neg (by simp [hdg]), if_neg h34, if_neg (by simp [hsg])])
    have HW : Hid (Worded xs p w (.returned (.int .i64 11)) w3) := hid (worded_bad (.inl rfl) (by rw [← I3.out.lx, lxAt_bad hjl HT.out]) ⟨_, _, R3.out⟩ I3.out.kk)
    clear hbl h47 hlt hdg h34 hsg
    go_wp2
    simp only [Exit.jumps]
    go_ret
    exact HW.out
  · intro R hX
    go_wp2
    rename_i K hK
    exact wp_label (hK _ _ (hX _ _ _ ⟨0, _, [], [], _, _, _, _, _, _, _, _, _, _, _, _, _, _, _, _, _, _, _, _, _, _, _, _, _, _, _, _, _, _, _, _, _, _, _, _, _, _, _, _, _, _, _, _, _, _, _, _, _, _, _, _, _, _, _, _, _, rfl, rfl, HI0⟩))
end
end Go.Proofs.YtlkdcdmdkncjoaaDoor
