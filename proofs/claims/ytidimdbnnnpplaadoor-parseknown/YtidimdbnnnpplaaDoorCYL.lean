/-
  The reader's words.
  The program's Split.
  The law's own looks: are an answer's words these? A short line; is a text refused so?
  Plain mathematics for places: they rise; the words of a text stand one behind the other.
-/
import Derived.Test.YtidimdbnnnpplaaDoorCYI
import Derived.Test.YtidimdbnnnpplaaDoorCYB
namespace Go.Proofs.YtidimdbnnnpplaaDoor
open Go.RowKit
set_option maxRecDepth 1000000
set_option maxHeartbeats 16000000
set_option linter.unusedVariables false

/-- How far the words are. -/
structure Inv (w0 w : World) (p : Nat) (xs : List Int) (j : Nat) (kept : Value) (wds : List Wd) (ws : List (Mw × Value)) : Prop where
  rd : ∃ fr bl bc, Rd w p xs fr bl bc j kept
  is : ws.map Prod.fst = wds.map (mw xs)
  kp : Kp w w0.heap.size p 85 kept ws
  kk : Keep (· ≠ p) w0 w
  le : j ≤ xs.length
  cnt : ws.length ≤ j
  lx : lxAt xs j wds = lx xs
theorem tok_bad {xs : List Int} {i : Nat} {c : Int} (h : tok xs i = .bad c) : c = 11 ∨ c = 7 := by
  unfold tok at h
  split at h
  · cases h
  · split at h
    · unfold tokC at h
      split at h
      · cases h
      · split at h
        · split at h
          · cases h; exact .inl rfl
          · cases h
        · cases h; exact .inl rfl
    · split at h
      · cases h
      · split at h
        · unfold tokN at h
          split at h
          · cases h; exact .inl rfl
          · split at h
            · cases h; exact .inr rfl
            · cases h
        · split at h
          · unfold tokQ at h
            split at h
            · cases h; exact .inl rfl
            · split at h
              · cases h; exact .inl rfl
              · cases h
          · split at h
            · cases h
            · cases h; exact .inl rfl
theorem keep_old {p : Nat} {kept : Value} {w0 w w' : World} {n t : Nat} {l : List Value} (h : Keep (· ≠ p) w0 w) (hr : w.ownsRow w0.heap.size t 6 kept n l) (g : Keep (fun k => k ≠ p ∧ kept.ownBlock ≠ some k) w w') : Keep (· ≠ p) w0 w' :=
  ⟨g.os.trans h.os, g.tape.trans h.tape, g.output.trans h.output, Nat.le_trans h.size g.size, fun k hk hf => by
    rw [g.block k (Nat.lt_of_lt_of_le hk h.size) ⟨hf, fun e => by have := (hr.lt k e).1; omega⟩, h.block k hk hf]⟩
theorem went_step {w0 w1 w2 : World} {p : Nat} {xs : List Int} {j : Nat} {kept : Value} {wds : List Wd} {ws : List (Mw × Value)} {e : Ending} (hI : Inv w0 w1 p xs j kept wds ws) (hj : j < xs.length)
    (h : Went w0.heap.size xs p j (lnA xs j) (clA xs j) kept ws w1 (tok xs j) e w2) :
    (∃ k kept' wds' ws', e = .returned (.int .i64 0) ∧ j < k ∧ Inv w0 w2 p xs k kept' wds' ws') ∨ (∃ c, (c = 11 ∨ c = 7) ∧ e = .returned (.int .i64 c) ∧ lx xs = ⟨[], c, j⟩ ∧ (∃ i' kept', Rd w2 p xs j (lnA xs j) (clA xs j) i' kept') ∧ Keep (· ≠ p) w0 w2) := by
  cases ht : tok xs j with
  | skip k =>
    rw [ht] at h
    obtain ⟨he, hr, hk⟩ := h
    have hlt := tok_skip hj ht
    exact .inl ⟨k, kept, wds, ws, he, hlt.1, ⟨_, _, _, hr⟩, hI.is, hI.kp.keep hk, hI.kk.trans hk, hlt.2, by have := hI.cnt; omega, by rw [← lxAt_skip hj ht]; exact hI.lx⟩
  | word kind k n b =>
    rw [ht] at h
    obtain ⟨he, kept', bv, hr, hkp, hk⟩ := h
    have hlt := tok_word hj ht
    refine .inl ⟨k, kept', wds ++ [⟨kind, j, k, n, b⟩], _, he, hlt.1, ⟨_, _, _, hr⟩, ?_, hkp, keep_old hI.kk hI.kp.row hk, hlt.2, by have := hI.cnt; simp; omega, by rw [← lxAt_word hj ht]; exact hI.lx⟩
    rw [List.map_append, List.map_append, hI.is]
    rfl
  | bad c =>
    rw [ht] at h
    obtain ⟨he, i', hr, hk⟩ := h
    exact .inr ⟨c, tok_bad ht, he, by rw [← hI.lx, lxAt_bad hj ht], ⟨i', kept, hr⟩, hI.kk.trans hk⟩
/-- What words leaves. -/
def Worded (xs : List Int) (p : Nat) (w : World) (e : Ending) (w' : World) : Prop :=
  e = .returned (.int .i64 (lx xs).code) ∧ Keep (· ≠ p) w w' ∧
  (((lx xs).code = 0 ∧ ∃ fr bl bc i kept ws, Rd w' p xs fr bl bc i kept ∧ Kp w' w.heap.size p 85 kept ws ∧ ws.map Prod.fst = (lx xs).ws.map (mw xs)) ∨
   (((lx xs).code = 11 ∨ (lx xs).code = 7) ∧ ∃ fr i kept, Rd w' p xs fr (lnA xs (lx xs).pos) (clA xs (lx xs).pos) i kept))
theorem went_name {base : Nat} {xs : List Int} {p fr : Nat} {bl bc : Int} {kept : Value} {ws : List (Mw × Value)} {w w' : World} {t : Tk} {kind n : Int} {j : Nat} {b : List Int} (ht : t = .word kind j n b) (h : Took base xs p fr bl bc kept ws w kind j n b w') : Went base xs p fr bl bc kept ws w t (.returned (.int .i64 0)) w' := by subst ht; exact ⟨rfl, h⟩
theorem went_skip {base : Nat} {xs : List Int} {p fr : Nat} {bl bc : Int} {kept : Value} {ws : List (Mw × Value)} {w w' : World} {t : Tk} {j : Nat} (ht : t = .skip j) (h : Rd w' p xs fr bl bc j kept) (hk : Keep (· ≠ p) w w') : Went base xs p fr bl bc kept ws w t (.returned (.int .i64 0)) w' := by subst ht; exact ⟨rfl, h, hk⟩
theorem went_bad {base : Nat} {xs : List Int} {p fr : Nat} {bl bc : Int} {kept : Value} {ws : List (Mw × Value)} {w w' : World} {t : Tk} {j : Nat} {c : Int} (ht : t = .bad c) (h : Rd w' p xs fr bl bc j kept) (hk : Keep (· ≠ p) w w') : Went base xs p fr bl bc kept ws w t (.returned (.int .i64 c)) w' := by subst ht; exact ⟨rfl, j, h, hk⟩
theorem went_eq {base : Nat} {xs : List Int} {p fr : Nat} {bl bc : Int} {kept : Value} {ws : List (Mw × Value)} {w w' : World} {t t' : Tk} {e : Ending} (ht : t = t') (h : Went base xs p fr bl bc kept ws w t e w') : Went base xs p fr bl bc kept ws w t' e w' := by subst ht; exact h
theorem Inv.kept {w0 w1 w2 : World} {p : Nat} {xs : List Int} {j : Nat} {kept : Value} {wds : List Wd} {ws : List (Mw × Value)} (h : Inv w0 w1 p xs j kept wds ws) (hb : Below w1.heap.size w1 w2) : Inv w0 w2 p xs j kept wds ws :=
  ⟨by obtain ⟨fr, bl, bc, hr⟩ := h.rd; exact ⟨fr, bl, bc, hr.kept hb⟩, h.is, h.kp.kept hb, h.kk.trans (Keep.ofBelow hb), h.le, h.cnt, h.lx⟩
theorem worded_bad {xs : List Int} {p : Nat} {w w' : World} {c : Int} {j : Nat} (hc : c = 11 ∨ c = 7) (hlx : lx xs = ⟨[], c, j⟩) (hr : ∃ i' kept', Rd w' p xs j (lnA xs j) (clA xs j) i' kept') (hk : Keep (· ≠ p) w w') : Worded xs p w (.returned (.int .i64 c)) w' := by
  obtain ⟨i', kept', hr⟩ := hr
  unfold Worded
  rw [hlx]
  exact ⟨rfl, hk, .inr ⟨hc, j, i', kept', hr⟩⟩
theorem worded_end {xs : List Int} {p : Nat} {w w1 w2 : World} {j : Nat} {kept kept' bv : Value} {wds : List Wd} {ws : List (Mw × Value)} (hI : Inv w w1 p xs j kept wds ws) (hj : j = xs.length) (hr : Rd w2 p xs j (lnA xs j) (clA xs j) j kept') (hkp : Kp w2 w.heap.size p 85 kept' (ws ++ [(⟨5, cut xs j j, 0, [], lnA xs j, clA xs j⟩, bv)])) (hk : Keep (fun k => k ≠ p ∧ kept.ownBlock ≠ some k) w1 w2) : Worded xs p w (.returned (.int .i64 0)) w2 := by
  unfold Worded
  rw [← hI.lx, lxAt_end hj]
  refine ⟨rfl, keep_old hI.kk hI.kp.row hk, .inl ⟨rfl, _, _, _, _, kept', _, hr, hkp, ?_⟩⟩
  rw [List.map_append, List.map_append, hI.is]
  rfl
section
variable (p : Nat) (xs : List Int) (w : World)
theorem wordsW (hb : ∀ x ∈ xs, 0 ≤ x ∧ x ≤ 255) (hl : xs.length ≤ 65536) (h : Rd w p xs 0 0 0 0 (.slice none 0 0)) (hs : Sentinel w 2) (hp : p ≠ 2) :
    Calls Tryd.prog 10 #[.pointer (some ⟨p, 0, none⟩)] w fun e w' => Worded xs p w e w' := by
  have HR := hid h
  have HI0 : Hid (Inv w w p xs 0 (.slice none 0 0) [] []) := hid ⟨⟨_, _, _, h⟩, rfl, Kp.nil _ _ _ _, Keep.refl _ _, by omega, by simp, rfl⟩
  have HSN := hid hs
  have HNP := hid hp
  have HBB := hid hb
  have HBD := hid (fun j => bt_bd hb j)
  clear h hs hp hb
  go_enter Tryd.func10, Tryd.ntmps10
  go_wp2
  refine wp_scope_mid (fun g a' w' => ∃ (j : Nat) (kept : Value) (wds : List Wd) (ws : List (Mw × Value)) (u1 u3 u4 u5 u6 u7 u8 u9 u10 u11 u12 u13 u14 u15 u16 u17 u18 u19 u20 u21 u22 u23 u24 u25 u26 u27 u28 u29 u30 u31 u32 u33 u34 u35 u36 u37 u38 u39 u40 u41 u42 u43 u44 u45 u46 u47 u48 u49 u50 u51 u52 u53 u54 u55 u56 u57 u58 : Value), a' = { tmps := List.toArray (.pointer (some ⟨p, 0, none⟩) :: u1 :: .int .i64 0 :: u3 :: u4 :: u5 :: u6 :: u7 :: u8 :: u9 :: u10 :: u11 :: u12 :: u13 :: u14 :: u15 :: u16 :: u17 :: u18 :: u19 :: u20 :: u21 :: u22 :: u23 :: u24 :: u25 :: u26 :: u27 :: u28 :: u29 :: u30 :: u31 :: u32 :: u33 :: u34 :: u35 :: u36 :: u37 :: u38 :: u39 :: u40 :: u41 :: u42 :: u43 :: u44 :: u45 :: u46 :: u47 :: u48 :: u49 :: u50 :: u51 :: u52 :: u53 :: u54 :: u55 :: u56 :: u57 :: u58 :: []), defers := [] } ∧ g = xs.length - j ∧ Hid (Inv w w' p xs j kept wds ws)) rfl ?_ ?_
  · rintro g a' w' ⟨j, kept, wds, ws, u1, u3, u4, u5, u6, u7, u8, u9, u10, u11, u12, u13, u14, u15, u16, u17, u18, u19, u20, u21, u22, u23, u24, u25, u26, u27, u28, u29, u30, u31, u32, u33, u34, u35, u36, u37, u38, u39, u40, u41, u42, u43, u44, u45, u46, u47, u48, u49, u50, u51, u52, u53, u54, u55, u56, u57, u58, rfl, rfl, I0⟩
    obtain ⟨fr, bl, bc, hR⟩ := I0.out.rd
    obtain ⟨c0, c1, c2, c3, c4, c5, c6, c7⟩ := hR.cells
    have f1 := hR.blk.frozen 1
    have f3 := hR.blk.frozen 3
    have f4 := hR.blk.frozen 4
    have HRR := hid hR
    clear hR
    go_wp2
    go_region
    obtain ⟨w1, hw1⟩ : ∃ w1, (((w'.setCell ⟨p, 1, none⟩ (.int .i64 j)).setCell ⟨p, 3, none⟩ (.int .i64 (lnA xs j))).setCell ⟨p, 4, none⟩ (.int .i64 (clA xs j))).drew = w1 := ⟨_, rfl⟩
    have HKW : Keep (· ≠ p) w' w1 := by
      rw [← hw1]
      exact (((Keep.setCell _ _ _ (by simp)).trans (Keep.setCell _ _ _ (by simp))).trans (Keep.setCell _ _ _ (by simp))).trans (Keep.ofBelow (below_drew1 _))
    have R1 : Hid (Rd w1 p xs j (lnA xs j) (clA xs j) j kept) := hid (by
      rw [← hw1]
      exact ⟨Blk.kept (Blk.is (((HRR.out.blk.set 1 _).set 3 _).set 4 _) (by simp)) (below_drew1 _)⟩)
    have I1 : Hid (Inv w w1 p xs j kept wds ws) := hid ⟨⟨_, _, _, R1.out⟩, I0.out.is, I0.out.kp.keep HKW, I0.out.kk.trans HKW, I0.out.le, I0.out.cnt, I0.out.lx⟩
    have hjle := I0.out.le
    have hcnt : ws.length ≤ 70000 := by have := I0.out.cnt; omega
    go_wp2_with fail
    try rw [hw1]
    clear hw1 HKW c0 c1 c2 c3 c4 c5 c6 c7 f1 f3 f4 HRR I0
    refine (peekW p xs j _ _ j kept _ HBB.out hjle hl R1.out).mono ?_
    rintro e w2 ⟨rfl, B2⟩
    have R2 := hid (R1.out.kept B2)
    have I2 := hid (I1.out.kept B2)
    clear B2 R1 I1
    go_wp2_with fail
    refine (endedW p xs j _ _ j kept _ R2.out).mono ?_
    rintro e w3 ⟨rfl, B3⟩
    have R3 := hid (R2.out.kept B3)
    have I3 := hid (I2.out.kept B3)
    clear B3 R2 I2
    have hbs : w.heap.size ≤ w3.heap.size := I3.out.kk.size
    by_cases hje : j = xs.length
    · rw [show decide (j = xs.length) = true by simpa using hje]
      have HJ := hid hje
      clear hje
      go_wp2_with fail
      refine (keepW p xs j _ _ j kept _ w.heap.size ws 5 0 [] none 0 (Nat.le_refl _) hjle hl R3.out I3.out.kp hbs hcnt (reads_nil _) (fun y hy => by cases hy)).mono ?_
      rintro e w4 ⟨rfl, kept', R4, K4, B4⟩
      have HH := hid (worded_end I3.out HJ.out R4 K4 B4)
      clear R4 K4 B4
      go_wp2
      simp only [Exit.jumps]
      go_ret
      exact HH.out
    have hjl : j < xs.length := by omega
    rw [show decide (j = xs.length) = false by simpa using hje]
    clear hje
    obtain ⟨hc0, hc1⟩ := HBD.out j
    go_wp2_with fail
    refine (blankW (bt xs j) hc0 hc1 _).mono ?_
    rintro e w3' ⟨rfl, rfl⟩
    cases hbl : isBl (bt xs j) with
    | true =>
      have HT : Hid (tok xs j = .skip (j + 1)) := hid (by unfold tok; rw [if_pos hbl])
      clear hbl
      go_wp2_with fail
      refine (passW p xs j _ _ j kept _ HBB.out hjl hl R3.out).mono ?_
      rintro e w4 ⟨rfl, R4, K4⟩
      have hW := went_skip (base := w.heap.size) (ws := ws) HT.out R4 K4
      clear R4 K4
      rcases went_step I3.out hjl hW with ⟨k, kept', wds', ws', he, hjk, hI⟩ | ⟨c, hc, he, hlx, hRR, hKK⟩
      · clear he
        have hkl := hI.le
        have HI := hid hI
        clear hI hW
        go_wp2
        go_step3
        exact ⟨rfl, xs.length - k, by omega, k, kept', wds', ws', _, _, _, _, _, _, _, _, _, _, _, _, _, _, _, _, _, _, _, _, _, _, _, _, _, _, _, _, _, _, _, _, _, _, _, _, _, _, _, _, _, _, _, _, _, _, _, _, _, _, _, _, _, _, _, _, _, rfl, rfl, HI⟩
      · exfalso
        simp at he
        omega
    | false =>
    by_cases h47 : bt xs j = 47
    · have HT : Hid (tokC xs j = tok xs j) := hid (by unfold tok; rw [if_neg (by simp [hbl]), if_pos h47])
      have e47 : (bt xs j == 47) = true := by simpa using h47
      clear h47 hbl
      go_wp2_with fail
      refine (commentW p xs j _ _ j kept _ w.heap.size ws HBB.out hjl hl R3.out).mono ?_
      rintro e w4 hW
      replace hW := went_eq HT.out hW
      rcases went_step I3.out hjl hW with ⟨k, kept', wds', ws', he, hjk, hI⟩ | ⟨c, hc, he, hlx, hRR, hKK⟩
      · subst he
        have hkl := hI.le
        have HI := hid hI
        clear hI hW
        go_wp2
        go_step3
        exact ⟨rfl, xs.length - k, by omega, k, kept', wds', ws', _, _, _, _, _, _, _, _, _, _, _, _, _, _, _, _, _, _, _, _, _, _, _, _, _, _, _, _, _, _, _, _, _, _, _, _, _, _, _, _, _, _, _, _, _, _, _, _, _, _, _, _, _, _, _, _, _, rfl, rfl, HI⟩
      · subst he
        have HW : Hid (Worded xs p w (.returned (.int .i64 c)) w4) := hid (worded_bad hc hlx hRR hKK)
        clear hlx hRR hKK hW
        rcases hc with rfl | rfl
        all_goals
          go_wp2
          simp only [Exit.jumps]
          go_ret
          exact HW.out
    have e47 : (bt xs j == 47) = false := by simpa using h47
    go_wp2_with fail
    refine (beginsW (bt xs j) _).mono ?_
    rintro e w3' ⟨rfl, rfl⟩
    cases hlt : letB (bt xs j) with
    | true =>
      have HT : Hid (tok xs j = .word 1 (sc namB xs (j + 1)) 0 []) := hid (by unfold tok; rw [if_neg (by simp [hbl]), if_neg h47, if_pos hlt])
      clear hbl h47 hlt
      go_wp2_with fail
      refine (nameW p xs j _ _ j kept _ w.heap.size ws HBB.out (Nat.le_refl _) hjl hl R3.out I3.out.kp hbs hcnt).mono ?_
      rintro e w4 ⟨rfl, T4⟩
      have hW := went_name HT.out T4
      clear T4
      rcases went_step I3.out hjl hW with ⟨k, kept', wds', ws', he, hjk, hI⟩ | ⟨c, hc, he, hlx, hRR, hKK⟩
      · clear he
        have hkl := hI.le
        have HI := hid hI
        clear hI hW
        go_wp2
        go_step3
        exact ⟨rfl, xs.length - k, by omega, k, kept', wds', ws', _, _, _, _, _, _, _, _, _, _, _, _, _, _, _, _, _, _, _, _, _, _, _, _, _, _, _, _, _, _, _, _, _, _, _, _, _, _, _, _, _, _, _, _, _, _, _, _, _, _, _, _, _, _, _, _, _, rfl, rfl, HI⟩
      · exfalso
        simp at he
        omega
    | false =>
    go_wp2_with fail
    refine (tenW (bt xs j) hc0 hc1 _).mono ?_
    rintro e w3' ⟨rfl, rfl⟩
    cases hdg : digB (bt xs j) with
    | true =>
      have HT : Hid (tokN xs j = tok xs j) := hid (by unfold tok; rw [if_neg (by simp [hbl]), if_neg h47, if_neg (by simp [hlt]), if_pos hdg])
      clear hbl h47 hlt hdg
      go_wp2_with fail
      refine (numberW p xs j _ _ j kept _ w.heap.size ws HBB.out rfl hjl hl R3.out I3.out.kp hbs hcnt (HSN.out.keep I3.out.kk HNP.out.symm) HNP.out).mono ?_
      rintro e w4 hW
      replace hW := went_eq HT.out hW
      rcases went_step I3.out hjl hW with ⟨k, kept', wds', ws', he, hjk, hI⟩ | ⟨c, hc, he, hlx, hRR, hKK⟩
      · subst he
        have hkl := hI.le
        have HI := hid hI
        clear hI hW
        go_wp2
        go_step3
        exact ⟨rfl, xs.length - k, by omega, k, kept', wds', ws', _, _, _, _, _, _, _, _, _, _, _, _, _, _, _, _, _, _, _, _, _, _, _, _, _, _, _, _, _, _, _, _, _, _, _, _, _, _, _, _, _, _, _, _, _, _, _, _, _, _, _, _, _, _, _, _, _, rfl, rfl, HI⟩
      · subst he
        have HW : Hid (Worded xs p w (.returned (.int .i64 c)) w4) := hid (worded_bad hc hlx hRR hKK)
        clear hlx hRR hKK hW
        rcases hc with rfl | rfl
        all_goals
          go_wp2
          simp only [Exit.jumps]
          go_ret
          exact HW.out
    | false =>
    by_cases h34 : bt xs j = 34
    · have HT : Hid (tokQ xs j = tok xs j) := hid (by unfold tok; rw [if_neg (by simp [hbl]), if_neg h47, if_neg (by simp [hlt]), if_neg (by simp [hdg]), if_pos h34])
      have e34 : (bt xs j == 34) = true := by simpa using h34
      clear hbl h47 hlt hdg h34
      go_wp2_with fail
      refine (quotedW p xs j _ _ j kept _ w.heap.size ws HBB.out rfl hjl hl R3.out I3.out.kp hbs hcnt).mono ?_
      rintro e w4 hW
      replace hW := went_eq HT.out hW
      rcases went_step I3.out hjl hW with ⟨k, kept', wds', ws', he, hjk, hI⟩ | ⟨c, hc, he, hlx, hRR, hKK⟩
      · subst he
        have hkl := hI.le
        have HI := hid hI
        clear hI hW
        go_wp2
        go_step3
        exact ⟨rfl, xs.length - k, by omega, k, kept', wds', ws', _, _, _, _, _, _, _, _, _, _, _, _, _, _, _, _, _, _, _, _, _, _, _, _, _, _, _, _, _, _, _, _, _, _, _, _, _, _, _, _, _, _, _, _, _, _, _, _, _, _, _, _, _, _, _, _, _, rfl, rfl, HI⟩
      · subst he
        have HW : Hid (Worded xs p w (.returned (.int .i64 c)) w4) := hid (worded_bad hc hlx hRR hKK)
        clear hlx hRR hKK hW
        rcases hc with rfl | rfl
        all_goals
          go_wp2
          simp only [Exit.jumps]
          go_ret
          exact HW.out
    have e34 : (bt xs j == 34) = false := by simpa using h34
    go_wp2_with fail
    refine (signsW (bt xs j) hc0 hc1 _).mono ?_
    rintro e w3' ⟨rfl, rfl⟩
    cases hsg : sgnB (bt xs j) with
    | true =>
      have HT : Hid (tok xs j = .word 4 (j + 1) 0 []) := hid (by unfold tok; rw [if_neg (by simp [hbl]), if_neg h47, if_neg (by simp [hlt]), if_neg (by simp [hdg]), if_neg h34, if_pos hsg])
      clear hbl h47 hlt hdg h34 hsg
      go_wp2_with fail
      refine (signW p xs j _ _ j kept _ w.heap.size ws HBB.out (Nat.le_refl _) hjl hl R3.out I3.out.kp hbs hcnt).mono ?_
      rintro e w4 ⟨rfl, T4⟩
      have hW := went_name HT.out T4
      clear T4
      rcases went_step I3.out hjl hW with ⟨k, kept', wds', ws', he, hjk, hI⟩ | ⟨c, hc, he, hlx, hRR, hKK⟩
      · clear he
        have hkl := hI.le
        have HI := hid hI
        clear hI hW
        go_wp2
        go_step3
        exact ⟨rfl, xs.length - k, by omega, k, kept', wds', ws', _, _, _, _, _, _, _, _, _, _, _, _, _, _, _, _, _, _, _, _, _, _, _, _, _, _, _, _, _, _, _, _, _, _, _, _, _, _, _, _, _, _, _, _, _, _, _, _, _, _, _, _, _, _, _, _, _, rfl, rfl, HI⟩
      · exfalso
        simp at he
        omega
    | false =>
    have HT : Hid (tok xs j = .bad 11) := hid (by unfold tok; rw [if_neg (by simp [hbl]), if_neg h47, if_neg (by simp [hlt]), if_neg (by simp [hdg]), if_neg h34, if_neg (by simp [hsg])])
    have HW : Hid (Worded xs p w (.returned (.int .i64 11)) w3) := hid (worded_bad (.inl rfl) (by rw [← I3.out.lx, lxAt_bad hjl HT.out]) ⟨_, _, R3.out⟩ I3.out.kk)
    clear hbl h47 hlt hdg h34 hsg
    go_wp2
    simp only [Exit.jumps]
    go_ret
    exact HW.out
  · intro R hX
    go_wp2
    rename_i K hK
    exact wp_label (hK _ _ (hX _ _ _ ⟨0, _, [], [], _, _, _, _, _, _, _, _, _, _, _, _, _, _, _, _, _, _, _, _, _, _, _, _, _, _, _, _, _, _, _, _, _, _, _, _, _, _, _, _, _, _, _, _, _, _, _, _, _, _, _, _, _, _, _, _, _, rfl, rfl, HI0⟩))
end
end Go.Proofs.YtidimdbnnnpplaaDoor
namespace Go.Proofs.YtidimdbnnnpplaaDoor
open Go.RowKit
set_option maxRecDepth 1000000
set_option maxHeartbeats 4000000
set_option linter.unusedVariables false

/-- A slice of words that can be read. -/
structure ReadsW (w : World) (a : Option Addr) (len cap : Nat) (ms : List Mw) : Prop where
  length : ms.length = len
  le : len ≤ cap
  max : cap ≤ 9223372036854775807
  cells : (len = 0 ∧ (a = none → cap = 0)) ∨ ∃ b off, a = some ⟨b, off, none⟩ ∧ ∀ i x, ms[i]? = some x → ∃ sa sc,
    w.cell? ⟨b, off + i * 6, none⟩ = some (.int .i64 x.kind) ∧ w.cell? ⟨b, off + i * 6 + 1, none⟩ = some (.string (strOfNums x.s)) ∧ w.cell? ⟨b, off + i * 6 + 2, none⟩ = some (.int .u64 x.n) ∧ w.cell? ⟨b, off + i * 6 + 3, none⟩ = some (.slice sa x.b.length sc) ∧
    w.cell? ⟨b, off + i * 6 + 4, none⟩ = some (.int .i64 x.line) ∧ w.cell? ⟨b, off + i * 6 + 5, none⟩ = some (.int .i64 x.col) ∧ Reads w sa x.b.length sc x.b
theorem readsW_kept {w w' : World} {a : Option Addr} {len cap : Nat} {ms : List Mw} (h : ReadsW w a len cap ms) (hb : Below w.heap.size w w') : ReadsW w' a len cap ms := by
  refine ⟨h.length, h.le, h.max, ?_⟩
  rcases h.cells with h0 | ⟨b, off, rfl, hc⟩
  · exact .inl h0
  · refine .inr ⟨b, off, rfl, fun i x hx => ?_⟩
    obtain ⟨sa, sc, c0, c1, c2, c3, c4, c5, hr⟩ := hc i x hx
    have hk : ∀ o, w'.cell? ⟨b, o, none⟩ = w.cell? ⟨b, o, none⟩ := fun o => hb.cell (p := ⟨b, o, none⟩) (World.block_lt_of_cell? _ ⟨b, off + i * 6, none⟩ c0)
    exact ⟨sa, sc, (hk _).trans c0, (hk _).trans c1, (hk _).trans c2, (hk _).trans c3, (hk _).trans c4, (hk _).trans c5, reads_kept hr hb⟩
theorem readsW_nil (w : World) : ReadsW w none 0 0 [] := ⟨rfl, Nat.le_refl _, by omega, .inl ⟨rfl, fun _ => rfl⟩⟩
theorem kp_reads {w : World} {base p : Nat} {t : TypeId} {v : Value} {ws : List (Mw × Value)} (h : Kp w base p t v ws) : ∃ a c, v = .slice a ws.length c ∧ ReadsW w a ws.length c (ws.map Prod.fst) := by
  rcases h.row.2 with ⟨rfl, h0⟩ | ⟨g, cap, cur, rfl, hbg, hgg, hnc, hcm, hcs, htake⟩
  · rw [h0]
    exact ⟨none, 0, rfl, by simp [h0], Nat.le_refl _, by omega, .inl ⟨rfl, fun _ => rfl⟩⟩
  · refine ⟨_, cap, rfl, by simp, hnc, by unfold maxLen at hcm; omega, .inr ⟨g, 0, rfl, fun i x hx => ?_⟩⟩
    rw [List.getElem?_map] at hx
    cases hy : ws[i]? with
    | none => rw [hy] at hx; cases hx
    | some y =>
      rw [hy] at hx
      simp at hx
      obtain ⟨x', u⟩ := y
      simp at hx
      subst hx
      obtain ⟨f0, f1, f2, f3, f4, f5⟩ := flatW_get ws i x' u hy
      obtain ⟨sa, sc, hu, hr, _⟩ := h.each _ (List.mem_of_getElem? hy)
      simp only [] at hu hr
      subst hu
      have hadd : ∀ j, (⟨g, 0, none⟩ : Addr).add j = ⟨g, 0 + j, none⟩ := fun j => by unfold Addr.add; split <;> simp_all
      have hcell : ∀ j u, (flatW ws)[j]? = some u → w.cell? ⟨g, 0 + j, none⟩ = some u := fun j u hu => by rw [← hadd]; exact h.row.cells (g := g) rfl j u hu
      refine ⟨sa, sc, hcell _ _ f0, ?_, ?_, ?_, ?_, ?_, hr⟩
      · have := hcell _ _ f1; rwa [← Nat.add_assoc] at this
      · have := hcell _ _ f2; rwa [← Nat.add_assoc] at this
      · have := hcell _ _ f3; rwa [← Nat.add_assoc] at this
      · have := hcell _ _ f4; rwa [← Nat.add_assoc] at this
      · have := hcell _ _ f5; rwa [← Nat.add_assoc] at this
theorem set_same {w : World} {p : Nat} {t : TypeId} {cs : Array Value} (h : Blk w p t cs) (i : Nat) {v : Value} (hv : cs[i]? = some v) : w.setCell ⟨p, i, none⟩ v = w := by
  obtain ⟨hlt, hk⟩ := Array.getElem?_eq_some_iff.1 h
  have e : cs.setIfInBounds i v = cs := by
    apply Array.ext
    · simp
    · intro j h1 h2
      rw [Array.getElem_setIfInBounds h2]
      split
      · rename_i hij
        subst hij
        obtain ⟨_, h3⟩ := Array.getElem?_eq_some_iff.1 hv
        exact h3.symm
      · rfl
  have e2 : ∀ f : Obj → Obj, f (.cells cs t (0, 0)) = .cells cs t (0, 0) → w.heap.modify p f = w.heap := by
    intro f hf
    apply Array.ext
    · simp
    · intro j h1 h2
      rw [Array.getElem_modify]
      split
      · rename_i hij
        subst hij
        rw [hk, hf]
      · rfl
  have e3 : (w.setCell ⟨p, i, none⟩ v).heap = w.heap := by
    unfold World.setCell
    dsimp only
    apply e2
    simp [e]
  show ({ w with heap := (w.setCell ⟨p, i, none⟩ v).heap } : World) = w
  rw [e3]
/-- What Split answers: the words, the fault. -/
def outE (xs : List Int) : List Mw × Int × Int × Int :=
  if 65536 < xs.length then ([], 1, 0, 0) else if (lx xs).code = 0 then ((lx xs).ws.map (mw xs), 0, 0, 0) else ([], (lx xs).code, lnA xs (lx xs).pos, clA xs (lx xs).pos)
/-- What the callers of Split are told. -/
def SplitG (w : World) (g : List Mw × Int × Int × Int) (e : Ending) (w' : World) : Prop := ∃ a c, e = .returned (.tuple #[.slice a g.1.length c, .agg #[.int .i64 g.2.1, .int .i64 0, .int .i64 g.2.2.1, .int .i64 g.2.2.2]]) ∧ ReadsW w' a g.1.length c g.1 ∧ Below w.heap.size w w'
theorem splitBig (xs : List Int) (w : World) (h : 65536 < xs.length) (hm : xs.length ≤ 9223372036854775807) : Calls Tryd.prog 7 #[.string (strOfNums xs)] w fun e w' => SplitG w (outE xs) e w' := by
  have HE : Hid (outE xs = ([], 1, 0, 0)) := hid (by unfold outE; rw [if_pos h])
  have hs : (strOfNums xs).size = xs.length := strOfNums_size xs
  have h1 : (65536 : Int) < (xs.length : Int) := by omega
  have h2 : (xs.length : Int) ≤ 9223372036854775807 := by omega
  clear h hm
  generalize xs.length = n at *
  go_enter Tryd.func7, Tryd.ntmps7
  go_wp2
  exact bodyPost_ret (v := .tuple #[.slice none 0 0, .agg #[.int .i64 1, .int .i64 0, .int .i64 0, .int .i64 0]]) (by simp [results, Tryd.results7, go_sem]) rfl ⟨none, 0, by rw [HE.out]; rfl, by rw [HE.out]; exact readsW_nil _, below_alloc _⟩
theorem splitIn (xs : List Int) (w : World) (hb : ∀ x ∈ xs, 0 ≤ x ∧ x ≤ 255) (h : xs.length ≤ 65536) (hs : Sentinel w 2) : Calls Tryd.prog 7 #[.string (strOfNums xs)] w fun e w' => SplitG w (outE xs) e w' := by
  have hz : (strOfNums xs).size = xs.length := strOfNums_size xs
  have h1 : (xs.length : Int) ≤ 65536 := by omega
  have HWD := hid (fun W p (h1 : Rd W p xs 0 0 0 0 (.slice none 0 0)) h2 h3 => wordsW p xs W hb h h1 h2 h3)
  have HSN := hid hs
  clear hb hs
  go_enter Tryd.func7, Tryd.ntmps7
  go_wp2_with fail
  obtain ⟨w1, hw1⟩ : ∃ w1, ((w.alloc (.cells #[.int .i64 0, .int .i64 0, .int .i64 0, .int .i64 0] 28)).alloc (.cells #[.string (strOfNums xs), .int .i64 0, .int .i64 0, .int .i64 0, .int .i64 0, .int .i64 1, .int .i64 1, .slice none 0 0] 71)) = w1 := ⟨_, rfl⟩
  have B1 : Below w.heap.size w w1 := by rw [← hw1]; exact below_trans (below_alloc _) (below_alloc _)
  have F1 : Blk w1 w.heap.size 28 #[.int .i64 0, .int .i64 0, .int .i64 0, .int .i64 0] := by rw [← hw1]; exact (Blk.new w _ _).kept (below_alloc _)
  have R1 : Rd w1 (w.heap.size + 1) xs 0 0 0 0 (.slice none 0 0) := by
    rw [← hw1]
    have := Blk.new (w.alloc (.cells #[.int .i64 0, .int .i64 0, .int .i64 0, .int .i64 0] 28)) 71 #[.string (strOfNums xs), .int .i64 0, .int .i64 0, .int .i64 0, .int .i64 0, .int .i64 1, .int .i64 1, .slice none 0 0]
    rw [World.size_alloc] at this
    exact ⟨this⟩
  rw [hw1]
  clear hw1
  have hg : 2 < w.heap.size := by obtain ⟨te, pe, h⟩ := HSN.out; exact World.block_lt_of_cell? _ _ h
  refine (HWD.out _ _ R1 (HSN.out.kept B1) (by omega)).mono ?_
  rintro e w2 ⟨rfl, K2, hor⟩
  have HF : Hid (Blk w2 w.heap.size 28 #[.int .i64 0, .int .i64 0, .int .i64 0, .int .i64 0]) := hid (F1.keep K2 (by omega))
  have HB2 : Hid (Below w.heap.size w w2) := hid (B1.trans (K2.below B1.size (fun k hk => by omega)))
  clear K2 R1 F1 B1 hg
  have q0 : w2.cell? ⟨w.heap.size, 0, none⟩ = some (.int .i64 0) := HF.out.cell 0 _ rfl
  have q1 : w2.cell? ⟨w.heap.size, 1, none⟩ = some (.int .i64 0) := HF.out.cell 1 _ rfl
  have q2 : w2.cell? ⟨w.heap.size, 2, none⟩ = some (.int .i64 0) := HF.out.cell 2 _ rfl
  have q3 : w2.cell? ⟨w.heap.size, 3, none⟩ = some (.int .i64 0) := HF.out.cell 3 _ rfl
  have f0 := HF.out.frozen 0
  have f1 := HF.out.frozen 1
  have f2 := HF.out.frozen 2
  have f3 := HF.out.frozen 3
  rcases hor with ⟨hc, fr, bl, bc, i, kept, ws, hR, hK, hws⟩ | ⟨hc, fr, i, kept, hR⟩
  · have HE : Hid (outE xs = (ws.map Prod.fst, 0, 0, 0)) := hid (by unfold outE; rw [if_neg (by omega), if_pos hc, hws])
    rw [hc]
    obtain ⟨a, c, rfl, hrd⟩ := kp_reads hK
    obtain ⟨c0, c1, c2, c3, c4, c5, c6, c7⟩ := hR.cells
    have HRD := hid hrd
    have HLN : Hid ((ws.map Prod.fst).length = ws.length) := hid (by simp)
    clear hR hK hws hc hrd
    generalize ws.length = ln at *
    go_wp2
    rw [set_same (v := .int .i64 0) HF.out 0 rfl, set_same (v := .int .i64 0) HF.out 1 rfl, set_same (v := .int .i64 0) HF.out 2 rfl, set_same (v := .int .i64 0) HF.out 3 rfl]
    exact bodyPost_ret (v := .tuple #[.slice a ln c, .agg #[.int .i64 0, .int .i64 0, .int .i64 0, .int .i64 0]]) (by simp [results, Tryd.results7, go_sem, q0, q1, q2, q3]) rfl ⟨a, c, by rw [HE.out, HLN.out], by rw [HE.out, HLN.out]; exact HRD.out, HB2.out⟩
  · have hne : (lx xs).code ≠ 0 := by rcases hc with h | h <;> rw [h] <;> decide
    have HE : Hid (outE xs = ([], (lx xs).code, lnA xs (lx xs).pos, clA xs (lx xs).pos)) := hid (by unfold outE; rw [if_neg (by omega), if_neg hne])
    have hnb : ((lx xs).code != 0) = true := by simpa using hne
    obtain ⟨c0, c1, c2, c3, c4, c5, c6, c7⟩ := hR.cells
    clear hR hc hne
    generalize (lx xs).code = cd at *
    generalize lnA xs (lx xs).pos = L at *
    generalize clA xs (lx xs).pos = C at *
    go_wp2
    go_region
    go_wp2
    exact bodyPost_ret (v := .tuple #[.slice none 0 0, .agg #[.int .i64 cd, .int .i64 0, .int .i64 L, .int .i64 C]]) (by simp [results, Tryd.results7, go_sem, q0, q1, q2, q3]) rfl ⟨none, 0, by rw [HE.out]; rfl, by rw [HE.out]; exact readsW_nil _, ((((HB2.out.setCell (by simp) _).setCell (by simp) _).setCell (by simp) _).setCell (by simp) _).drew⟩
end Go.Proofs.YtidimdbnnnpplaaDoor
namespace Go.Proofs.YtidimdbnnnpplaaDoor
open Go.RowKit
set_option maxRecDepth 1000000
set_option maxHeartbeats 4000000
set_option linter.unusedVariables false

theorem below_twoo {w : World} (o o' : Obj) : Below w.heap.size w ((w.alloc o).alloc o') := below_trans (below_alloc o) (below_alloc o')
/-- Split at any text. -/
theorem splitW (xs : List Int) (w : World) (hb : ∀ x ∈ xs, 0 ≤ x ∧ x ≤ 255) (hm : xs.length ≤ 9223372036854775807) (hs : Sentinel w 2) : Calls Tryd.prog 7 #[.string (strOfNums xs)] w fun e w' => SplitG w (outE xs) e w' := by
  by_cases h : 65536 < xs.length
  · exact splitBig xs w h hm
  · exact splitIn xs w hb (by omega) hs
theorem splitG_is {w w' : World} {g : List Mw × Int × Int × Int} {e : Ending} {ms : List Mw} {cd l c : Int} (h : SplitG w g e w') (hg : g = (ms, cd, l, c)) : ∃ a k, e = .returned (.tuple #[.slice a ms.length k, .agg #[.int .i64 cd, .int .i64 0, .int .i64 l, .int .i64 c]]) ∧ ReadsW w' a ms.length k ms ∧ Below w.heap.size w w' := by subst hg; exact h
def wordsA : List Mw := [⟨1, [97, 95, 49], 0, [], 1, 1⟩, ⟨4, [61], 0, [], 1, 5⟩, ⟨2, [48, 120, 49, 70], 31, [], 1, 7⟩, ⟨4, [59], 0, [], 1, 11⟩, ⟨5, [], 0, [], 1, 12⟩]
theorem outE_awake : outE [97, 95, 49, 32, 61, 32, 48, 120, 49, 70, 59] = (wordsA, 0, 0, 0) := by rfl
/-- The cells of words that are laid at once. -/
theorem readsW_lit (w : World) (t : TypeId) (ws : List (Mw × Value)) (cs : Array Value) (hcs : cs.toList = flatW ws) (hb : ∀ x ∈ ws, ∃ a c, x.2 = .slice a x.1.b.length c ∧ Reads w a x.1.b.length c x.1.b) (hl : ws.length ≤ 1000) : ReadsW (w.alloc (.cells cs t)) (some ⟨w.heap.size, 0, none⟩) ws.length ws.length (ws.map Prod.fst) := by
  refine ⟨by simp, Nat.le_refl _, by omega, .inr ⟨w.heap.size, 0, rfl, fun i x hx => ?_⟩⟩
  rw [List.getElem?_map] at hx
  cases hy : ws[i]? with
  | none => rw [hy] at hx; cases hx
  | some y =>
    rw [hy] at hx
    simp at hx
    obtain ⟨x', u⟩ := y
    simp at hx
    subst hx
    obtain ⟨f0, f1, f2, f3, f4, f5⟩ := flatW_get ws i x' u hy
    obtain ⟨sa, sc, hu, hr⟩ := hb _ (List.mem_of_getElem? hy)
    simp only [] at hu hr
    subst hu
    have hc : ∀ j v, (flatW ws)[j]? = some v → (w.alloc (.cells cs t)).cell? ⟨w.heap.size, 0 + j, none⟩ = some v := fun j v hv => by
      rw [World.cell?_alloc_at _ _ _ _ rfl, Nat.zero_add, ← Array.getElem?_toList, hcs]
      exact hv
    refine ⟨sa, sc, hc _ _ f0, ?_, ?_, ?_, ?_, ?_, reads_kept hr (below_alloc _)⟩
    · have := hc _ _ f1; rwa [← Nat.add_assoc] at this
    · have := hc _ _ f2; rwa [← Nat.add_assoc] at this
    · have := hc _ _ f3; rwa [← Nat.add_assoc] at this
    · have := hc _ _ f4; rwa [← Nat.add_assoc] at this
    · have := hc _ _ f5; rwa [← Nat.add_assoc] at this
theorem bare_each (w : World) (ms : List Mw) (h : ∀ m ∈ ms, m.b = []) : ∀ x ∈ ms.map fun m => (m, Value.slice none 0 0), ∃ a c, x.2 = .slice a x.1.b.length c ∧ Reads w a x.1.b.length c x.1.b := by
  intro x hx
  obtain ⟨m, hm, rfl⟩ := List.mem_map.1 hx
  have := h m hm
  exact ⟨none, 0, by simp [this], by simp only [this]; exact reads_nil _⟩
end Go.Proofs.YtidimdbnnnpplaaDoor
namespace Go.Proofs.YtidimdbnnnpplaaDoor
open Go.RowKit
set_option maxRecDepth 1000000
set_option linter.unusedVariables false

theorem place_up (xs : List Int) (a : Nat) : ∀ d : Nat, lnA xs a < lnA xs (a + d) ∨ (lnA xs (a + d) = lnA xs a ∧ clA xs (a + d) = clA xs a + d)
  | 0 => .inr ⟨rfl, by simp⟩
  | d + 1 => by
    have e : a + (d + 1) = (a + d) + 1 := by omega
    rcases place_up xs a d with h | ⟨h1, h2⟩
    · left
      rw [e, lnA]
      split <;> omega
    · by_cases hn : bt xs (a + d) = 10
      · left
        rw [e, lnA_nl hn]
        omega
      · right
        rw [e, lnA_on hn, clA_on hn]
        omega
theorem place_lt {xs : List Int} {a b : Nat} (h : a < b) : ¬ (lnA xs a = lnA xs b ∧ clA xs a = clA xs b) := by
  rintro ⟨h1, h2⟩
  have := place_up xs a (b - a)
  rw [show a + (b - a) = b by omega] at this
  omega
/-- A token's kind, a fault's code. -/
def Tk.fine : Tk → Prop
  | .skip _ => True
  | .word k _ _ _ => 1 ≤ k ∧ k ≤ 4
  | .bad c => c ≠ 0
theorem tok_fine (xs : List Int) (i : Nat) : (tok xs i).fine := by
  unfold tok tokC tokN tokQ
  repeat' split
  all_goals simp [Tk.fine]
/-- Words one behind the other, the end's last. -/
def Ch (xs : List Int) : Nat → List Wd → Prop
  | _, [] => False
  | i, x :: r => (x = ⟨5, xs.length, xs.length, 0, []⟩ ∧ r = [] ∧ i ≤ xs.length) ∨ (i ≤ x.st ∧ x.st < x.en ∧ x.en ≤ xs.length ∧ 1 ≤ x.kind ∧ x.kind ≤ 4 ∧ tok xs x.st = .word x.kind x.en x.n x.b ∧ Ch xs x.en r)
theorem ch_le {xs : List Int} {i : Nat} {l : List Wd} (h : Ch xs i l) : i ≤ xs.length := by
  cases l with
  | nil => exact h.elim
  | cons x r => rcases h with ⟨_, _, h⟩ | ⟨h1, h2, h3, _⟩ <;> omega
theorem ch_less {xs : List Int} {i j : Nat} {l : List Wd} (h : Ch xs i l) (hj : j ≤ i) : Ch xs j l := by
  cases l with
  | nil => exact h.elim
  | cons x r =>
    rcases h with ⟨h1, h2, h3⟩ | ⟨h1, h2⟩
    · exact .inl ⟨h1, h2, by omega⟩
    · exact .inr ⟨by omega, h2⟩
theorem lxF_ch {xs : List Int} : ∀ f i acc, i ≤ xs.length → xs.length < f + i → (lxF xs f i acc).code = 0 → ∃ r, (lxF xs f i acc).ws = acc ++ r ∧ Ch xs i r
  | 0, i, acc, h1, h2, _ => by omega
  | f + 1, i, acc, h1, h2, h3 => by
    unfold lxF at h3 ⊢
    by_cases hi : xs.length ≤ i
    · rw [if_pos hi]
      obtain rfl : i = xs.length := by omega
      exact ⟨_, rfl, .inl ⟨rfl, rfl, Nat.le_refl _⟩⟩
    · rw [if_neg hi] at h3 ⊢
      have hf := tok_fine xs i
      cases ht : tok xs i with
      | skip j =>
        rw [ht] at h3
        have := tok_skip (by omega) ht
        obtain ⟨r, e, hc⟩ := lxF_ch f j acc this.2 (by omega) h3
        exact ⟨r, e, ch_less hc (by omega)⟩
      | bad c =>
        rw [ht] at h3 hf
        exact absurd h3 hf
      | word k e n b =>
        rw [ht] at h3 hf
        have := tok_word (by omega) ht
        obtain ⟨r, er, hc⟩ := lxF_ch f e _ this.2 (by omega) h3
        refine ⟨⟨k, i, e, n, b⟩ :: r, by simp only; rw [er, List.append_assoc]; rfl, .inr ⟨Nat.le_refl _, this.1, this.2, hf.1, hf.2, ht, hc⟩⟩
theorem lx_ch {xs : List Int} (h : (lx xs).code = 0) : Ch xs 0 (lx xs).ws := by
  unfold lx lxAt at h ⊢
  obtain ⟨r, e, hc⟩ := lxF_ch _ 0 [] (by omega) (by omega) h
  rw [e]
  exact hc
theorem ch_last {xs : List Int} : ∀ (l : List Wd) (i : Nat), Ch xs i l → ∃ p, l = p ++ [⟨5, xs.length, xs.length, 0, []⟩]
  | [], _, h => h.elim
  | x :: r, i, h => by
    rcases h with ⟨rfl, rfl, _⟩ | ⟨_, _, _, _, _, _, hc⟩
    · exact ⟨[], rfl⟩
    · obtain ⟨p, rfl⟩ := ch_last r _ hc
      exact ⟨x :: p, rfl⟩
/-- How far a walk over the places has come. -/
def Stp (xs : List Int) (ws : List Wd) (k i : Nat) : Prop := (i = xs.length + 1 ∧ k = ws.length) ∨ Ch xs i (ws.drop k)
theorem stp_end {xs : List Int} {ws : List Wd} {k : Nat} (h : Stp xs ws k (xs.length + 1)) : k = ws.length := by
  rcases h with h | h
  · exact h.2
  · have := ch_le h; omega
theorem stp_next {xs : List Int} {ws : List Wd} {k i : Nat} (h : Stp xs ws k i) (hi : i ≤ xs.length) : ∃ x, ws[k]? = some x ∧ x.st ≤ x.en ∧ x.en ≤ xs.length ∧
    ((x.st = i ∧ (x.st = x.en ↔ x.kind = 5) ∧ Stp xs ws (k + 1) (i + 1)) ∨ (¬ (lnA xs x.st = lnA xs i ∧ clA xs x.st = clA xs i) ∧ Stp xs ws k (i + 1))) := by
  rcases h with h | h
  · omega
  · cases hd : ws.drop k with
    | nil => rw [hd] at h; exact h.elim
    | cons x r =>
      have hg : ws[k]? = some x := by
        have : (ws.drop k)[0]? = some x := by rw [hd]; rfl
        rw [List.getElem?_drop] at this
        simpa using this
      have hr : ws.drop (k + 1) = r := by rw [← List.drop_drop, hd]; rfl
      have hk : k < ws.length := (List.getElem?_eq_some_iff.1 hg).1
      have hdr := hd
      rw [hd] at h
      refine ⟨x, hg, ?_⟩
      rcases h with ⟨rfl, rfl, h3⟩ | ⟨h1, h2, h3, h4, h5, h6, hc⟩
      · refine ⟨Nat.le_refl _, Nat.le_refl _, ?_⟩
        by_cases he : i = xs.length
        · subst he
          refine .inl ⟨rfl, by simp, .inl ⟨rfl, ?_⟩⟩
          have : (ws.drop (k + 1)).length = 0 := by rw [hr]; rfl
          rw [List.length_drop] at this
          omega
        · refine .inr ⟨fun h => place_lt (xs := xs) (show i < xs.length by omega) ⟨h.1.symm, h.2.symm⟩, .inr ?_⟩
          rw [hdr]
          exact .inl ⟨rfl, rfl, by omega⟩
      · refine ⟨by omega, h3, ?_⟩
        by_cases he : x.st = i
        · refine .inl ⟨he, ⟨fun h => by omega, fun h => by omega⟩, .inr ?_⟩
          rw [hr]
          exact ch_less hc (by omega)
        · refine .inr ⟨fun h => place_lt (xs := xs) (show i < x.st by omega) ⟨h.1.symm, h.2.symm⟩, .inr ?_⟩
          rw [hdr]
          exact .inr ⟨by omega, h2, h3, h4, h5, h6, hc⟩
end Go.Proofs.YtidimdbnnnpplaaDoor
