/-
  The reader's words.
  The program's Split.
  The law's own looks: are an answer's words these? A short line; is a text refused so?
  Plain mathematics for places: they rise; the words of a text stand one behind the other.
  Trees, and how words become trees: each form as a function of the words that are left and of the first fault; nothing of the program.
-/
import Derived.Test.YtidimdbnnnpplaaGreatDoorCYI
import Derived.Test.YtidimdbnnnpplaaGreatDoorCYB
namespace Go.Proofs.YtidimdbnnnpplaaGreatDoor
open Go.RowKit
set_option maxRecDepth 1000000
set_option maxHeartbeats 16000000
set_option linter.unusedVariables false
/-- How far the words are. -/
structure Inv (w0 w : World) (p : Nat) (xs : List Int) (j : Nat) (kept : Value) (wds : List Wd) (ws : List (Mw × Value)) : Prop where
  rd : ∃ fr bl bc, Rd w p xs fr bl bc j kept
  is : ws.map Prod.fst = wds.map (mw xs)
  kp : Kp w w0.heap.size p 159 kept ws
  kk : Keep (· ≠ p) w0 w
  le : j ≤ xs.length
  cnt : ws.length ≤ j
  lx : lxAt xs j wds = lx xs
theorem tok_bad {xs : List Int} {i : Nat} {c : Int} (h : tok xs i = .bad c) : c = 11 ∨ c = 7 := by
  unfold tok at h
  split at h
  · cases h
  · split at h
    · unfold tokC at h
      split at h
      · cases h
      · split at h
        · split at h
          · cases h; exact .inl rfl
          · cases h
        · cases h; exact .inl rfl
    · split at h
      · cases h
      · split at h
        · unfold tokN at h
          split at h
          · cases h; exact .inl rfl
          · split at h
            · cases h; exact .inr rfl
            · cases h
        · split at h
          · unfold tokQ at h
            split at h
            · cases h; exact .inl rfl
            · split at h
              · cases h; exact .inl rfl
              · cases h
          · split at h
            · cases h
            · cases h; exact .inl rfl
theorem keep_old {p : Nat} {kept : Value} {w0 w w' : World} {n t : Nat} {l : List Value} (h : Keep (· ≠ p) w0 w) (hr : w.ownsRow w0.heap.size t 6 kept n l) (g : Keep (fun k => k ≠ p ∧ kept.ownBlock ≠ some k) w w') : Keep (· ≠ p) w0 w' :=
  ⟨g.os.trans h.os, g.tape.trans h.tape, g.output.trans h.output, Nat.le_trans h.size g.size, fun k hk hf => by
    rw [g.block k (Nat.lt_of_lt_of_le hk h.size) ⟨hf, fun e => by have := (hr.lt k e).1; omega⟩, h.block k hk hf]⟩
theorem went_step {w0 w1 w2 : World} {p : Nat} {xs : List Int} {j : Nat} {kept : Value} {wds : List Wd} {ws : List (Mw × Value)} {e : Ending} (hI : Inv w0 w1 p xs j kept wds ws) (hj : j < xs.length)
    (h : Went w0.heap.size xs p j (lnA xs j) (clA xs j) kept ws w1 (tok xs j) e w2) :
    (∃ k kept' wds' ws', e = .returned (.int .i64 0) ∧ j < k ∧ Inv w0 w2 p xs k kept' wds' ws') ∨ (∃ c, (c = 11 ∨ c = 7) ∧ e = .returned (.int .i64 c) ∧ lx xs = ⟨[], c, j⟩ ∧ (∃ i' kept', Rd w2 p xs j (lnA xs j) (clA xs j) i' kept') ∧ Keep (· ≠ p) w0 w2) := by
  cases ht : tok xs j with
  | skip k =>
    rw [ht] at h
    obtain ⟨he, hr, hk⟩ := h
    have hlt := tok_skip hj ht
    exact .inl ⟨k, kept, wds, ws, he, hlt.1, ⟨_, _, _, hr⟩, hI.is, hI.kp.keep hk, hI.kk.trans hk, hlt.2, by have := hI.cnt; omega, by rw [← lxAt_skip hj ht]; exact hI.lx⟩
  | word kind k n b =>
    rw [ht] at h
    obtain ⟨he, kept', bv, hr, hkp, hk⟩ := h
    have hlt := tok_word hj ht
    refine .inl ⟨k, kept', wds ++ [⟨kind, j, k, n, b⟩], _, he, hlt.1, ⟨_, _, _, hr⟩, ?_, hkp, keep_old hI.kk hI.kp.row hk, hlt.2, by have := hI.cnt; simp; omega, by rw [← lxAt_word hj ht]; exact hI.lx⟩
    rw [List.map_append, List.map_append, hI.is]
    rfl
  | bad c =>
    rw [ht] at h
    obtain ⟨he, i', hr, hk⟩ := h
    exact .inr ⟨c, tok_bad ht, he, by rw [← hI.lx, lxAt_bad hj ht], ⟨i', kept, hr⟩, hI.kk.trans hk⟩
/-- What words leaves. -/
def Worded (xs : List Int) (p : Nat) (w : World) (e : Ending) (w' : World) : Prop :=
  e = .returned (.int .i64 (lx xs).code) ∧ Keep (· ≠ p) w w' ∧
  (((lx xs).code = 0 ∧ ∃ fr bl bc i kept ws, Rd w' p xs fr bl bc i kept ∧ Kp w' w.heap.size p 159 kept ws ∧ ws.map Prod.fst = (lx xs).ws.map (mw xs)) ∨
   (((lx xs).code = 11 ∨ (lx xs).code = 7) ∧ ∃ fr i kept, Rd w' p xs fr (lnA xs (lx xs).pos) (clA xs (lx xs).pos) i kept))
theorem went_name {base : Nat} {xs : List Int} {p fr : Nat} {bl bc : Int} {kept : Value} {ws : List (Mw × Value)} {w w' : World} {t : Tk} {kind n : Int} {j : Nat} {b : List Int} (ht : t = .word kind j n b) (h : Took base xs p fr bl bc kept ws w kind j n b w') : Went base xs p fr bl bc kept ws w t (.returned (.int .i64 0)) w' := by subst ht; exact ⟨rfl, h⟩
theorem went_skip {base : Nat} {xs : List Int} {p fr : Nat} {bl bc : Int} {kept : Value} {ws : List (Mw × Value)} {w w' : World} {t : Tk} {j : Nat} (ht : t = .skip j) (h : Rd w' p xs fr bl bc j kept) (hk : Keep (· ≠ p) w w') : Went base xs p fr bl bc kept ws w t (.returned (.int .i64 0)) w' := by subst ht; exact ⟨rfl, h, hk⟩
theorem went_eq {base : Nat} {xs : List Int} {p fr : Nat} {bl bc : Int} {kept : Value} {ws : List (Mw × Value)} {w w' : World} {t t' : Tk} {e : Ending} (ht : t = t') (h : Went base xs p fr bl bc kept ws w t e w') : Went base xs p fr bl bc kept ws w t' e w' := by subst ht; exact h
theorem Inv.kept {w0 w1 w2 : World} {p : Nat} {xs : List Int} {j : Nat} {kept : Value} {wds : List Wd} {ws : List (Mw × Value)} (h : Inv w0 w1 p xs j kept wds ws) (hb : Below w1.heap.size w1 w2) : Inv w0 w2 p xs j kept wds ws :=
  ⟨by obtain ⟨fr, bl, bc, hr⟩ := h.rd; exact ⟨fr, bl, bc, hr.kept hb⟩, h.is, h.kp.kept hb, h.kk.trans (Keep.ofBelow hb), h.le, h.cnt, h.lx⟩
theorem worded_bad {xs : List Int} {p : Nat} {w w' : World} {c : Int} {j : Nat} (hc : c = 11 ∨ c = 7) (hlx : lx xs = ⟨[], c, j⟩) (hr : ∃ i' kept', Rd w' p xs j (lnA xs j) (clA xs j) i' kept') (hk : Keep (· ≠ p) w w') : Worded xs p w (.returned (.int .i64 c)) w' := by
  obtain ⟨i', kept', hr⟩ := hr
  unfold Worded
  rw [hlx]
  exact ⟨rfl, hk, .inr ⟨hc, j, i', kept', hr⟩⟩
theorem worded_end {xs : List Int} {p : Nat} {w w1 w2 : World} {j : Nat} {kept kept' bv : Value} {wds : List Wd} {ws : List (Mw × Value)} (hI : Inv w w1 p xs j kept wds ws) (hj : j = xs.length) (hr : Rd w2 p xs j (lnA xs j) (clA xs j) j kept') (hkp : Kp w2 w.heap.size p 159 kept' (ws ++ [(⟨5, cut xs j j, 0, [], lnA xs j, clA xs j⟩, bv)])) (hk : Keep (fun k => k ≠ p ∧ kept.ownBlock ≠ some k) w1 w2) : Worded xs p w (.returned (.int .i64 0)) w2 := by
  unfold Worded
  rw [← hI.lx, lxAt_end hj]
  refine ⟨rfl, keep_old hI.kk hI.kp.row hk, .inl ⟨rfl, _, _, _, _, kept', _, hr, hkp, ?_⟩⟩
  rw [List.map_append, List.map_append, hI.is]
  rfl
section
variable (p : Nat) (xs : List Int) (w : World)
theorem wordsW (hb : ∀ x ∈ xs, 0 ≤ x ∧ x ≤ 255) (hl : xs.length ≤ 65536) (h : Rd w p xs 0 0 0 0 (.slice none 0 0)) (hs : Sentinel w 3) (hp : p ≠ 3) :
    Calls Tryz.prog 35 #[.pointer (some ⟨p, 0, none⟩)] w fun e w' => Worded xs p w e w' := by
  have HR := hid h
  have HI0 : Hid (Inv w w p xs 0 (.slice none 0 0) [] []) := hid ⟨⟨_, _, _, h⟩, rfl, Kp.nil _ _ _ _, Keep.refl _ _, by omega, by simp, rfl⟩
  have HSN := hid hs
  have HNP := hid hp
  have HBB := hid hb
  have HBD := hid (fun j => bt_bd hb j)
  clear h hs hp hb
  go_enter Tryz.func35, Tryz.ntmps35
  go_wp2
  refine wp_scope_mid (fun g a' w' => ∃ (j : Nat) (kept : Value) (wds : List Wd) (ws : List (Mw × Value)) (u1 u3 u4 u5 u6 u7 u8 u9 u10 u11 u12 u13 u14 u15 u16 u17 u18 u19 u20 u21 u22 u23 u24 u25 u26 u27 u28 u29 u30 u31 u32 u33 u34 u35 u36 u37 u38 u39 u40 u41 u42 u43 u44 u45 u46 u47 u48 u49 u50 u51 u52 u53 u54 u55 u56 u57 u58 : Value), a' = { tmps := List.toArray (.pointer (some ⟨p, 0, none⟩) :: u1 :: .int .i64 0 :: u3 :: u4 :: u5 :: u6 :: u7 :: u8 :: u9 :: u10 :: u11 :: u12 :: u13 :: u14 :: u15 :: u16 :: u17 :: u18 :: u19 :: u20 :: u21 :: u22 :: u23 :: u24 :: u25 :: u26 :: u27 :: u28 :: u29 :: u30 :: u31 :: u32 :: u33 :: u34 :: u35 :: u36 :: u37 :: u38 :: u39 :: u40 :: u41 :: u42 :: u43 :: u44 :: u45 :: u46 :: u47 :: u48 :: u49 :: u50 :: u51 :: u52 :: u53 :: u54 :: u55 :: u56 :: u57 :: u58 :: []), defers := [] } ∧ g = xs.length - j ∧ Hid (Inv w w' p xs j kept wds ws)) rfl ?_ ?_
  · rintro g a' w' ⟨j, kept, wds, ws, u1, u3, u4, u5, u6, u7, u8, u9, u10, u11, u12, u13, u14, u15, u16, u17, u18, u19, u20, u21, u22, u23, u24, u25, u26, u27, u28, u29, u30, u31, u32, u33, u34, u35, u36, u37, u38, u39, u40, u41, u42, u43, u44, u45, u46, u47, u48, u49, u50, u51, u52, u53, u54, u55, u56, u57, u58, rfl, rfl, I0⟩
    obtain ⟨fr, bl, bc, hR⟩ := I0.out.rd
    obtain ⟨c0, c1, c2, c3, c4, c5, c6, c7⟩ := hR.cells
    have f1 := hR.blk.frozen 1
    have f3 := hR.blk.frozen 3
    have f4 := hR.blk.frozen 4
    have HRR := hid hR
    clear hR
    go_wp2
    go_region
    obtain ⟨w1, hw1⟩ : ∃ w1, (((w'.setCell ⟨p, 1, none⟩ (.int .i64 j)).setCell ⟨p, 3, none⟩ (.int .i64 (lnA xs j))).setCell ⟨p, 4, none⟩ (.int .i64 (clA xs j))).drew = w1 := ⟨_, rfl⟩
    have HKW : Keep (· ≠ p) w' w1 := by
      rw [← hw1]
      exact (((Keep.setCell _ _ _ (by simp)).trans (Keep.setCell _ _ _ (by simp))).trans (Keep.setCell _ _ _ (by simp))).trans (Keep.ofBelow (below_drew1 _))
    have R1 : Hid (Rd w1 p xs j (lnA xs j) (clA xs j) j kept) := hid (by
      rw [← hw1]
      exact ⟨Blk.kept (Blk.is (((HRR.out.blk.set 1 _).set 3 _).set 4 _) (by simp)) (below_drew1 _)⟩)
    have I1 : Hid (Inv w w1 p xs j kept wds ws) := hid ⟨⟨_, _, _, R1.out⟩, I0.out.is, I0.out.kp.keep HKW, I0.out.kk.trans HKW, I0.out.le, I0.out.cnt, I0.out.lx⟩
    have hjle := I0.out.le
    have hcnt : ws.length ≤ 70000 := by have := I0.out.cnt; omega
    go_wp2_with fail
    try rw [hw1]
    clear hw1 HKW c0 c1 c2 c3 c4 c5 c6 c7 f1 f3 f4 HRR I0
    refine (peekW p xs j _ _ j kept _ HBB.out hjle hl R1.out).mono ?_
    rintro e w2 ⟨rfl, B2⟩
    have R2 := hid (R1.out.kept B2)
    have I2 := hid (I1.out.kept B2)
    clear B2 R1 I1
    go_wp2_with fail
    refine (endedW p xs j _ _ j kept _ R2.out).mono ?_
    rintro e w3 ⟨rfl, B3⟩
    have R3 := hid (R2.out.kept B3)
    have I3 := hid (I2.out.kept B3)
    clear B3 R2 I2
    have hbs : w.heap.size ≤ w3.heap.size := I3.out.kk.size
    by_cases hje : j = xs.length
    · rw [show decide (j = xs.length) = true by simpa using hje]
      have HJ := hid hje
      clear hje
      go_wp2_with fail
      refine (keepW p xs j _ _ j kept _ w.heap.size ws 5 0 [] none 0 (Nat.le_refl _) hjle hl R3.out I3.out.kp hbs hcnt (reads_nil _) (fun y hy => by cases hy)).mono ?_
      rintro e w4 ⟨rfl, kept', R4, K4, B4⟩
      have HH := hid (worded_end I3.out HJ.out R4 K4 B4)
      clear R4 K4 B4
      go_wp2
      simp only [Exit.jumps]
      go_ret
      exact HH.out
    have hjl : j < xs.length := by omega
    rw [show decide (j = xs.length) = false by simpa using hje]
    clear hje
    obtain ⟨hc0, hc1⟩ := HBD.out j
    go_wp2_with fail
    refine (blankW (bt xs j) hc0 hc1 _).mono ?_
    rintro e w3' ⟨rfl, rfl⟩
    cases hbl : isBl (bt xs j) with
    | true =>
      have HT : Hid (tok xs j = .skip (j + 1)) := hid (by unfold tok; rw [if_pos hbl])
      clear hbl
      go_wp2_with fail
      refine (passW p xs j _ _ j kept _ HBB.out hjl hl R3.out).mono ?_
      rintro e w4 ⟨rfl, R4, K4⟩
      have hW := went_skip (base := w.heap.size) (ws := ws) HT.out R4 K4
      clear R4 K4
      rcases went_step I3.out hjl hW with ⟨k, kept', wds', ws', he, hjk, hI⟩ | ⟨c, hc, he, hlx, hRR, hKK⟩
      · clear he
        have hkl := hI.le
        have HI := hid hI
        clear hI hW
        go_wp2
        go_step3
        exact ⟨rfl, xs.length - k, by omega, k, kept', wds', ws', _, _, _, _, _, _, _, _, _, _, _, _, _, _, _, _, _, _, _, _, _, _, _, _, _, _, _, _, _, _, _, _, _, _, _, _, _, _, _, _, _, _, _, _, _, _, _, _, _, _, _, _, _, _, _, _, _, rfl, rfl, HI⟩
      · exfalso
        simp at he
        omega
    | false =>
    by_cases h47 : bt xs j = 47
    · have HT : Hid (tokC xs j = tok xs j) := hid (by unfold tok; rw [if_neg (by simp [hbl]), if_pos h47])
      have e47 : (bt xs j == 47) = true := by simpa using h47
      clear h47 hbl
      go_wp2_with fail
      refine (commentW p xs j _ _ j kept _ w.heap.size ws HBB.out hjl hl R3.out).mono ?_
      rintro e w4 hW
      replace hW := went_eq HT.out hW
      rcases went_step I3.out hjl hW with ⟨k, kept', wds', ws', he, hjk, hI⟩ | ⟨c, hc, he, hlx, hRR, hKK⟩
      · subst he
        have hkl := hI.le
        have HI := hid hI
        clear hI hW
        go_wp2
        go_step3
        exact ⟨rfl, xs.length - k, by omega, k, kept', wds', ws', _, _, _, _, _, _, _, _, _, _, _, _, _, _, _, _, _, _, _, _, _, _, _, _, _, _, _, _, _, _, _, _, _, _, _, _, _, _, _, _, _, _, _, _, _, _, _, _, _, _, _, _, _, _, _, _, _, rfl, rfl, HI⟩
      · subst he
        have HW : Hid (Worded xs p w (.returned (.int .i64 c)) w4) := hid (worded_bad hc hlx hRR hKK)
        clear hlx hRR hKK hW
        rcases hc with rfl | rfl
        all_goals
          go_wp2
          simp only [Exit.jumps]
          go_ret
          exact HW.out
    have e47 : (bt xs j == 47) = false := by simpa using h47
    go_wp2_with fail
    refine (beginsW (bt xs j) _).mono ?_
    rintro e w3' ⟨rfl, rfl⟩
    cases hlt : letB (bt xs j) with
    | true =>
      have HT : Hid (tok xs j = .word 1 (sc namB xs (j + 1)) 0 []) := hid (by unfold tok; rw [if_neg (by simp [hbl]), if_neg h47, if_pos hlt])
      clear hbl h47 hlt
      go_wp2_with fail
      refine (nameW p xs j _ _ j kept _ w.heap.size ws HBB.out (Nat.le_refl _) hjl hl R3.out I3.out.kp hbs hcnt).mono ?_
      rintro e w4 ⟨rfl, T4⟩
      have hW := went_name HT.out T4
      clear T4
      rcases went_step I3.out hjl hW with ⟨k, kept', wds', ws', he, hjk, hI⟩ | ⟨c, hc, he, hlx, hRR, hKK⟩
      · clear he
        have hkl := hI.le
        have HI := hid hI
        clear hI hW
        go_wp2
        go_step3
        exact ⟨rfl, xs.length - k, by omega, k, kept', wds', ws', _, _, _, _, _, _, _, _, _, _, _, _, _, _, _, _, _, _, _, _, _, _, _, _, _, _, _, _, _, _, _, _, _, _, _, _, _, _, _, _, _, _, _, _, _, _, _, _, _, _, _, _, _, _, _, _, _, rfl, rfl, HI⟩
      · exfalso
        simp at he
        omega
    | false =>
    go_wp2_with fail
    refine (tenW (bt xs j) hc0 hc1 _).mono ?_
    rintro e w3' ⟨rfl, rfl⟩
    cases hdg : digB (bt xs j) with
    | true =>
      have HT : Hid (tokN xs j = tok xs j) := hid (by unfold tok; rw [if_neg (by simp [hbl]), if_neg h47, if_neg (by simp [hlt]), if_pos hdg])
      clear hbl h47 hlt hdg
      go_wp2_with fail
      refine (numberW p xs j _ _ j kept _ w.heap.size ws HBB.out rfl hjl hl R3.out I3.out.kp hbs hcnt (HSN.out.keep I3.out.kk HNP.out.symm) HNP.out).mono ?_
      rintro e w4 hW
      replace hW := went_eq HT.out hW
      rcases went_step I3.out hjl hW with ⟨k, kept', wds', ws', he, hjk, hI⟩ | ⟨c, hc, he, hlx, hRR, hKK⟩
      · subst he
        have hkl := hI.le
        have HI := hid hI
        clear hI hW
        go_wp2
        go_step3
        exact ⟨rfl, xs.length - k, by omega, k, kept', wds', ws', _, _, _, _, _, _, _, _, _, _, _, _, _, _, _, _, _, _, _, _, _, _, _, _, _, _, _, _, _, _, _, _, _, _, _, _, _, _, _, _, _, _, _, _, _, _, _, _, _, _, _, _, _, _, _, _, _, rfl, rfl, HI⟩
      · subst he
        have HW : Hid (Worded xs p w (.returned (.int .i64 c)) w4) := hid (worded_bad hc hlx hRR hKK)
        clear hlx hRR hKK hW
        rcases hc with rfl | rfl
        all_goals
          go_wp2
          simp only [Exit.jumps]
          go_ret
          exact HW.out
    | false =>
    by_cases h34 : bt xs j = 34
    · have HT : Hid (tokQ xs j = tok xs j) := hid (by unfold tok; rw [if_neg (by simp [hbl]), if_neg h47, if_neg (by simp [hlt]), if_neg (by simp [hdg]), if_pos h34])
      have e34 : (bt xs j == 34) = true := by simpa using h34
      clear hbl h47 hlt hdg h34
      go_wp2_with fail
      refine (quotedW p xs j _ _ j kept _ w.heap.size ws HBB.out rfl hjl hl R3.out I3.out.kp hbs hcnt).mono ?_
      rintro e w4 hW
      replace hW := went_eq HT.out hW
      rcases went_step I3.out hjl hW with ⟨k, kept', wds', ws', he, hjk, hI⟩ | ⟨c, hc, he, hlx, hRR, hKK⟩
      · subst he
        have hkl := hI.le
        have HI := hid hI
        clear hI hW
        go_wp2
        go_step3
        exact ⟨rfl, xs.length - k, by omega, k, kept', wds', ws', _, _, _, _, _, _, _, _, _, _, _, _, _, _, _, _, _, _, _, _, _, _, _, _, _, _, _, _, _, _, _, _, _, _, _, _, _, _, _, _, _, _, _, _, _, _, _, _, _, _, _, _, _, _, _, _, _, rfl, rfl, HI⟩
      · subst he
        have HW : Hid (Worded xs p w (.returned (.int .i64 c)) w4) := hid (worded_bad hc hlx hRR hKK)
        clear hlx hRR hKK hW
        rcases hc with rfl | rfl
        all_goals
          go_wp2
          simp only [Exit.jumps]
          go_ret
          exact HW.out
    have e34 : (bt xs j == 34) = false := by simpa using h34
    go_wp2_with fail
    refine (signsW (bt xs j) hc0 hc1 _).mono ?_
    rintro e w3' ⟨rfl, rfl⟩
    cases hsg : sgnB (bt xs j) with
    | true =>
      have HT : Hid (tok xs j = .word 4 (j + 1) 0 []) := hid (by unfold tok; rw [if_neg (by simp [hbl]), if_neg h47, if_neg (by simp [hlt]), if_neg (by simp [hdg]), if_neg h34, if_pos hsg])
      clear hbl h47 hlt hdg h34 hsg
      go_wp2_with fail
      refine (signW p xs j _ _ j kept _ w.heap.size ws HBB.out (Nat.le_refl _) hjl hl R3.out I3.out.kp hbs hcnt).mono ?_
      rintro e w4 ⟨rfl, T4⟩
      have hW := went_name HT.out T4
      clear T4
      rcases went_step I3.out hjl hW with ⟨k, kept', wds', ws', he, hjk, hI⟩ | ⟨c, hc, he, hlx, hRR, hKK⟩
      · clear he
        have hkl := hI.le
        have HI := hid hI
        clear hI hW
        go_wp2
        go_step3
        exact ⟨rfl, xs.length - k, by omega, k, kept', wds', ws', _, _, _, _, _, _, _, _, _, _, _, _, _, _, _, _, _, _, _, _, _, _, _, _, _, _, _, _, _, _, _, _, _, _, _, _, _, _, _, _, _, _, _, _, _, _, _, _, _, _, _, _, _, _, _, _, _, rfl, rfl, HI⟩
      · exfalso
        simp at he
        omega
    | false =>
    have HT : Hid (tok xs j = .bad 11) := hid (by unfold tok; rw [if_neg (by simp [hbl]), if_neg h47, if_neg (by simp [hlt]), if_neg (by simp [hdg]), if_neg h34, if_neg (by simp [hsg])])
    have HW : Hid (Worded xs p w (.returned (.int .i64 11)) w3) := hid (worded_bad (.inl rfl) (by rw [← I3.out.lx, lxAt_bad hjl HT.out]) ⟨_, _, R3.out⟩ I3.out.kk)
    clear hbl h47 hlt hdg h34 hsg
    go_wp2
    simp only [Exit.jumps]
    go_ret
    exact HW.out
  · intro R hX
    go_wp2
    rename_i K hK
    exact wp_label (hK _ _ (hX _ _ _ ⟨0, _, [], [], _, _, _, _, _, _, _, _, _, _, _, _, _, _, _, _, _, _, _, _, _, _, _, _, _, _, _, _, _, _, _, _, _, _, _, _, _, _, _, _, _, _, _, _, _, _, _, _, _, _, _, _, _, _, _, _, _, rfl, rfl, HI0⟩))
end
set_option maxHeartbeats 4000000
/-- A slice of words that can be read. -/
structure ReadsW (w : World) (a : Option Addr) (len cap : Nat) (ms : List Mw) : Prop where
  length : ms.length = len
  le : len ≤ cap
  max : cap ≤ 9223372036854775807
  cells : (len = 0 ∧ (a = none → cap = 0)) ∨ ∃ b off, a = some ⟨b, off, none⟩ ∧ ∀ i x, ms[i]? = some x → ∃ sa sc,
    w.cell? ⟨b, off + i * 6, none⟩ = some (.int .i64 x.kind) ∧ w.cell? ⟨b, off + i * 6 + 1, none⟩ = some (.string (strOfNums x.s)) ∧ w.cell? ⟨b, off + i * 6 + 2, none⟩ = some (.int .u64 x.n) ∧ w.cell? ⟨b, off + i * 6 + 3, none⟩ = some (.slice sa x.b.length sc) ∧
    w.cell? ⟨b, off + i * 6 + 4, none⟩ = some (.int .i64 x.line) ∧ w.cell? ⟨b, off + i * 6 + 5, none⟩ = some (.int .i64 x.col) ∧ Reads w sa x.b.length sc x.b
theorem readsW_nil (w : World) : ReadsW w none 0 0 [] := ⟨rfl, Nat.le_refl _, by omega, .inl ⟨rfl, fun _ => rfl⟩⟩
theorem kp_reads {w : World} {base p : Nat} {t : TypeId} {v : Value} {ws : List (Mw × Value)} (h : Kp w base p t v ws) : ∃ a c, v = .slice a ws.length c ∧ ReadsW w a ws.length c (ws.map Prod.fst) := by
  rcases h.row.2 with ⟨rfl, h0⟩ | ⟨g, cap, cur, rfl, hbg, hgg, hnc, hcm, hcs, htake⟩
  · rw [h0]
    exact ⟨none, 0, rfl, by simp [h0], Nat.le_refl _, by omega, .inl ⟨rfl, fun _ => rfl⟩⟩
  · refine ⟨_, cap, rfl, by simp, hnc, by unfold maxLen at hcm; omega, .inr ⟨g, 0, rfl, fun i x hx => ?_⟩⟩
    rw [List.getElem?_map] at hx
    cases hy : ws[i]? with
    | none => rw [hy] at hx; cases hx
    | some y =>
      rw [hy] at hx
      simp at hx
      obtain ⟨x', u⟩ := y
      simp at hx
      subst hx
      obtain ⟨f0, f1, f2, f3, f4, f5⟩ := flatW_get ws i x' u hy
      obtain ⟨sa, sc, hu, hr, _⟩ := h.each _ (List.mem_of_getElem? hy)
      simp only [] at hu hr
      subst hu
      have hadd : ∀ j, (⟨g, 0, none⟩ : Addr).add j = ⟨g, 0 + j, none⟩ := fun j => by unfold Addr.add; split <;> simp_all
      have hcell : ∀ j u, (flatW ws)[j]? = some u → w.cell? ⟨g, 0 + j, none⟩ = some u := fun j u hu => by rw [← hadd]; exact h.row.cells (g := g) rfl j u hu
      refine ⟨sa, sc, hcell _ _ f0, ?_, ?_, ?_, ?_, ?_, hr⟩
      · have := hcell _ _ f1; rwa [← Nat.add_assoc] at this
      · have := hcell _ _ f2; rwa [← Nat.add_assoc] at this
      · have := hcell _ _ f3; rwa [← Nat.add_assoc] at this
      · have := hcell _ _ f4; rwa [← Nat.add_assoc] at this
      · have := hcell _ _ f5; rwa [← Nat.add_assoc] at this
theorem set_same {w : World} {p : Nat} {t : TypeId} {cs : Array Value} (h : Blk w p t cs) (i : Nat) {v : Value} (hv : cs[i]? = some v) : w.setCell ⟨p, i, none⟩ v = w := by
  obtain ⟨hlt, hk⟩ := Array.getElem?_eq_some_iff.1 h
  have e : cs.setIfInBounds i v = cs := by
    apply Array.ext
    · simp
    · intro j h1 h2
      rw [Array.getElem_setIfInBounds h2]
      split
      · rename_i hij
        subst hij
        obtain ⟨_, h3⟩ := Array.getElem?_eq_some_iff.1 hv
        exact h3.symm
      · rfl
  have e2 : ∀ f : Obj → Obj, f (.cells cs t (0, 0)) = .cells cs t (0, 0) → w.heap.modify p f = w.heap := by
    intro f hf
    apply Array.ext
    · simp
    · intro j h1 h2
      rw [Array.getElem_modify]
      split
      · rename_i hij
        subst hij
        rw [hk, hf]
      · rfl
  have e3 : (w.setCell ⟨p, i, none⟩ v).heap = w.heap := by
    unfold World.setCell
    dsimp only
    apply e2
    simp [e]
  show ({ w with heap := (w.setCell ⟨p, i, none⟩ v).heap } : World) = w
  rw [e3]
/-- What Split answers: the words, the fault. -/
def outE (xs : List Int) : List Mw × Int × Int × Int :=
  if 65536 < xs.length then ([], 1, 0, 0) else if (lx xs).code = 0 then ((lx xs).ws.map (mw xs), 0, 0, 0) else ([], (lx xs).code, lnA xs (lx xs).pos, clA xs (lx xs).pos)
/-- What the callers of Split are told. -/
def SplitG (w : World) (g : List Mw × Int × Int × Int) (e : Ending) (w' : World) : Prop := ∃ a c, e = .returned (.tuple #[.slice a g.1.length c, .agg #[.int .i64 g.2.1, .int .i64 0, .int .i64 g.2.2.1, .int .i64 g.2.2.2]]) ∧ ReadsW w' a g.1.length c g.1 ∧ Below w.heap.size w w'
theorem splitBig (xs : List Int) (w : World) (h : 65536 < xs.length) (hm : xs.length ≤ 9223372036854775807) : Calls Tryz.prog 14 #[.string (strOfNums xs)] w fun e w' => SplitG w (outE xs) e w' := by
  have HE : Hid (outE xs = ([], 1, 0, 0)) := hid (by unfold outE; rw [if_pos h])
  have hs : (strOfNums xs).size = xs.length := strOfNums_size xs
  have h1 : (65536 : Int) < (xs.length : Int) := by omega
  have h2 : (xs.length : Int) ≤ 9223372036854775807 := by omega
  clear h hm
  generalize xs.length = n at *
  go_enter Tryz.func14, Tryz.ntmps14
  go_wp2
  exact bodyPost_ret (v := .tuple #[.slice none 0 0, .agg #[.int .i64 1, .int .i64 0, .int .i64 0, .int .i64 0]]) (by simp [results, Tryz.results14, go_sem]) rfl ⟨none, 0, by rw [HE.out]; rfl, by rw [HE.out]; exact readsW_nil _, below_alloc _⟩
theorem splitIn (xs : List Int) (w : World) (hb : ∀ x ∈ xs, 0 ≤ x ∧ x ≤ 255) (h : xs.length ≤ 65536) (hs : Sentinel w 3) : Calls Tryz.prog 14 #[.string (strOfNums xs)] w fun e w' => SplitG w (outE xs) e w' := by
  have hz : (strOfNums xs).size = xs.length := strOfNums_size xs
  have h1 : (xs.length : Int) ≤ 65536 := by omega
  have HWD := hid (fun W p (h1 : Rd W p xs 0 0 0 0 (.slice none 0 0)) h2 h3 => wordsW p xs W hb h h1 h2 h3)
  have HSN := hid hs
  clear hb hs
  go_enter Tryz.func14, Tryz.ntmps14
  go_wp2_with fail
  obtain ⟨w1, hw1⟩ : ∃ w1, ((w.alloc (.cells #[.int .i64 0, .int .i64 0, .int .i64 0, .int .i64 0] 28)).alloc (.cells #[.string (strOfNums xs), .int .i64 0, .int .i64 0, .int .i64 0, .int .i64 0, .int .i64 1, .int .i64 1, .slice none 0 0] 108)) = w1 := ⟨_, rfl⟩
  have B1 : Below w.heap.size w w1 := by rw [← hw1]; exact below_trans (below_alloc _) (below_alloc _)
  have F1 : Blk w1 w.heap.size 28 #[.int .i64 0, .int .i64 0, .int .i64 0, .int .i64 0] := by rw [← hw1]; exact (Blk.new w _ _).kept (below_alloc _)
  have R1 : Rd w1 (w.heap.size + 1) xs 0 0 0 0 (.slice none 0 0) := by
    rw [← hw1]
    have := Blk.new (w.alloc (.cells #[.int .i64 0, .int .i64 0, .int .i64 0, .int .i64 0] 28)) 108 #[.string (strOfNums xs), .int .i64 0, .int .i64 0, .int .i64 0, .int .i64 0, .int .i64 1, .int .i64 1, .slice none 0 0]
    rw [World.size_alloc] at this
    exact ⟨this⟩
  rw [hw1]
  clear hw1
  have hg : 3 < w.heap.size := by obtain ⟨te, pe, h⟩ := HSN.out; exact World.block_lt_of_cell? _ _ h
  refine (HWD.out _ _ R1 (HSN.out.kept B1) (by omega)).mono ?_
  rintro e w2 ⟨rfl, K2, hor⟩
  have HF : Hid (Blk w2 w.heap.size 28 #[.int .i64 0, .int .i64 0, .int .i64 0, .int .i64 0]) := hid (F1.keep K2 (by omega))
  have HB2 : Hid (Below w.heap.size w w2) := hid (B1.trans (K2.below B1.size (fun k hk => by omega)))
  clear K2 R1 F1 B1 hg
  have q0 : w2.cell? ⟨w.heap.size, 0, none⟩ = some (.int .i64 0) := HF.out.cell 0 _ rfl
  have q1 : w2.cell? ⟨w.heap.size, 1, none⟩ = some (.int .i64 0) := HF.out.cell 1 _ rfl
  have q2 : w2.cell? ⟨w.heap.size, 2, none⟩ = some (.int .i64 0) := HF.out.cell 2 _ rfl
  have q3 : w2.cell? ⟨w.heap.size, 3, none⟩ = some (.int .i64 0) := HF.out.cell 3 _ rfl
  have f0 := HF.out.frozen 0
  have f1 := HF.out.frozen 1
  have f2 := HF.out.frozen 2
  have f3 := HF.out.frozen 3
  rcases hor with ⟨hc, fr, bl, bc, i, kept, ws, hR, hK, hws⟩ | ⟨hc, fr, i, kept, hR⟩
  · have HE : Hid (outE xs = (ws.map Prod.fst, 0, 0, 0)) := hid (by unfold outE; rw [if_neg (by omega), if_pos hc, hws])
    rw [hc]
    obtain ⟨a, c, rfl, hrd⟩ := kp_reads hK
    obtain ⟨c0, c1, c2, c3, c4, c5, c6, c7⟩ := hR.cells
    have HRD := hid hrd
    have HLN : Hid ((ws.map Prod.fst).length = ws.length) := hid (by simp)
    clear hR hK hws hc hrd
    generalize ws.length = ln at *
    go_wp2
    rw [set_same (v := .int .i64 0) HF.out 0 rfl, set_same (v := .int .i64 0) HF.out 1 rfl, set_same (v := .int .i64 0) HF.out 2 rfl, set_same (v := .int .i64 0) HF.out 3 rfl]
    exact bodyPost_ret (v := .tuple #[.slice a ln c, .agg #[.int .i64 0, .int .i64 0, .int .i64 0, .int .i64 0]]) (by simp [results, Tryz.results14, go_sem, q0, q1, q2, q3]) rfl ⟨a, c, by rw [HE.out, HLN.out], by rw [HE.out, HLN.out]; exact HRD.out, HB2.out⟩
  · have hne : (lx xs).code ≠ 0 := by rcases hc with h | h <;> rw [h] <;> decide
    have HE : Hid (outE xs = ([], (lx xs).code, lnA xs (lx xs).pos, clA xs (lx xs).pos)) := hid (by unfold outE; rw [if_neg (by omega), if_neg hne])
    have hnb : ((lx xs).code != 0) = true := by simpa using hne
    obtain ⟨c0, c1, c2, c3, c4, c5, c6, c7⟩ := hR.cells
    clear hR hc hne
    generalize (lx xs).code = cd at *
    generalize lnA xs (lx xs).pos = L at *
    generalize clA xs (lx xs).pos = C at *
    go_wp2
    go_region
    go_wp2
    exact bodyPost_ret (v := .tuple #[.slice none 0 0, .agg #[.int .i64 cd, .int .i64 0, .int .i64 L, .int .i64 C]]) (by simp [results, Tryz.results14, go_sem, q0, q1, q2, q3]) rfl ⟨none, 0, by rw [HE.out]; rfl, by rw [HE.out]; exact readsW_nil _, ((((HB2.out.setCell (by simp) _).setCell (by simp) _).setCell (by simp) _).setCell (by simp) _).drew⟩
theorem below_twoo {w : World} (o o' : Obj) : Below w.heap.size w ((w.alloc o).alloc o') := below_trans (below_alloc o) (below_alloc o')
/-- Split at any text. -/
theorem splitW (xs : List Int) (w : World) (hb : ∀ x ∈ xs, 0 ≤ x ∧ x ≤ 255) (hm : xs.length ≤ 9223372036854775807) (hs : Sentinel w 3) : Calls Tryz.prog 14 #[.string (strOfNums xs)] w fun e w' => SplitG w (outE xs) e w' := by
  by_cases h : 65536 < xs.length
  · exact splitBig xs w h hm
  · exact splitIn xs w hb (by omega) hs
/-- A token's kind, a fault's code. -/
def Tk.fine : Tk → Prop
  | .skip _ => True
  | .word k _ _ _ => 1 ≤ k ∧ k ≤ 4
  | .bad c => c ≠ 0
theorem tok_fine (xs : List Int) (i : Nat) : (tok xs i).fine := by
  unfold tok tokC tokN tokQ
  repeat' split
  all_goals simp [Tk.fine]
/-- Words one behind the other, the end's last. -/
def Ch (xs : List Int) : Nat → List Wd → Prop
  | _, [] => False
  | i, x :: r => (x = ⟨5, xs.length, xs.length, 0, []⟩ ∧ r = [] ∧ i ≤ xs.length) ∨ (i ≤ x.st ∧ x.st < x.en ∧ x.en ≤ xs.length ∧ 1 ≤ x.kind ∧ x.kind ≤ 4 ∧ tok xs x.st = .word x.kind x.en x.n x.b ∧ Ch xs x.en r)
theorem ch_less {xs : List Int} {i j : Nat} {l : List Wd} (h : Ch xs i l) (hj : j ≤ i) : Ch xs j l := by
  cases l with
  | nil => exact h.elim
  | cons x r =>
    rcases h with ⟨h1, h2, h3⟩ | ⟨h1, h2⟩
    · exact .inl ⟨h1, h2, by omega⟩
    · exact .inr ⟨by omega, h2⟩
theorem lxF_ch {xs : List Int} : ∀ f i acc, i ≤ xs.length → xs.length < f + i → (lxF xs f i acc).code = 0 → ∃ r, (lxF xs f i acc).ws = acc ++ r ∧ Ch xs i r
  | 0, i, acc, h1, h2, _ => by omega
  | f + 1, i, acc, h1, h2, h3 => by
    unfold lxF at h3 ⊢
    by_cases hi : xs.length ≤ i
    · rw [if_pos hi]
      obtain rfl : i = xs.length := by omega
      exact ⟨_, rfl, .inl ⟨rfl, rfl, Nat.le_refl _⟩⟩
    · rw [if_neg hi] at h3 ⊢
      have hf := tok_fine xs i
      cases ht : tok xs i with
      | skip j =>
        rw [ht] at h3
        have := tok_skip (by omega) ht
        obtain ⟨r, e, hc⟩ := lxF_ch f j acc this.2 (by omega) h3
        exact ⟨r, e, ch_less hc (by omega)⟩
      | bad c =>
        rw [ht] at h3 hf
        exact absurd h3 hf
      | word k e n b =>
        rw [ht] at h3 hf
        have := tok_word (by omega) ht
        obtain ⟨r, er, hc⟩ := lxF_ch f e _ this.2 (by omega) h3
        refine ⟨⟨k, i, e, n, b⟩ :: r, by simp only; rw [er, List.append_assoc]; rfl, .inr ⟨Nat.le_refl _, this.1, this.2, hf.1, hf.2, ht, hc⟩⟩
theorem lx_ch {xs : List Int} (h : (lx xs).code = 0) : Ch xs 0 (lx xs).ws := by
  unfold lx lxAt at h ⊢
  obtain ⟨r, e, hc⟩ := lxF_ch _ 0 [] (by omega) (by omega) h
  rw [e]
  exact hc
structure MF where
  name : List Int
  ty : List Int
  key : List Int
  num : Int
  label : Int
  packed : Int
  oneof : Int
  at1 : Int × Int
  nat1 : Int × Int
  tat : Int × Int
  mat : Int × Int
structure MI where
  name : List Int
  at1 : Int × Int
structure MO where
  name : List Int
  at1 : Int × Int
structure MR where
  low : Int
  high : Int
  at1 : Int × Int
structure MS where
  name : List Int
  num : Int
  at1 : Int × Int
  nat1 : Int × Int
structure MD where
  enum : Bool
  name : List Int
  at1 : Int × Int
  fields : List MF
  oneofs : List MO
  decls : List MD
  res : List MR
  syms : List MS
structure MT where
  imps : List MI
  decls : List MD
def zM : Mw := ⟨0, [], 0, [], 0, 0⟩
def zD : MD := ⟨false, [], (0, 0), [], [], [], [], []⟩
/-- The words that are left, and the first fault. -/
structure PS where
  l : List Mw
  cd : Int
  ln : Int
  cl : Int
def hdM (s : PS) : Mw := s.l.headD zM
def badM (s : PS) (c : Int) : PS := if s.cd = 0 then ⟨s.l, c, (hdM s).line, (hdM s).col⟩ else s
def isM (s : PS) (x : List Int) : Bool := decide (s.cd = 0) && ((decide ((hdM s).kind = 1) || decide ((hdM s).kind = 4)) && decide ((hdM s).s = x))
def nxM (s : PS) : PS := ⟨s.l.tail, s.cd, s.ln, s.cl⟩
def eatM (s : PS) (x : List Int) : PS := if s.cd = 0 then (if isM s x = true then nxM s else badM s 11) else s
def takeM (s : PS) (k : Int) : Mw × PS := if s.cd = 0 then (if (hdM s).kind = k then (hdM s, nxM s) else (zM, badM s 11)) else (zM, s)
def atM (m : Mw) : Int × Int := (m.line, m.col)
/-- How much is left. -/
def muM (s : PS) : Nat := if s.cd = 0 then s.l.length + 1 else 0
section
variable {σ : Type}
def lpM (c : σ → Bool) (f : σ → σ) : Nat → σ → σ
  | 0, x => x
  | n + 1, x => if c x = true then lpM c f n (f x) else x
/-- While c holds. -/
def whM (c : σ → Bool) (f : σ → σ) (p : σ → PS) (x : σ) : σ := lpM c f (muM (p x)) x
theorem lpM_fuel {c : σ → Bool} {f : σ → σ} {p : σ → PS} (h : ∀ x, c x = true → muM (p (f x)) < muM (p x)) : ∀ n m x, muM (p x) ≤ n → muM (p x) ≤ m → lpM c f n x = lpM c f m x
  | 0, 0, x, _, _ => rfl
  | 0, m + 1, x, h0, _ => by
    have : ¬ c x = true := fun e => by have := h x e; omega
    rw [lpM, lpM, if_neg this]
  | n + 1, 0, x, _, h0 => by
    have : ¬ c x = true := fun e => by have := h x e; omega
    rw [lpM, lpM, if_neg this]
  | n + 1, m + 1, x, h1, h2 => by
    rw [lpM, lpM]
    by_cases hc : c x = true
    · have := h x hc
      rw [if_pos hc, if_pos hc, lpM_fuel h n m (f x) (by omega) (by omega)]
    · rw [if_neg hc, if_neg hc]
theorem whM_go {c : σ → Bool} {f : σ → σ} {p : σ → PS} (h : ∀ x, c x = true → muM (p (f x)) < muM (p x)) {x : σ} (hc : c x = true) : whM c f p x = whM c f p (f x) := by
  have hl := h x hc
  unfold whM
  obtain ⟨n, hn⟩ : ∃ n, muM (p x) = n + 1 := ⟨muM (p x) - 1, by omega⟩
  rw [hn, lpM, if_pos hc]
  exact lpM_fuel h _ _ _ (by omega) (Nat.le_refl _)
theorem whM_stop {c : σ → Bool} {f : σ → σ} {p : σ → PS} {x : σ} (hc : c x = false) : whM c f p x = x := by
  unfold whM
  cases muM (p x) with
  | zero => rfl
  | succ n => rw [lpM, if_neg (by simp [hc])]
theorem whM_le {c : σ → Bool} {f : σ → σ} {p : σ → PS} (h : ∀ x, c x = true → muM (p (f x)) ≤ muM (p x)) (x : σ) : muM (p (whM c f p x)) ≤ muM (p x) := by
  unfold whM
  suffices H : ∀ n x, muM (p (lpM c f n x)) ≤ muM (p x) from H _ _
  clear x
  intro n
  induction n with
  | zero => intro x; exact Nat.le_refl _
  | succ n ih =>
    intro x
    rw [lpM]
    by_cases hc : c x = true
    · rw [if_pos hc]; exact Nat.le_trans (ih _) (h x hc)
    · rw [if_neg hc]; exact Nat.le_refl _
end
-- the forms
def typSt (x : List Int × PS) : List Int × PS := (x.1 ++ 46 :: (takeM (eatM x.2 [46]) 1).1.s, (takeM (eatM x.2 [46]) 1).2)
def typC (x : List Int × PS) : Bool := isM x.2 [46]
def typL (x : List Int × PS) : List Int × PS := whM typC typSt (·.2) x
def typM (s : PS) : List Int × (Int × Int) × PS := ((typL ((takeM s 1).1.s, (takeM s 1).2)).1, atM (takeM s 1).1, (typL ((takeM s 1).1.s, (takeM s 1).2)).2)
def namM (s : PS) : Mw × Mw × PS := ((takeM s 1).1, takeM (eatM (takeM s 1).2 [61]) 2)
def wPacked : List Int := [112, 97, 99, 107, 101, 100]
def wTrue : List Int := [116, 114, 117, 101]
def wFalse : List Int := [102, 97, 108, 115, 101]
def wMap : List Int := [109, 97, 112]
def wEnum : List Int := [101, 110, 117, 109]
def wMessage : List Int := [109, 101, 115, 115, 97, 103, 101]
def wOneof : List Int := [111, 110, 101, 111, 102]
def wReserved : List Int := [114, 101, 115, 101, 114, 118, 101, 100]
def wTo : List Int := [116, 111]
def wOptional : List Int := [111, 112, 116, 105, 111, 110, 97, 108]
def wRepeated : List Int := [114, 101, 112, 101, 97, 116, 101, 100]
def wImport : List Int := [105, 109, 112, 111, 114, 116]
/-- Behind the sign that opens it: packed, and what it says. -/
def opA (s : PS) : PS := eatM s [91]
def opB (s : PS) : PS := eatM (eatM (opA s) wPacked) [61]
def opM (f : MF) (s : PS) : MF × PS :=
  if isM (opB s) wTrue = true then ({ f with mat := if (opA s).cd = 0 then atM (hdM (opA s)) else f.mat, packed := 1 }, eatM (eatM (opB s) wTrue) [93])
  else ({ f with mat := if (opA s).cd = 0 then atM (hdM (opA s)) else f.mat, packed := 2 }, eatM (eatM (opB s) wFalse) [93])
def fld (key t : List Int) (tat : Int × Int) (w n : Mw) (label : Int) (mark : Int × Int) : MF := ⟨w.s, t, key, n.n, label, 0, 0, atM w, atM n, tat, mark⟩
def fldA (s : PS) (label : Int) (mark : Int × Int) : MF × PS :=
  (fld [] (typM s).1 (typM s).2.1 (namM (typM s).2.2).1 (namM (typM s).2.2).2.1 label mark, (namM (typM s).2.2).2.2)
def fldM (s : PS) (label : Int) (mark : Int × Int) : MF × PS :=
  if label ≠ 4 ∧ isM (fldA s label mark).2 [91] = true then ((opM (fldA s label mark).1 (fldA s label mark).2).1, eatM (opM (fldA s label mark).1 (fldA s label mark).2).2 [59])
  else ((fldA s label mark).1, eatM (fldA s label mark).2 [59])
def prA (s : PS) : Mw × PS := takeM (eatM (eatM s wMap) [60]) 1
def prB (s : PS) : List Int × (Int × Int) × PS := typM (eatM (prA s).2 [44])
def prC (s : PS) : Mw × Mw × PS := namM (eatM (prB s).2.2 [62])
def prsM (s : PS) : MF × PS := (fld (prA s).1.s (prB s).1 (prB s).2.1 (prC s).1 (prC s).2.1 5 (atM (prA s).1), eatM (prC s).2.2 [59])
def symM (s : PS) : MS × PS := (⟨(namM s).1.s, (namM s).2.1.n, atM (namM s).1, atM (namM s).2.1⟩, eatM (namM s).2.2 [59])
def endC (s : PS) : Bool := decide (s.cd = 0) && !isM s [125]
-- a oneof's members
def oneM (i : Int) (s : PS) : MF × PS := ({ (fldM s 4 (0, 0)).1 with oneof := i }, (fldM s 4 (0, 0)).2)
def oneSt (i : Int) (x : List MF × PS) : List MF × PS := (x.1 ++ [(oneM i x.2).1], (oneM i x.2).2)
def oneL (i : Int) (x : List MF × PS) : List MF × PS := whM (fun x => endC x.2) (oneSt i) (·.2) x
def onA (s : PS) : Mw × PS := takeM (eatM s wOneof) 1
def onB (i : Int) (fs : List MF) (s : PS) : List MF × PS := oneL i (oneSt i (fs, eatM (onA s).2 [123]))
def oneofM (d : MD) (s : PS) : MD × PS :=
  ({ d with oneofs := d.oneofs ++ [⟨(onA s).1.s, atM (onA s).1⟩], fields := (onB d.oneofs.length d.fields s).1 }, eatM (onB d.oneofs.length d.fields s).2 [125])
-- ranges
def rngM (s : PS) : MR × PS :=
  if isM (takeM s 2).2 wTo = true then (⟨(takeM s 2).1.n, (takeM (eatM (takeM s 2).2 wTo) 2).1.n, atM (takeM s 2).1⟩, (takeM (eatM (takeM s 2).2 wTo) 2).2)
  else (⟨(takeM s 2).1.n, (takeM s 2).1.n, atM (takeM s 2).1⟩, (takeM s 2).2)
def rngSt (x : List MR × PS) : List MR × PS := (x.1 ++ [(rngM (eatM x.2 [44])).1], (rngM (eatM x.2 [44])).2)
def rngL (x : List MR × PS) : List MR × PS := whM (fun x => isM x.2 [44]) rngSt (·.2) x
def rsB (rs : List MR) (s : PS) : List MR × PS := rngL (rs ++ [(rngM (eatM s wReserved)).1], (rngM (eatM s wReserved)).2)
def resM (d : MD) (s : PS) : MD × PS := ({ d with res := (rsB d.res s).1 }, eatM (rsB d.res s).2 [59])
-- a message's members
def labM (s : PS) : Int := if isM s wRepeated = true then 2 else if isM s wOptional = true then 1 else 0
def memM (sub : PS → MD × PS) (x : MD × PS) : MD × PS :=
  if isM x.2 wMessage = true ∨ isM x.2 wEnum = true then ({ x.1 with decls := x.1.decls ++ [(sub x.2).1] }, (sub x.2).2)
  else if isM x.2 wOneof = true then oneofM x.1 x.2
  else if isM x.2 wReserved = true then resM x.1 x.2
  else if isM x.2 wMap = true then ({ x.1 with fields := x.1.fields ++ [(prsM x.2).1] }, (prsM x.2).2)
  else if labM x.2 = 0 then ({ x.1 with fields := x.1.fields ++ [(fldM x.2 0 (0, 0)).1] }, (fldM x.2 0 (0, 0)).2)
  else ({ x.1 with fields := x.1.fields ++ [(fldM (nxM x.2) (labM x.2) (atM (hdM x.2))).1] }, (fldM (nxM x.2) (labM x.2) (atM (hdM x.2))).2)
def symSt (x : List MS × PS) : List MS × PS := (x.1 ++ [(symM x.2).1], (symM x.2).2)
def symL (x : List MS × PS) : List MS × PS := whM (fun x => endC x.2) symSt (·.2) x
def enA (s : PS) : Mw × PS := takeM (eatM s wEnum) 1
def enmM (s : PS) : MD × PS :=
  (⟨true, (enA s).1.s, atM (enA s).1, [], [], [], [], (symL ([], eatM (enA s).2 [123])).1⟩, eatM (symL ([], eatM (enA s).2 [123])).2 [125])
def memL (sub : PS → MD × PS) (x : MD × PS) : MD × PS := whM (fun x => endC x.2) (memM sub) (·.2) x
def msA (s : PS) : Mw × PS := takeM (eatM s wMessage) 1
def msB (sub : PS → MD × PS) (s : PS) : MD × PS := memL sub (⟨false, (msA s).1.s, atM (msA s).1, [], [], [], [], []⟩, eatM (msA s).2 [123])
def msgM (sub : PS → MD × PS) (s : PS) : MD × PS := ((msB sub s).1, eatM (msB sub s).2 [125])
/-- A declaration; so many messages may still be around. -/
def dclM : Nat → PS → MD × PS
  | 0, s => if isM s wEnum = true then enmM s else (zD, badM s 17)
  | k + 1, s => if isM s wEnum = true then enmM s else msgM (dclM k) s
-- a file
def impM (s : PS) : MI × PS := (⟨(takeM (eatM s wImport) 3).1.b, atM (takeM (eatM s wImport) 3).1⟩, eatM (takeM (eatM s wImport) 3).2 [59])
def filSt (x : MT × PS) : MT × PS :=
  if isM x.2 wImport = true then (⟨x.1.imps ++ [(impM x.2).1], x.1.decls⟩, (impM x.2).2)
  else if isM x.2 wMessage = true ∨ isM x.2 wEnum = true then (⟨x.1.imps, x.1.decls ++ [(dclM 8 x.2).1]⟩, (dclM 8 x.2).2)
  else (x.1, badM x.2 11)
def filC (x : MT × PS) : Bool := decide (x.2.cd = 0) && decide ((hdM x.2).kind ≠ 5)
def filL (x : MT × PS) : MT × PS := whM filC filSt (·.2) x
def wsM (ms : List Mw) : MT × PS := filL (⟨[], []⟩, ⟨ms, 0, 0, 0⟩)
-- how much is left, form by form
theorem mu_nx {s : PS} (h0 : s.cd = 0) (hk : (hdM s).kind ≠ 0) : muM (nxM s) < muM s := by
  unfold hdM at hk
  cases hl : s.l with
  | nil => rw [hl] at hk; exact absurd rfl hk
  | cons x r => unfold muM nxM; simp [h0, hl]
theorem is_parts {s : PS} {x : List Int} (h : isM s x = true) : s.cd = 0 ∧ ((hdM s).kind = 1 ∨ (hdM s).kind = 4) ∧ (hdM s).s = x := by
  unfold isM at h
  simpa using h
theorem mu_bad (s : PS) (c : Int) (hc : c ≠ 0) : muM (badM s c) = 0 := by
  unfold badM
  by_cases h : s.cd = 0
  · rw [if_pos h]; unfold muM; rw [if_neg hc]
  · rw [if_neg h]; unfold muM; rw [if_neg h]
theorem mu_pos {s : PS} (h : s.cd = 0) : 0 < muM s := by unfold muM; rw [if_pos h]; omega
theorem mu_eat_lt {s : PS} (h : s.cd = 0) (x : List Int) : muM (eatM s x) < muM s := by
  unfold eatM
  rw [if_pos h]
  split
  · rename_i hi
    obtain ⟨_, hk, _⟩ := is_parts hi
    exact mu_nx h (by omega)
  · rw [mu_bad _ _ (by decide)]; exact mu_pos h
theorem mu_eat (s : PS) (x : List Int) : muM (eatM s x) ≤ muM s := by
  by_cases h : s.cd = 0
  · exact Nat.le_of_lt (mu_eat_lt h x)
  · unfold eatM; rw [if_neg h]; exact Nat.le_refl _
theorem mu_take_lt {s : PS} (h : s.cd = 0) {k : Int} (hk : k ≠ 0) : muM (takeM s k).2 < muM s := by
  unfold takeM
  rw [if_pos h]
  split
  · rename_i hi
    exact mu_nx h (by omega)
  · simp only []; rw [mu_bad _ _ (by decide)]; exact mu_pos h
theorem mu_take (s : PS) {k : Int} (hk : k ≠ 0) : muM (takeM s k).2 ≤ muM s := by
  by_cases h : s.cd = 0
  · exact Nat.le_of_lt (mu_take_lt h hk)
  · unfold takeM; rw [if_neg h]; exact Nat.le_refl _
theorem typ_dec : ∀ x : List Int × PS, typC x = true → muM (typSt x).2 < muM x.2 := fun x h => by
  obtain ⟨h0, _⟩ := is_parts (show isM x.2 [46] = true from h)
  exact Nat.lt_of_le_of_lt (mu_take _ (by decide)) (mu_eat_lt h0 _)
theorem mu_typL (x : List Int × PS) : muM (typL x).2 ≤ muM x.2 := whM_le (p := (·.2)) (fun x h => Nat.le_of_lt (typ_dec x h)) x
theorem mu_typ_lt {s : PS} (h : s.cd = 0) : muM (typM s).2.2 < muM s := Nat.lt_of_le_of_lt (mu_typL _) (mu_take_lt h (by decide))
theorem mu_typ (s : PS) : muM (typM s).2.2 ≤ muM s := Nat.le_trans (mu_typL _) (mu_take s (by decide))
theorem mu_nam (s : PS) : muM (namM s).2.2 ≤ muM s := Nat.le_trans (mu_take _ (by decide)) (Nat.le_trans (mu_eat _ _) (mu_take _ (by decide)))
theorem mu_nam_lt {s : PS} (h : s.cd = 0) : muM (namM s).2.2 < muM s := Nat.lt_of_le_of_lt (mu_take _ (by decide)) (Nat.lt_of_le_of_lt (mu_eat _ _) (mu_take_lt h (by decide)))
theorem mu_opB (s : PS) : muM (opB s) ≤ muM s := Nat.le_trans (mu_eat _ _) (Nat.le_trans (mu_eat _ _) (mu_eat _ _))
theorem mu_op (f : MF) (s : PS) : muM (opM f s).2 ≤ muM s := by
  unfold opM
  split <;> exact Nat.le_trans (mu_eat _ _) (Nat.le_trans (mu_eat _ _) (mu_opB s))
theorem mu_fldA_lt {s : PS} (h : s.cd = 0) (label : Int) (mark : Int × Int) : muM (fldA s label mark).2 < muM s := Nat.lt_of_le_of_lt (mu_nam _) (mu_typ_lt h)
theorem mu_fldA (s : PS) (label : Int) (mark : Int × Int) : muM (fldA s label mark).2 ≤ muM s := Nat.le_trans (mu_nam _) (mu_typ _)
theorem mu_fld' (s : PS) (label : Int) (mark : Int × Int) : muM (fldM s label mark).2 ≤ muM (fldA s label mark).2 := by
  unfold fldM
  split
  · exact Nat.le_trans (mu_eat _ _) (mu_op _ _)
  · exact mu_eat _ _
theorem mu_fld (s : PS) (label : Int) (mark : Int × Int) : muM (fldM s label mark).2 ≤ muM s := Nat.le_trans (mu_fld' _ _ _) (mu_fldA _ _ _)
theorem mu_fld_lt {s : PS} (h : s.cd = 0) (label : Int) (mark : Int × Int) : muM (fldM s label mark).2 < muM s := Nat.lt_of_le_of_lt (mu_fld' _ _ _) (mu_fldA_lt h _ _)
theorem mu_prs_lt {s : PS} (h : s.cd = 0) : muM (prsM s).2 < muM s :=
  Nat.lt_of_le_of_lt (mu_eat _ _) (Nat.lt_of_le_of_lt (mu_nam _) (Nat.lt_of_le_of_lt (mu_eat _ _) (Nat.lt_of_le_of_lt (mu_typ _) (Nat.lt_of_le_of_lt (mu_eat _ _) (Nat.lt_of_le_of_lt (mu_take _ (by decide)) (Nat.lt_of_le_of_lt (mu_eat _ _) (mu_eat_lt h _)))))))
theorem mu_sym_lt {s : PS} (h : s.cd = 0) : muM (symM s).2 < muM s := Nat.lt_of_le_of_lt (mu_eat _ _) (mu_nam_lt h)
theorem endC_cd {s : PS} (h : endC s = true) : s.cd = 0 ∧ isM s [125] = false := by unfold endC at h; simpa using h
theorem one_dec (i : Int) : ∀ x : List MF × PS, endC x.2 = true → muM (oneSt i x).2 < muM x.2 := fun x h => mu_fld_lt (endC_cd h).1 _ _
theorem mu_onB (i : Int) (fs : List MF) (s : PS) : muM (onB i fs s).2 ≤ muM (eatM s wOneof) :=
  Nat.le_trans (whM_le (p := (·.2)) (fun x h => Nat.le_of_lt (one_dec i x h)) _) (Nat.le_trans (mu_fld _ _ _) (Nat.le_trans (mu_eat _ _) (mu_take _ (by decide))))
theorem mu_oneof_lt {s : PS} (h : s.cd = 0) (d : MD) : muM (oneofM d s).2 < muM s := Nat.lt_of_le_of_lt (mu_eat _ _) (Nat.lt_of_le_of_lt (mu_onB _ _ _) (mu_eat_lt h _))
theorem mu_rng (s : PS) : muM (rngM s).2 ≤ muM s := by
  unfold rngM
  split
  · exact Nat.le_trans (mu_take _ (by decide)) (Nat.le_trans (mu_eat _ _) (mu_take _ (by decide)))
  · exact mu_take _ (by decide)
theorem rng_dec : ∀ x : List MR × PS, isM x.2 [44] = true → muM (rngSt x).2 < muM x.2 := fun x h => Nat.lt_of_le_of_lt (mu_rng _) (mu_eat_lt (is_parts h).1 _)
theorem mu_rsB (rs : List MR) (s : PS) : muM (rsB rs s).2 ≤ muM (eatM s wReserved) :=
  Nat.le_trans (whM_le (p := (·.2)) (fun x h => Nat.le_of_lt (rng_dec x h)) _) (mu_rng _)
theorem mu_res_lt {s : PS} (h : s.cd = 0) (d : MD) : muM (resM d s).2 < muM s := Nat.lt_of_le_of_lt (mu_eat _ _) (Nat.lt_of_le_of_lt (mu_rsB _ _) (mu_eat_lt h _))
theorem labM_is {s : PS} (h : labM s ≠ 0) : ∃ x, isM s x = true := by
  unfold labM at h
  split at h
  · exact ⟨_, by assumption⟩
  · split at h
    · exact ⟨_, by assumption⟩
    · exact absurd rfl h
theorem mem_dec {sub : PS → MD × PS} (hs : ∀ s, s.cd = 0 → muM (sub s).2 < muM s) {x : MD × PS} (h : x.2.cd = 0) : muM (memM sub x).2 < muM x.2 := by
  unfold memM
  split
  · exact hs _ h
  · split
    · exact mu_oneof_lt h _
    · split
      · exact mu_res_lt h _
      · split
        · exact mu_prs_lt h
        · split
          · exact mu_fld_lt h _ _
          · rename_i hl
            obtain ⟨y, hy⟩ := labM_is hl
            exact Nat.lt_of_le_of_lt (mu_fld _ _ _) (mu_nx h (by have := (is_parts hy).2.1; omega))
theorem sym_dec : ∀ x : List MS × PS, endC x.2 = true → muM (symSt x).2 < muM x.2 := fun x h => mu_sym_lt (endC_cd h).1
theorem mu_symL (x : List MS × PS) : muM (symL x).2 ≤ muM x.2 := whM_le (p := (·.2)) (fun x h => Nat.le_of_lt (sym_dec x h)) x
theorem mu_enm_lt {s : PS} (h : s.cd = 0) : muM (enmM s).2 < muM s :=
  Nat.lt_of_le_of_lt (mu_eat _ _) (Nat.lt_of_le_of_lt (mu_symL _) (Nat.lt_of_le_of_lt (mu_eat _ _) (Nat.lt_of_le_of_lt (mu_take _ (by decide)) (mu_eat_lt h _))))
theorem mu_memL {sub : PS → MD × PS} (hs : ∀ s, s.cd = 0 → muM (sub s).2 < muM s) (x : MD × PS) : muM (memL sub x).2 ≤ muM x.2 := whM_le (p := (·.2)) (fun x h => Nat.le_of_lt (mem_dec hs (endC_cd h).1)) x
theorem mu_msg_lt {sub : PS → MD × PS} (hs : ∀ s, s.cd = 0 → muM (sub s).2 < muM s) {s : PS} (h : s.cd = 0) : muM (msgM sub s).2 < muM s :=
  Nat.lt_of_le_of_lt (mu_eat _ _) (Nat.lt_of_le_of_lt (mu_memL hs _) (Nat.lt_of_le_of_lt (mu_eat _ _) (Nat.lt_of_le_of_lt (mu_take _ (by decide)) (mu_eat_lt h _))))
theorem mu_dcl_lt : ∀ (k : Nat) {s : PS}, s.cd = 0 → muM (dclM k s).2 < muM s
  | 0, s, h => by
    unfold dclM
    split
    · exact mu_enm_lt h
    · rw [mu_bad _ _ (by decide)]; exact mu_pos h
  | k + 1, s, h => by
    unfold dclM
    split
    · exact mu_enm_lt h
    · exact mu_msg_lt (fun s hs => mu_dcl_lt k hs) h
theorem fil_dec : ∀ x : MT × PS, filC x = true → muM (filSt x).2 < muM x.2 := fun x h => by
  have h0 : x.2.cd = 0 := by unfold filC at h; simp at h; exact h.1
  unfold filSt
  split
  · exact Nat.lt_of_le_of_lt (mu_eat _ _) (Nat.lt_of_le_of_lt (mu_take _ (by decide)) (mu_eat_lt h0 _))
  · split
    · exact mu_dcl_lt 8 h0
    · simp only []; rw [mu_bad _ _ (by decide)]; exact mu_pos h0
-- how many items there are
theorem whM_inv {σ : Type} {c : σ → Bool} {f : σ → σ} {p : σ → PS} {Φ : σ → Nat} (h : ∀ x, c x = true → Φ (f x) ≤ Φ x) (x : σ) : Φ (whM c f p x) ≤ Φ x := by
  unfold whM
  suffices H : ∀ n x, Φ (lpM c f n x) ≤ Φ x from H _ _
  clear x
  intro n
  induction n with
  | zero => intro x; exact Nat.le_refl _
  | succ n ih =>
    intro x
    rw [lpM]
    by_cases hc : c x = true
    · rw [if_pos hc]; exact Nat.le_trans (ih _) (h x hc)
    · rw [if_neg hc]; exact Nat.le_refl _
def tot (d : MD) : Nat := d.fields.length + d.oneofs.length + d.decls.length + d.res.length + d.syms.length
theorem one_tot (i : Int) (x : List MF × PS) (h : endC x.2 = true) : (oneSt i x).1.length + 3 * muM (oneSt i x).2 ≤ x.1.length + 3 * muM x.2 := by
  have h1 := one_dec i x h
  have h2 : (oneSt i x).1.length = x.1.length + 1 := by simp [oneSt]
  omega
theorem oneL_tot (i : Int) (x : List MF × PS) : (oneL i x).1.length + 3 * muM (oneL i x).2 ≤ x.1.length + 3 * muM x.2 :=
  whM_inv (p := (·.2)) (Φ := fun x => x.1.length + 3 * muM x.2) (fun x h => one_tot i x h) x
theorem onB_tot (i : Int) (fs : List MF) {s : PS} (h : s.cd = 0) : (onB i fs s).1.length + 3 * muM (onB i fs s).2 + 2 ≤ fs.length + 3 * muM s := by
  have h1 := oneL_tot i (oneSt i (fs, eatM (onA s).2 [123]))
  have h2 : (oneSt i (fs, eatM (onA s).2 [123])).1.length = fs.length + 1 := by simp [oneSt]
  have h3 : muM (oneSt i (fs, eatM (onA s).2 [123])).2 ≤ muM (eatM s wOneof) := Nat.le_trans (mu_fld _ _ _) (Nat.le_trans (mu_eat _ _) (mu_take _ (by decide)))
  have h4 := mu_eat_lt h wOneof
  unfold onB
  omega
theorem oneof_tot (d : MD) {s : PS} (h : s.cd = 0) : tot (oneofM d s).1 + 3 * muM (oneofM d s).2 ≤ tot d + 3 * muM s := by
  have h1 := onB_tot d.oneofs.length d.fields h
  have h2 : muM (oneofM d s).2 ≤ muM (onB d.oneofs.length d.fields s).2 := mu_eat _ _
  have h3 : tot (oneofM d s).1 + d.fields.length = tot d + 1 + (onB d.oneofs.length d.fields s).1.length := by unfold tot oneofM; simp; omega
  omega
theorem rng_tot (x : List MR × PS) (h : isM x.2 [44] = true) : (rngSt x).1.length + 3 * muM (rngSt x).2 ≤ x.1.length + 3 * muM x.2 := by
  have h1 := rng_dec x h
  have h2 : (rngSt x).1.length = x.1.length + 1 := by simp [rngSt]
  omega
theorem rngL_tot (x : List MR × PS) : (rngL x).1.length + 3 * muM (rngL x).2 ≤ x.1.length + 3 * muM x.2 :=
  whM_inv (p := (·.2)) (Φ := fun x => x.1.length + 3 * muM x.2) (fun x h => rng_tot x h) x
theorem rsB_tot (rs : List MR) {s : PS} (h : s.cd = 0) : (rsB rs s).1.length + 3 * muM (rsB rs s).2 + 2 ≤ rs.length + 3 * muM s := by
  have h1 := rngL_tot (rs ++ [(rngM (eatM s wReserved)).1], (rngM (eatM s wReserved)).2)
  have h2 : (rs ++ [(rngM (eatM s wReserved)).1]).length = rs.length + 1 := by simp
  have h3 := mu_rng (eatM s wReserved)
  have h4 := mu_eat_lt h wReserved
  unfold rsB
  simp only [] at h1
  omega
theorem res_tot (d : MD) {s : PS} (h : s.cd = 0) : tot (resM d s).1 + 3 * muM (resM d s).2 ≤ tot d + 3 * muM s := by
  have h1 := rsB_tot d.res h
  have h2 : muM (resM d s).2 ≤ muM (rsB d.res s).2 := mu_eat _ _
  have h3 : tot (resM d s).1 + d.res.length = tot d + (rsB d.res s).1.length := by unfold tot resM; simp; omega
  omega
theorem mem_tot {sub : PS → MD × PS} (hs : ∀ s, s.cd = 0 → muM (sub s).2 < muM s) {x : MD × PS} (h : x.2.cd = 0) : tot (memM sub x).1 + 3 * muM (memM sub x).2 ≤ tot x.1 + 3 * muM x.2 := by
  have hd := mem_dec hs h
  unfold memM at hd ⊢
  split
  · rename_i h1
    rw [if_pos h1] at hd
    unfold tot
    simp only [List.length_append, List.length_cons, List.length_nil] at hd ⊢
    omega
  · rename_i h1
    rw [if_neg h1] at hd
    split
    · exact oneof_tot x.1 h
    · rename_i h2
      rw [if_neg h2] at hd
      split
      · exact res_tot x.1 h
      · rename_i h3
        rw [if_neg h3] at hd
        split
        · rename_i h4
          rw [if_pos h4] at hd
          unfold tot
          simp only [List.length_append, List.length_cons, List.length_nil] at hd ⊢
          omega
        · rename_i h4
          rw [if_neg h4] at hd
          split
          · rename_i h5
            rw [if_pos h5] at hd
            unfold tot
            simp only [List.length_append, List.length_cons, List.length_nil] at hd ⊢
            omega
          · rename_i h5
            rw [if_neg h5] at hd
            unfold tot
            simp only [List.length_append, List.length_cons, List.length_nil] at hd ⊢
            omega
theorem fil_tot (x : MT × PS) (h : filC x = true) : (filSt x).1.imps.length + (filSt x).1.decls.length + 3 * muM (filSt x).2 ≤ x.1.imps.length + x.1.decls.length + 3 * muM x.2 := by
  have hd := fil_dec x h
  unfold filSt at hd ⊢
  split
  · rename_i h1
    rw [if_pos h1] at hd
    simp only [List.length_append, List.length_cons, List.length_nil] at hd ⊢
    omega
  · rename_i h1
    rw [if_neg h1] at hd
    split
    · rename_i h2
      rw [if_pos h2] at hd
      simp only [List.length_append, List.length_cons, List.length_nil] at hd ⊢
      omega
    · rename_i h2
      rw [if_neg h2] at hd
      simp only [] at hd ⊢
      omega
end Go.Proofs.YtidimdbnnnpplaaGreatDoor
