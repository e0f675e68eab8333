/-
  The document's small functions: letters, digits, signs, blanks and comments, places, quoted texts.
  The document's places, quoted texts and numbers.
  The document's numbers.
  What comes in, opened: bytes, strings; and what the bound on it says.
-/
import Derived.Test.YtidimdbnnnpplaaGreatDoorCYB
import Derived.Test.YtidimdbnnnpplaaGreatDoorCYI
import Derived.Test.YtidimdbnnnpplaaGreatDoorCP9b
import Derived.Test.YtidimdbnnnpplaaGreatDoorCG
import Derived.ProofKit
import Derived.OpenShut
import Derived.ShutString
import Derived.Lib.SmallJoins
namespace Go.Proofs.YtidimdbnnnpplaaGreatDoor
open Go.RowKit
set_option maxRecDepth 1000000
set_option maxHeartbeats 8000000
set_option linter.unusedVariables false
theorem ldigitR (c : Int) (w : World) : Calls Tryz.prog 41 #[.int .u8 c] w fun e w' => e = .returned (.bool (digB c)) ∧ w = w' := by
  by_cases h1 : 48 ≤ c
  · by_cases h2 : c ≤ 57
    · have H : Hid (digB c = true) := hid (by unfold digB; simp; omega)
      go_enter Tryz.func41, Tryz.ntmps41
      go_wp2
      go_ret
      exact ⟨ret_bool H.out.symm, rfl⟩
    · have H : Hid (digB c = false) := hid (by unfold digB; simp; omega)
      go_enter Tryz.func41, Tryz.ntmps41
      go_wp2
      go_ret
      exact ⟨ret_bool H.out.symm, rfl⟩
  · have H : Hid (digB c = false) := hid (by unfold digB; simp; omega)
    go_enter Tryz.func41, Tryz.ntmps41
    go_wp2
    go_ret
    exact ⟨ret_bool H.out.symm, rfl⟩
theorem letterR (c : Int) (w : World) : Calls Tryz.prog 40 #[.int .u8 c] w fun e w' => e = .returned (.bool (letB c)) ∧ w = w' := by
  have hc : (97 ≤ c ∧ c ≤ 122) ∨ (97 ≤ c ∧ ¬ c ≤ 122) ∨ (¬ 97 ≤ c ∧ ¬ 65 ≤ c) ∨ (¬ 97 ≤ c ∧ 65 ≤ c ∧ c ≤ 90) ∨ (¬ 97 ≤ c ∧ 65 ≤ c ∧ ¬ c ≤ 90 ∧ c = 95) ∨ (¬ 97 ≤ c ∧ 65 ≤ c ∧ ¬ c ≤ 90 ∧ c ≠ 95) := by omega
  rcases hc with ⟨a1, a2⟩ | ⟨a1, a2⟩ | ⟨a1, a2⟩ | ⟨a1, a2, a3⟩ | ⟨a1, a2, a3, rfl⟩ | ⟨a1, a2, a3, a4⟩
  · have H : Hid (letB c = true) := hid (by unfold letB; simp; omega)
    go_enter Tryz.func40, Tryz.ntmps40
    go_wp2
    go_ret
    exact ⟨ret_bool H.out.symm, rfl⟩
  · have H : Hid (letB c = false) := hid (by unfold letB; simp; omega)
    have hz : (c == 95) = false := by simp; omega
    have a3 : 65 ≤ c := by omega
    have a4 : ¬ c ≤ 90 := by omega
    go_enter Tryz.func40, Tryz.ntmps40
    go_wp2
    go_ret
    exact ⟨ret_bool H.out.symm, rfl⟩
  · have H : Hid (letB c = false) := hid (by unfold letB; simp; omega)
    have hz : (c == 95) = false := by simp; omega
    go_enter Tryz.func40, Tryz.ntmps40
    go_wp2
    go_ret
    exact ⟨ret_bool H.out.symm, rfl⟩
  · have H : Hid (letB c = true) := hid (by unfold letB; simp; omega)
    go_enter Tryz.func40, Tryz.ntmps40
    go_wp2
    go_ret
    exact ⟨ret_bool H.out.symm, rfl⟩
  · go_enter Tryz.func40, Tryz.ntmps40
    go_wp2
    go_ret
    exact ⟨rfl, rfl⟩
  · have H : Hid (letB c = false) := hid (by unfold letB; simp; omega)
    have a5 : (c == 95) = false := by simpa using a4
    clear a4
    go_enter Tryz.func40, Tryz.ntmps40
    go_wp2
    go_ret
    exact ⟨ret_bool H.out.symm, rfl⟩
def sgnL : List Int := [123, 125, 91, 93, 40, 41, 60, 62, 61, 59, 44, 46, 45, 58, 63]
theorem sgn_mem (c : Int) : sgnB c = decide (c ∈ sgnL) := by unfold sgnB sgnL; simp
theorem signR (c : Int) (w : World) : Calls Tryz.prog 45 #[.int .u8 c] w fun e w' => e = .returned (.bool (sgnB c)) ∧ w = w' := by
  have HIX : Hid (∀ j : Nat, j < 15 → ∀ W : World, (Instr.index 9 (.string ⟨#[123, 125, 91, 93, 40, 41, 60, 62, 61, 59, 44, 46, 45, 58, 63]⟩) (.int .i64 (j : Int))).run Tryz.prog W = .ok (.int .u8 (bt sgnL j)) W) := hid (fun j hj W => bt_index (xs := sgnL) (by decide) j hj .i64 W)
  go_enter Tryz.func45, Tryz.ntmps45
  go_wp2
  go_loop [4] (fun vi => ∃ k : Nat, vi = .int .i64 k ∧ k ≤ 15 ∧ Hid (∀ j, j < k → bt sgnL j ≠ c)) (fun vi => 15 - (intOf vi).toNat)
  case atStart => exact ⟨0, rfl, by omega, hid (fun j hj => by omega)⟩
  case round =>
    obtain ⟨k, rfl, hk, HN⟩ := hrel
    by_cases hlt : k < 15
    · have hix := HIX.out k hlt
      by_cases hc : bt sgnL k = c
      · have HS : Hid (sgnB c = true) := hid (by
          rw [sgn_mem, decide_eq_true_eq, ← hc]
          have : k < sgnL.length := hlt
          unfold bt
          rw [List.getElem?_eq_getElem this]
          exact List.getElem_mem this)
        rw [hc] at hix
        clear hc HIX
        go_wp2
        go_ret
        exact ⟨ret_bool HS.out.symm, rfl⟩
      · have hb : (bt sgnL k == c) = false := by simpa using hc
        have HN2 : Hid (∀ j, j < k + 1 → bt sgnL j ≠ c) := hid (fun j hj => by
          by_cases h : j = k
          · subst h; exact hc
          · exact HN.out j (by omega))
        clear hc HIX
        generalize bt sgnL k = d at *
        go_wp2
        exact ⟨⟨k + 1, by go_num, by omega, HN2⟩, by simp [intOf]; omega⟩
    · have HS : Hid (sgnB c = false) := hid (by
        rw [sgn_mem, decide_eq_false_iff_not]
        intro hm
        obtain ⟨j, hj, e⟩ := List.mem_iff_getElem.1 hm
        have hj' : j < 15 := hj
        apply HN.out j (by omega)
        unfold bt
        rw [List.getElem?_eq_getElem hj]
        exact e)
      clear HIX
      go_wp2
      go_ret
      exact ⟨ret_bool HS.out.symm, rfl⟩
section
variable (xs : List Int) (i : Nat) (w : World)
/-- Blanks and comments. -/
def Spaced (xs : List Int) (i : Nat) (e : Ending) : Prop := ∃ (j : Nat) (ok : Bool), e = .returned (.tuple #[.int .i64 j, .bool ok]) ∧ i ≤ j ∧ j ≤ xs.length ∧
  ((ok = true ∧ (∀ acc, lxAt xs i acc = lxAt xs j acc) ∧ (j < xs.length → isBl (bt xs j) = false ∧ (bt xs j = 47 → bt xs (j + 1) ≠ 47 ∧ bt xs (j + 1) ≠ 42))) ∨ (ok = false ∧ j < xs.length ∧ ∀ acc, lxAt xs i acc = ⟨[], 11, j⟩))
theorem spaced_at {xs : List Int} {i j : Nat} (h1 : i ≤ j) (h2 : j ≤ xs.length) (h3 : ∀ acc, lxAt xs i acc = lxAt xs j acc) (h4 : j < xs.length → isBl (bt xs j) = false ∧ (bt xs j = 47 → bt xs (j + 1) ≠ 47 ∧ bt xs (j + 1) ≠ 42)) : Spaced xs i (.returned (.tuple #[.int .i64 j, .bool true])) := ⟨j, true, rfl, h1, h2, .inl ⟨rfl, h3, h4⟩⟩
theorem spaceR (hb : ∀ x ∈ xs, 0 ≤ x ∧ x ≤ 255) (hi : i ≤ xs.length) (hl : xs.length ≤ 65536) :
    Calls Tryz.prog 38 #[.string (strOfNums xs), .int .i64 i] w fun e w' => Spaced xs i e ∧ w = w' := by
  have HIX := hid (fun j (hj : j < xs.length) => bt_index hb j hj .i64)
  have hs : (strOfNums xs).size = xs.length := strOfNums_size xs
  clear hb
  obtain ⟨n, hn⟩ : ∃ n, xs.length = n := ⟨_, rfl⟩
  have HN := hid hn
  rw [hn] at hs hl hi HIX
  clear hn
  go_enter Tryz.func38, Tryz.ntmps38
  go_wp2
  go_loop [1] (fun vi => ∃ k : Nat, vi = .int .i64 k ∧ i ≤ k ∧ k ≤ n ∧ Hid (∀ acc, lxAt xs i acc = lxAt xs k acc)) (fun vi => n - (intOf vi).toNat)
  case atStart => exact ⟨i, rfl, Nat.le_refl _, hi, hid (fun _ => rfl)⟩
  case round =>
    obtain ⟨k, rfl, hik, hk, HX⟩ := hrel
    by_cases hlt : k < n
    · have hix := HIX.out k hlt
      have hkn : k < xs.length := by rw [HN.out]; exact hlt
      by_cases hbl : isBl (bt xs k) = true
      · have HX2 : Hid (∀ acc, lxAt xs i acc = lxAt xs (k + 1) acc) := hid (fun acc => by rw [HX.out acc]; exact lxAt_skip hkn (by unfold tok; rw [if_pos hbl]))
        have hbc : bt xs k = 32 ∨ bt xs k = 9 ∨ bt xs k = 13 ∨ bt xs k = 10 := by simpa [isBl] using hbl
        clear hbl
        rcases hbc with h | h | h | h
        all_goals
          rw [h] at hix
          clear h
          go_wp2
          exact ⟨⟨k + 1, by go_num, by omega, by omega, HX2⟩, by simp [intOf]; omega⟩
      · have hbf : isBl (bt xs k) = false := by simpa using hbl
        have HBL := hid hbf
        have hbc : ¬ (bt xs k = 32 ∨ bt xs k = 9 ∨ bt xs k = 13 ∨ bt xs k = 10) := by simpa [isBl] using hbl
        have e32 : (bt xs k == 32) = false := by simp; omega
        have e9 : (bt xs k == 9) = false := by simp; omega
        have e13 : (bt xs k == 13) = false := by simp; omega
        have e10 : (bt xs k == 10) = false := by simp; omega
        clear hbc
        by_cases h47 : bt xs k = 47
        · have HC : Hid (tok xs k = tokC xs k) := hid (by unfold tok; rw [if_neg hbl, if_pos h47])
          have H47 := hid h47
          rw [h47] at hix
          clear hbl hbf e32 e9 e13 e10 h47
          by_cases hke : k + 1 = n
          · have HSP : Hid (Spaced xs i (.returned (.tuple #[.int .i64 k, .bool true]))) := hid (spaced_at hik (by omega) HX.out (fun _ => ⟨HBL.out, fun _ => by rw [bt_end (by rw [HN.out]; omega)]; decide⟩))
            have hke2 : ((k : Int) + 1 == (n : Int)) = true := by simp; omega
            clear hke
            go_wp2
            go_ret2
            exact ⟨HSP.out, rfl⟩
          · have hke2 : ((k : Int) + 1 == (n : Int)) = false := by simp; omega
            have hk1 : k + 1 < n := by omega
            have hix1 := HIX.out (k + 1) hk1
            rw [show (((k + 1 : Nat)) : Int) = (k : Int) + 1 by omega] at hix1
            clear hke
            by_cases d47 : bt xs (k + 1) = 47
            · rw [d47] at hix1
              have HTK : Hid (tok xs k = .skip (sc notNl xs (k + 2))) := hid (by rw [HC.out]; unfold tokC; rw [if_pos d47, sc_step (by rw [HN.out]; exact hk1) (by rw [d47]; rfl)])
              clear d47
              go_wp2
              go_loop [7] (fun vk => ∃ m : Nat, vk = .int .i64 m ∧ k + 2 ≤ m ∧ m ≤ n ∧ Hid (sc notNl xs m = sc notNl xs (k + 2))) (fun vk => n - (intOf vk).toNat)
              case atStart => exact ⟨k + 2, by go_num, Nat.le_refl _, by omega, hid rfl⟩
              case round =>
                obtain ⟨m, rfl, hm1, hm2, HM⟩ := hrel
                by_cases hmlt : m < n
                · have hixm := HIX.out m hmlt
                  by_cases h10 : bt xs m = 10
                  · rw [h10] at hixm
                    have HX2 : Hid (∀ acc, lxAt xs i acc = lxAt xs m acc) := hid (fun acc => by rw [HX.out acc, lxAt_skip hkn HTK.out, ← HM.out, sc_stop (by rw [h10]; rfl)])
                    clear h10
                    go_wp2
                    exact ⟨⟨m, rfl, by omega, by omega, HX2⟩, by simp [intOf]; omega⟩
                  · have h10b : (bt xs m != 10) = true := by simpa using h10
                    have HM2 : Hid (sc notNl xs (m + 1) = sc notNl xs (k + 2)) := hid (by rw [← HM.out, ← sc_step (by rw [HN.out]; exact hmlt) (by simp [notNl, h10])])
                    clear h10
                    generalize bt xs m = c at *
                    go_wp2
                    exact ⟨⟨m + 1, by go_num, by omega, by omega, HM2⟩, by simp [intOf]; omega⟩
                · have HX2 : Hid (∀ acc, lxAt xs i acc = lxAt xs m acc) := hid (fun acc => by rw [HX.out acc, lxAt_skip hkn HTK.out, ← HM.out, sc_end (by rw [HN.out]; omega)])
                  go_wp2
                  exact ⟨⟨m, rfl, by omega, by omega, HX2⟩, by simp [intOf]; omega⟩
            · by_cases d42 : bt xs (k + 1) = 42
              · rw [d42] at hix1
                have HTK : Hid (tok xs k = match bk xs (k + 2) with | none => .bad 11 | some k => .skip k) := hid (by rw [HC.out]; unfold tokC; rw [if_neg d47, if_pos d42]; cases bk xs (k + 2) <;> rfl)
                clear d42 d47
                go_wp2
                go_loop [7] (fun vk => ∃ m : Nat, vk = .int .i64 m ∧ k + 2 ≤ m ∧ m ≤ n ∧ Hid (bk xs m = bk xs (k + 2))) (fun vk => n - (intOf vk).toNat)
                case atStart => exact ⟨k + 2, by go_num, Nat.le_refl _, by omega, hid rfl⟩
                case round =>
                  obtain ⟨m, rfl, hm1, hm2, HM⟩ := hrel
                  by_cases hmlt : m + 1 < n
                  · have hixm := HIX.out m (by omega)
                    have hixm1 := HIX.out (m + 1) hmlt
                    rw [show (((m + 1 : Nat)) : Int) = (m : Int) + 1 by omega] at hixm1
                    have hmi : (m : Int) + 1 < (n : Int) := by omega
                    by_cases hh : bt xs m = 42 ∧ bt xs (m + 1) = 47
                    · have HX2 : Hid (∀ acc, lxAt xs i acc = lxAt xs (m + 2) acc) := hid (fun acc => by rw [HX.out acc, lxAt_skip hkn (j := m + 2) (by rw [HTK.out, ← HM.out, bk_here hh.1 hh.2])])
                      rw [hh.1] at hixm
                      rw [hh.2] at hixm1
                      clear hh
                      go_wp2
                      exact ⟨⟨m + 2, by go_num, by omega, by omega, HX2⟩, by simp [intOf]; omega⟩
                    · have HM2 : Hid (bk xs (m + 1) = bk xs (k + 2)) := hid (by rw [← HM.out, ← bk_step (by rw [HN.out]; omega) hh])
                      by_cases h1 : bt xs m = 42
                      · have h2 : (bt xs (m + 1) != 47) = true := by simp; exact fun e => hh ⟨h1, e⟩
                        rw [h1] at hixm
                        clear hh h1
                        generalize bt xs (m + 1) = c at *
                        go_wp2
                        exact ⟨⟨m + 1, by go_num, by omega, by omega, HM2⟩, by simp [intOf]; omega⟩
                      · have h2 : (bt xs m != 42) = true := by simpa using h1
                        clear hh h1
                        generalize bt xs m = c at *
                        go_wp2
                        exact ⟨⟨m + 1, by go_num, by omega, by omega, HM2⟩, by simp [intOf]; omega⟩
                  · have hmi : ¬ (m : Int) + 1 < (n : Int) := by omega
                    have hmj : (n : Int) ≤ (m : Int) + 1 := by omega
                    have HSP : Hid (Spaced xs i (.returned (.tuple #[.int .i64 k, .bool false]))) := hid ⟨k, false, rfl, hik, by omega, .inr ⟨rfl, hkn, fun acc => by rw [HX.out acc]; exact lxAt_bad hkn (by rw [HTK.out, ← HM.out, bk_last (by rw [HN.out]; omega)])⟩⟩
                    go_wp2
                    go_ret2
                    exact ⟨HSP.out, rfl⟩
              · have HSP : Hid (Spaced xs i (.returned (.tuple #[.int .i64 k, .bool true]))) := hid (spaced_at hik (by omega) HX.out (fun _ => ⟨HBL.out, fun _ => ⟨d47, d42⟩⟩))
                have d1 : (bt xs (k + 1) != 47) = true := by simpa using d47
                have d2 : (bt xs (k + 1) != 42) = true := by simpa using d42
                clear d47 d42
                generalize bt xs (k + 1) = d at *
                go_wp2
                go_ret2
                exact ⟨HSP.out, rfl⟩
        · have e47 : (bt xs k != 47) = true := by simpa using h47
          have HSP : Hid (Spaced xs i (.returned (.tuple #[.int .i64 k, .bool true]))) := hid (spaced_at hik (by omega) HX.out (fun _ => ⟨HBL.out, fun e => absurd e h47⟩))
          clear hbl hbf h47
          generalize bt xs k = c at *
          go_wp2
          go_ret2
          exact ⟨HSP.out, rfl⟩
    · have HSP : Hid (Spaced xs i (.returned (.tuple #[.int .i64 k, .bool true]))) := hid (spaced_at hik (by rw [HN.out]; omega) HX.out (fun h => by rw [HN.out] at h; omega))
      go_wp2
      go_ret2
      exact ⟨HSP.out, rfl⟩
end
end Go.Proofs.YtidimdbnnnpplaaGreatDoor
namespace Go.Proofs.YtidimdbnnnpplaaGreatDoor
open Go.RowKit
set_option maxRecDepth 1000000
set_option linter.unusedSimpArgs false
set_option maxHeartbeats 16000000
set_option linter.unusedVariables false
section
variable (xs : List Int) (i : Nat) (w : World)
theorem toR (k : Nat) (hb : ∀ x ∈ xs, 0 ≤ x ∧ x ≤ 255) (hik : i ≤ k) (hk : k ≤ xs.length) (hl : xs.length ≤ 65536) :
    Calls Tryz.prog 39 #[.string (strOfNums xs), .agg #[.int .i64 i, .int .i64 (lnA xs i), .int .i64 (clA xs i)], .int .i64 k] w fun e w' => e = .returned (.agg #[.int .i64 k, .int .i64 (lnA xs k), .int .i64 (clA xs k)]) ∧ Below w.heap.size w w' := by
  have HIX := hid (fun j (hj : j < xs.length) => bt_index hb j hj .i64)
  clear hb
  go_enter Tryz.func39, Tryz.ntmps39
  go_wp2
  go_loopw [7] (fun vi wr => ∃ m : Nat, vi = .int .i64 m ∧ i ≤ m ∧ m ≤ k ∧ Hid (Blk wr w.heap.size 114 #[.int .i64 i, .int .i64 (lnA xs m), .int .i64 (clA xs m)]) ∧ Hid (Blk wr (w.heap.size + 1) 114 #[.int .i64 0, .int .i64 0, .int .i64 0]) ∧ Hid (Below w.heap.size w wr)) (fun vi _ => k - (intOf vi).toNat)
  case atStart =>
    refine ⟨i, rfl, Nat.le_refl _, hik, hid ((Blk.new w _ _).kept (below_alloc _)), hid ?_, hid (below_trans (below_alloc _) (below_alloc _))⟩
    have := Blk.new (w.alloc (.cells #[.int .i64 i, .int .i64 (lnA xs i), .int .i64 (clA xs i)] 114)) 114 #[.int .i64 0, .int .i64 0, .int .i64 0]
    rw [World.size_alloc] at this
    exact this
  case round =>
    obtain ⟨m, rfl, him, hmk, HB, HB2, HW⟩ := hrel
    have c0 : wr.cell? ⟨w.heap.size, 0, none⟩ = some (.int .i64 i) := HB.out.cell 0 _ rfl
    have c1 : wr.cell? ⟨w.heap.size, 1, none⟩ = some (.int .i64 (lnA xs m)) := HB.out.cell 1 _ rfl
    have c2 : wr.cell? ⟨w.heap.size, 2, none⟩ = some (.int .i64 (clA xs m)) := HB.out.cell 2 _ rfl
    have f0 := HB.out.frozen 0
    have f1 := HB.out.frozen 1
    have f2 := HB.out.frozen 2
    have hL := lnA_bd xs m
    have hC := clA_bd xs m
    by_cases hlt : m < k
    · have hix := HIX.out m (by omega)
      have hmi : (m : Int) < (k : Int) := by omega
      by_cases h10 : bt xs m = 10
      · have HL := hid (lnA_nl h10)
        have HC := hid (clA_nl h10)
        rw [h10] at hix
        clear h10
        generalize lnA xs m = L at *
        generalize clA xs m = C at *
        go_wp2
        exact ⟨⟨m + 1, by go_num, by omega, by omega, hid (Blk.is ((HB.out.set 1 _).set 2 _) (by rw [HL.out, HC.out]; simp)), hid ((HB2.out.other (by simp) _).other (by simp) _), hid ((HW.out.setCell (by simp) _).setCell (by simp) _)⟩, by simp [intOf]; omega⟩
      · have HL := hid (lnA_on h10)
        have HC := hid (clA_on h10)
        have e10 : (bt xs m == 10) = false := by simpa using h10
        clear h10
        generalize lnA xs m = L at *
        generalize clA xs m = C at *
        generalize bt xs m = c at *
        go_wp2
        exact ⟨⟨m + 1, by go_num, by omega, by omega, hid (Blk.is (HB.out.set 2 _) (by rw [HL.out, HC.out]; simp)), hid (HB2.out.other (by simp) _), hid (HW.out.setCell (by simp) _)⟩, by simp [intOf]; omega⟩
    · obtain rfl : m = k := by omega
      have d0 : wr.cell? ⟨w.heap.size + 1, 0, none⟩ = some (.int .i64 0) := HB2.out.cell 0 _ rfl
      have d1 : wr.cell? ⟨w.heap.size + 1, 1, none⟩ = some (.int .i64 0) := HB2.out.cell 1 _ rfl
      have d2 : wr.cell? ⟨w.heap.size + 1, 2, none⟩ = some (.int .i64 0) := HB2.out.cell 2 _ rfl
      have g0 := HB2.out.frozen 0
      have g1 := HB2.out.frozen 1
      have g2 := HB2.out.frozen 2
      go_wp2
      exact bodyPost_ret (v := .agg #[.int .i64 m, .int .i64 (lnA xs m), .int .i64 (clA xs m)]) (by simp [results, Tryz.results39, go_sem, d0, d1, d2, c1, c2]) rfl ⟨rfl, (((HW.out.setCell (by simp) _).setCell (by simp) _).setCell (by simp) _).setCell (by simp) _⟩
/-- Where a quoted text ends. -/
def endQ : Option Nat → Ending
  | some k => .returned (.tuple #[.int .i64 k, .bool true])
  | none => .returned (.tuple #[.int .i64 0, .bool false])
theorem quotedR (hb : ∀ x ∈ xs, 0 ≤ x ∧ x ≤ 255) (hi : i < xs.length) (hl : xs.length ≤ 65536) :
    Calls Tryz.prog 43 #[.string (strOfNums xs), .int .i64 i] w fun e w' => e = endQ (qe xs (i + 1)) ∧ w = w' := by
  have HIX := hid (fun j (hj : j < xs.length) => bt_index hb j hj .i64)
  have hs : (strOfNums xs).size = xs.length := strOfNums_size xs
  clear hb
  obtain ⟨n, hn⟩ : ∃ n, xs.length = n := ⟨_, rfl⟩
  have HN := hid hn
  rw [hn] at hs hl hi HIX
  clear hn
  go_enter Tryz.func43, Tryz.ntmps43
  go_wp2
  go_loop [6] (fun vi => ∃ k : Nat, vi = .int .i64 k ∧ k ≤ n + 1 ∧ Hid (qe xs k = qe xs (i + 1))) (fun vi => n + 2 - (intOf vi).toNat)
  case atStart => exact ⟨i + 1, by go_num, by omega, hid rfl⟩
  case round =>
    obtain ⟨k, rfl, hk, HQ⟩ := hrel
    by_cases hlt : k < n
    · have hix := HIX.out k hlt
      have hkn : k < xs.length := by rw [HN.out]; exact hlt
      by_cases h92 : bt xs k = 92
      · have HQ2 : Hid (qe xs (k + 2) = qe xs (i + 1)) := hid (by rw [← HQ.out, qe_back hkn h92])
        rw [h92] at hix
        clear h92
        go_wp2
        exact ⟨⟨k + 2, by go_num, by omega, HQ2⟩, by simp [intOf]; omega⟩
      · by_cases h34 : bt xs k = 34
        · have HQ2 : Hid (qe xs (i + 1) = some (k + 1)) := hid (by rw [← HQ.out, qe_mark hkn h34])
          rw [h34] at hix
          clear h92 h34
          go_wp2
          go_ret2
          rw [HQ2.out]
          exact ⟨rfl, rfl⟩
        · have HQ2 : Hid (qe xs (k + 1) = qe xs (i + 1)) := hid (by rw [← HQ.out, qe_step hkn h92 h34])
          have e1 : (bt xs k == 92) = false := by simpa using h92
          have e2 : (bt xs k == 34) = false := by simpa using h34
          clear h92 h34
          generalize bt xs k = c at *
          go_wp2
          exact ⟨⟨k + 1, by go_num, by omega, HQ2⟩, by simp [intOf]; omega⟩
    · have HQ2 : Hid (qe xs (i + 1) = none) := hid (by rw [← HQ.out, qe_end (by rw [HN.out]; omega)])
      go_wp2
      go_ret2
      rw [HQ2.out]
      exact ⟨rfl, rfl⟩
end
end Go.Proofs.YtidimdbnnnpplaaGreatDoor
namespace Go.Proofs.YtidimdbnnnpplaaGreatDoor
open Go.RowKit
set_option maxRecDepth 1000000
set_option maxHeartbeats 16000000
set_option linter.unusedVariables false
section
variable (xs : List Int) (i : Nat) (w : World)
/-- What number tells of a token. -/
def numO : Tk → Ending
  | .word _ k n _ => .returned (.tuple #[.int .i64 k, .int .u64 n, .int .i64 0])
  | .bad c => .returned (.tuple #[.int .i64 0, .int .u64 0, .int .i64 c])
  | .skip _ => .returned (.tuple #[])
theorem numTenR (hb : ∀ x ∈ xs, 0 ≤ x ∧ x ≤ 255) (hi : i < xs.length) (hl : xs.length ≤ 65536) (hx0 : hxA xs i = false) :
    Calls Tryz.prog 42 #[.string (strOfNums xs), .int .i64 i] w fun e w' => e = numO (tokN xs i) ∧ w = w' := by
  have HIX := hid (fun j (hj : j < xs.length) => bt_index hb j hj .i64)
  have hs : (strOfNums xs).size = xs.length := strOfNums_size xs
  have HHX := hid (fun j W => hexR (bt xs j) W (bt_bd hb j).1 (bt_bd hb j).2)
  have HLE := hid (fun j W => letterR (bt xs j) W)
  have HDI := hid (fun j W => ldigitR (bt xs j) W)
  have HBD := hid (fun j => bt_bd hb j)
  have hi0 := HIX.out i hi
  have hfs : nfr xs i = i := by unfold nfr; rw [hx0]; rfl
  have HT : Hid (tokN xs i = if sc digB xs i = i ∨ namB (bt xs (sc digB xs i)) = true then .bad 11 else if 18446744073709551616 ≤ vl 10 xs i (sc digB xs i) then .bad 7 else .word 2 (sc digB xs i) (vl 10 xs i (sc digB xs i)) []) := hid (by
    unfold tokN nen ndg nbs
    rw [hfs, hx0]
    rfl)
  have HLN : Hid (xs.length = xs.length) := hid rfl
  have hfl : i ≤ xs.length := by omega
  have hxx : ¬ (bt xs i = 48 ∧ bt xs (i + 1) = 120) := by simpa [hxA] using hx0
  clear hb hfs hx0
  by_cases h48 : bt xs i = 48
  · rw [h48] at hi0
    by_cases hi1 : i + 1 < xs.length
    · have hi0' := HIX.out (i + 1) hi1
      rw [show (((i + 1 : Nat)) : Int) = (i : Int) + 1 by omega] at hi0'
      have hii : (i : Int) + 1 < (xs.length : Int) := by omega
      have hx1 : (bt xs (i + 1) == 120) = false := by simp; exact fun e => hxx ⟨h48, e⟩
      clear hxx h48
      go_enter Tryz.func42, Tryz.ntmps42
      go_wp2
      go_loop [7, 11, 12] (fun vk vn vo => ∃ (k : Nat) (a : Int) (ov : Bool), vk = .int .i64 k ∧ vn = .int .u64 a ∧ vo = .bool ov ∧ i ≤ k ∧ k ≤ xs.length ∧ Hid (sc digB xs k = sc digB xs i) ∧ Hid (0 ≤ vl 10 xs i k) ∧ ((ov = false ∧ 0 ≤ a ∧ a ≤ 18446744073709551615 ∧ Hid (a = vl 10 xs i k)) ∨ (ov = true ∧ Hid (18446744073709551616 ≤ vl 10 xs i k)))) (fun vk _ _ => xs.length - (intOf vk).toNat)
      case atStart => exact ⟨i, 0, false, by first | rfl | go_num, rfl, rfl, Nat.le_refl _, hfl, hid rfl, hid (by rw [vl_self]; omega), .inl ⟨rfl, by omega, by omega, hid (by rw [vl_self])⟩⟩
      case round =>
        obtain ⟨k, a, ov, rfl, rfl, rfl, hfk, hk, HS, HV0, hor⟩ := hrel
        by_cases hlt : k < xs.length
        · have hix := HIX.out k hlt
          cases hdg : digB (bt xs k) with
          | true =>
            have HS2 : Hid (sc digB xs (k + 1) = sc digB xs i) := hid (by rw [← HS.out, ← sc_step hlt hdg])
            have hd := digB_hx hdg
            have HVS : Hid (vl 10 xs i (k + 1) = vl 10 xs i k * 10 + hx (bt xs k)) := hid (vl_snoc hlt hfk)
            have HV2 : Hid (0 ≤ vl 10 xs i (k + 1)) := hid (by have := HV0.out; have := HVS.out; omega)
            have hc := HHX.out k
            clear hdg
            generalize hx (bt xs k) = d at *
            obtain ⟨hd0, hd1⟩ := hd
            by_cases hgt : (18446744073709551615 - d) / 10 < a
            · have HOV : Hid (18446744073709551616 ≤ vl 10 xs i (k + 1)) := hid (by
                have h1 := HVS.out
                rcases hor with ⟨_, _, _, h2⟩ | ⟨_, h2⟩
                · have := h2.out; omega
                · have := h2.out; omega)
              clear hor
              generalize bt xs k = c at *
              go_wp2_with (go_at_call 80; refine (hc _).mono ?_; rintro e w1 ⟨rfl, rfl⟩)
              all_goals exact ⟨⟨k + 1, _, true, by go_num, rfl, rfl, by omega, by omega, HS2, HV2, .inr ⟨rfl, HOV⟩⟩, by simp [intOf]; omega⟩
            · have HOV : Hid (vl 10 xs i (k + 1) = vl 10 xs i k * 10 + d) := HVS
              rcases hor with ⟨rfl, ha0, ha1, HA⟩ | ⟨rfl, HA⟩
              · have hlim : a * 10 + d ≤ 18446744073709551615 := by omega
                have HA2 : Hid (a * 10 + d = vl 10 xs i (k + 1)) := hid (by rw [HOV.out, ← HA.out])
                have hm0 : 0 ≤ a * 10 := by omega
                generalize bt xs k = c at *
                go_wp2_with (go_at_call 80; refine (hc _).mono ?_; rintro e w1 ⟨rfl, rfl⟩)
                all_goals exact ⟨⟨k + 1, _, false, by go_num, rfl, rfl, by omega, by omega, HS2, HV2, .inl ⟨rfl, by omega, by omega, HA2⟩⟩, by simp [intOf]; omega⟩
              · have HA2 : Hid (18446744073709551616 ≤ vl 10 xs i (k + 1)) := hid (by have := HOV.out; have := HA.out; omega)
                generalize bt xs k = c at *
                go_wp2_with (go_at_call 80; refine (hc _).mono ?_; rintro e w1 ⟨rfl, rfl⟩)
                all_goals exact ⟨⟨k + 1, _, true, by go_num, rfl, rfl, by omega, by omega, HS2, HV2, .inr ⟨rfl, HA2⟩⟩, by simp [intOf]; omega⟩
          | false =>
            have HSE : Hid (sc digB xs i = k) := hid (by rw [← HS.out, sc_stop hdg])
            have hc := HHX.out k
            have hd : hx (bt xs k) < 0 ∨ 9 < hx (bt xs k) := by
              unfold hx; simp [digB] at hdg; (repeat' split) <;> omega
            rcases hd with hd | hd
            all_goals
              clear hdg
              by_cases hkf : k = i
              · have HTB : Hid (tokN xs i = .bad 11) := hid (by rw [HT.out, HSE.out, if_pos (.inl hkf)])
                have hkf2 : ((k : Int) == (i : Int)) = true := by simp; omega
                clear hkf
                go_wp2_with (first | (go_at_call 80; refine (hc _).mono ?_; rintro e w1 ⟨rfl, rfl⟩) | (go_at_call 40; refine (HLE.out k _).mono ?_; rintro e w1 ⟨rfl, rfl⟩) | (go_at_call 41; refine (HDI.out k _).mono ?_; rintro e w1 ⟨rfl, rfl⟩))
                go_ret3
                exact ⟨by rw [HTB.out]; rfl, rfl⟩
              · have hkf2 : ((k : Int) == (i : Int)) = false := by simp; omega
                cases hlt2 : letB (bt xs k) with
                | true =>
                  have HTB : Hid (tokN xs i = .bad 11) := hid (by rw [HT.out, HSE.out, if_pos (.inr (by simp [namB, hlt2]))])
                  clear hkf
                  go_wp2_with (first | (go_at_call 80; refine (hc _).mono ?_; rintro e w1 ⟨rfl, rfl⟩) | (go_at_call 40; refine (HLE.out k _).mono ?_; rintro e w1 ⟨rfl, rfl⟩) | (go_at_call 41; refine (HDI.out k _).mono ?_; rintro e w1 ⟨rfl, rfl⟩))
                  go_ret3
                  exact ⟨by rw [HTB.out]; rfl, rfl⟩
                | false =>
                cases hdg2 : digB (bt xs k) with
                | true =>
                  have HTB : Hid (tokN xs i = .bad 11) := hid (by rw [HT.out, HSE.out, if_pos (.inr (by simp [namB, hdg2]))])
                  clear hkf
                  go_wp2_with (first | (go_at_call 80; refine (hc _).mono ?_; rintro e w1 ⟨rfl, rfl⟩) | (go_at_call 40; refine (HLE.out k _).mono ?_; rintro e w1 ⟨rfl, rfl⟩) | (go_at_call 41; refine (HDI.out k _).mono ?_; rintro e w1 ⟨rfl, rfl⟩))
                  go_ret3
                  exact ⟨by rw [HTB.out]; rfl, rfl⟩
                | false =>
                have hnm : namB (bt xs k) = false := by simp [namB, hlt2, hdg2]
                have HT2 : Hid (tokN xs i = if 18446744073709551616 ≤ vl 10 xs i k then .bad 7 else .word 2 k (vl 10 xs i k) []) := hid (by rw [HT.out, HSE.out, if_neg (by simp [hkf, hnm])])
                clear hnm hkf
                rcases hor with ⟨rfl, ha0, ha1, HA⟩ | ⟨rfl, HA⟩
                · have HT3 : Hid (tokN xs i = .word 2 k a []) := hid (by rw [HT2.out, ← HA.out, if_neg (by omega)])
                  go_wp2_with (first | (go_at_call 80; refine (hc _).mono ?_; rintro e w1 ⟨rfl, rfl⟩) | (go_at_call 40; refine (HLE.out k _).mono ?_; rintro e w1 ⟨rfl, rfl⟩) | (go_at_call 41; refine (HDI.out k _).mono ?_; rintro e w1 ⟨rfl, rfl⟩))
                  go_ret3
                  exact ⟨by rw [HT3.out]; rfl, rfl⟩
                · have HT3 : Hid (tokN xs i = .bad 7) := hid (by rw [HT2.out, if_pos HA.out])
                  go_wp2_with (first | (go_at_call 80; refine (hc _).mono ?_; rintro e w1 ⟨rfl, rfl⟩) | (go_at_call 40; refine (HLE.out k _).mono ?_; rintro e w1 ⟨rfl, rfl⟩) | (go_at_call 41; refine (HDI.out k _).mono ?_; rintro e w1 ⟨rfl, rfl⟩))
                  go_ret3
                  exact ⟨by rw [HT3.out]; rfl, rfl⟩
        · have HSE : Hid (sc digB xs i = k) := hid (by rw [← HS.out, sc_end (by omega)])
          have hki : ¬ (k : Int) < (xs.length : Int) := by omega
          by_cases hkf : k = i
          · exfalso
            omega
          · have hkf2 : ((k : Int) == (i : Int)) = false := by simp; omega
            have hnm : namB (bt xs k) = false := by rw [bt_end (by omega)]; rfl
            have HT2 : Hid (tokN xs i = if 18446744073709551616 ≤ vl 10 xs i k then .bad 7 else .word 2 k (vl 10 xs i k) []) := hid (by rw [HT.out, HSE.out, if_neg (by simp [hkf, hnm])])
            clear hnm hkf
            rcases hor with ⟨rfl, ha0, ha1, HA⟩ | ⟨rfl, HA⟩
            · have HT3 : Hid (tokN xs i = .word 2 k a []) := hid (by rw [HT2.out, ← HA.out, if_neg (by omega)])
              go_wp2_with fail
              go_ret3
              exact ⟨by rw [HT3.out]; rfl, rfl⟩
            · have HT3 : Hid (tokN xs i = .bad 7) := hid (by rw [HT2.out, if_pos HA.out])
              go_wp2_with fail
              go_ret3
              exact ⟨by rw [HT3.out]; rfl, rfl⟩
    · have hii : ¬ (i : Int) + 1 < (xs.length : Int) := by omega
      clear hxx h48
      go_enter Tryz.func42, Tryz.ntmps42
      go_wp2
      go_loop [7, 11, 12] (fun vk vn vo => ∃ (k : Nat) (a : Int) (ov : Bool), vk = .int .i64 k ∧ vn = .int .u64 a ∧ vo = .bool ov ∧ i ≤ k ∧ k ≤ xs.length ∧ Hid (sc digB xs k = sc digB xs i) ∧ Hid (0 ≤ vl 10 xs i k) ∧ ((ov = false ∧ 0 ≤ a ∧ a ≤ 18446744073709551615 ∧ Hid (a = vl 10 xs i k)) ∨ (ov = true ∧ Hid (18446744073709551616 ≤ vl 10 xs i k)))) (fun vk _ _ => xs.length - (intOf vk).toNat)
      case atStart => exact ⟨i, 0, false, by first | rfl | go_num, rfl, rfl, Nat.le_refl _, hfl, hid rfl, hid (by rw [vl_self]; omega), .inl ⟨rfl, by omega, by omega, hid (by rw [vl_self])⟩⟩
      case round =>
        obtain ⟨k, a, ov, rfl, rfl, rfl, hfk, hk, HS, HV0, hor⟩ := hrel
        by_cases hlt : k < xs.length
        · have hix := HIX.out k hlt
          cases hdg : digB (bt xs k) with
          | true =>
            have HS2 : Hid (sc digB xs (k + 1) = sc digB xs i) := hid (by rw [← HS.out, ← sc_step hlt hdg])
            have hd := digB_hx hdg
            have HVS : Hid (vl 10 xs i (k + 1) = vl 10 xs i k * 10 + hx (bt xs k)) := hid (vl_snoc hlt hfk)
            have HV2 : Hid (0 ≤ vl 10 xs i (k + 1)) := hid (by have := HV0.out; have := HVS.out; omega)
            have hc := HHX.out k
            clear hdg
            generalize hx (bt xs k) = d at *
            obtain ⟨hd0, hd1⟩ := hd
            by_cases hgt : (18446744073709551615 - d) / 10 < a
            · have HOV : Hid (18446744073709551616 ≤ vl 10 xs i (k + 1)) := hid (by
                have h1 := HVS.out
                rcases hor with ⟨_, _, _, h2⟩ | ⟨_, h2⟩
                · have := h2.out; omega
                · have := h2.out; omega)
              clear hor
              generalize bt xs k = c at *
              go_wp2_with (go_at_call 80; refine (hc _).mono ?_; rintro e w1 ⟨rfl, rfl⟩)
              all_goals exact ⟨⟨k + 1, _, true, by go_num, rfl, rfl, by omega, by omega, HS2, HV2, .inr ⟨rfl, HOV⟩⟩, by simp [intOf]; omega⟩
            · have HOV : Hid (vl 10 xs i (k + 1) = vl 10 xs i k * 10 + d) := HVS
              rcases hor with ⟨rfl, ha0, ha1, HA⟩ | ⟨rfl, HA⟩
              · have hlim : a * 10 + d ≤ 18446744073709551615 := by omega
                have HA2 : Hid (a * 10 + d = vl 10 xs i (k + 1)) := hid (by rw [HOV.out, ← HA.out])
                have hm0 : 0 ≤ a * 10 := by omega
                generalize bt xs k = c at *
                go_wp2_with (go_at_call 80; refine (hc _).mono ?_; rintro e w1 ⟨rfl, rfl⟩)
                all_goals exact ⟨⟨k + 1, _, false, by go_num, rfl, rfl, by omega, by omega, HS2, HV2, .inl ⟨rfl, by omega, by omega, HA2⟩⟩, by simp [intOf]; omega⟩
              · have HA2 : Hid (18446744073709551616 ≤ vl 10 xs i (k + 1)) := hid (by have := HOV.out; have := HA.out; omega)
                generalize bt xs k = c at *
                go_wp2_with (go_at_call 80; refine (hc _).mono ?_; rintro e w1 ⟨rfl, rfl⟩)
                all_goals exact ⟨⟨k + 1, _, true, by go_num, rfl, rfl, by omega, by omega, HS2, HV2, .inr ⟨rfl, HA2⟩⟩, by simp [intOf]; omega⟩
          | false =>
            have HSE : Hid (sc digB xs i = k) := hid (by rw [← HS.out, sc_stop hdg])
            have hc := HHX.out k
            have hd : hx (bt xs k) < 0 ∨ 9 < hx (bt xs k) := by
              unfold hx; simp [digB] at hdg; (repeat' split) <;> omega
            rcases hd with hd | hd
            all_goals
              clear hdg
              by_cases hkf : k = i
              · have HTB : Hid (tokN xs i = .bad 11) := hid (by rw [HT.out, HSE.out, if_pos (.inl hkf)])
                have hkf2 : ((k : Int) == (i : Int)) = true := by simp; omega
                clear hkf
                go_wp2_with (first | (go_at_call 80; refine (hc _).mono ?_; rintro e w1 ⟨rfl, rfl⟩) | (go_at_call 40; refine (HLE.out k _).mono ?_; rintro e w1 ⟨rfl, rfl⟩) | (go_at_call 41; refine (HDI.out k _).mono ?_; rintro e w1 ⟨rfl, rfl⟩))
                go_ret3
                exact ⟨by rw [HTB.out]; rfl, rfl⟩
              · have hkf2 : ((k : Int) == (i : Int)) = false := by simp; omega
                cases hlt2 : letB (bt xs k) with
                | true =>
                  have HTB : Hid (tokN xs i = .bad 11) := hid (by rw [HT.out, HSE.out, if_pos (.inr (by simp [namB, hlt2]))])
                  clear hkf
                  go_wp2_with (first | (go_at_call 80; refine (hc _).mono ?_; rintro e w1 ⟨rfl, rfl⟩) | (go_at_call 40; refine (HLE.out k _).mono ?_; rintro e w1 ⟨rfl, rfl⟩) | (go_at_call 41; refine (HDI.out k _).mono ?_; rintro e w1 ⟨rfl, rfl⟩))
                  go_ret3
                  exact ⟨by rw [HTB.out]; rfl, rfl⟩
                | false =>
                cases hdg2 : digB (bt xs k) with
                | true =>
                  have HTB : Hid (tokN xs i = .bad 11) := hid (by rw [HT.out, HSE.out, if_pos (.inr (by simp [namB, hdg2]))])
                  clear hkf
                  go_wp2_with (first | (go_at_call 80; refine (hc _).mono ?_; rintro e w1 ⟨rfl, rfl⟩) | (go_at_call 40; refine (HLE.out k _).mono ?_; rintro e w1 ⟨rfl, rfl⟩) | (go_at_call 41; refine (HDI.out k _).mono ?_; rintro e w1 ⟨rfl, rfl⟩))
                  go_ret3
                  exact ⟨by rw [HTB.out]; rfl, rfl⟩
                | false =>
                have hnm : namB (bt xs k) = false := by simp [namB, hlt2, hdg2]
                have HT2 : Hid (tokN xs i = if 18446744073709551616 ≤ vl 10 xs i k then .bad 7 else .word 2 k (vl 10 xs i k) []) := hid (by rw [HT.out, HSE.out, if_neg (by simp [hkf, hnm])])
                clear hnm hkf
                rcases hor with ⟨rfl, ha0, ha1, HA⟩ | ⟨rfl, HA⟩
                · have HT3 : Hid (tokN xs i = .word 2 k a []) := hid (by rw [HT2.out, ← HA.out, if_neg (by omega)])
                  go_wp2_with (first | (go_at_call 80; refine (hc _).mono ?_; rintro e w1 ⟨rfl, rfl⟩) | (go_at_call 40; refine (HLE.out k _).mono ?_; rintro e w1 ⟨rfl, rfl⟩) | (go_at_call 41; refine (HDI.out k _).mono ?_; rintro e w1 ⟨rfl, rfl⟩))
                  go_ret3
                  exact ⟨by rw [HT3.out]; rfl, rfl⟩
                · have HT3 : Hid (tokN xs i = .bad 7) := hid (by rw [HT2.out, if_pos HA.out])
                  go_wp2_with (first | (go_at_call 80; refine (hc _).mono ?_; rintro e w1 ⟨rfl, rfl⟩) | (go_at_call 40; refine (HLE.out k _).mono ?_; rintro e w1 ⟨rfl, rfl⟩) | (go_at_call 41; refine (HDI.out k _).mono ?_; rintro e w1 ⟨rfl, rfl⟩))
                  go_ret3
                  exact ⟨by rw [HT3.out]; rfl, rfl⟩
        · have HSE : Hid (sc digB xs i = k) := hid (by rw [← HS.out, sc_end (by omega)])
          have hki : ¬ (k : Int) < (xs.length : Int) := by omega
          by_cases hkf : k = i
          · exfalso
            omega
          · have hkf2 : ((k : Int) == (i : Int)) = false := by simp; omega
            have hnm : namB (bt xs k) = false := by rw [bt_end (by omega)]; rfl
            have HT2 : Hid (tokN xs i = if 18446744073709551616 ≤ vl 10 xs i k then .bad 7 else .word 2 k (vl 10 xs i k) []) := hid (by rw [HT.out, HSE.out, if_neg (by simp [hkf, hnm])])
            clear hnm hkf
            rcases hor with ⟨rfl, ha0, ha1, HA⟩ | ⟨rfl, HA⟩
            · have HT3 : Hid (tokN xs i = .word 2 k a []) := hid (by rw [HT2.out, ← HA.out, if_neg (by omega)])
              go_wp2_with fail
              go_ret3
              exact ⟨by rw [HT3.out]; rfl, rfl⟩
            · have HT3 : Hid (tokN xs i = .bad 7) := hid (by rw [HT2.out, if_pos HA.out])
              go_wp2_with fail
              go_ret3
              exact ⟨by rw [HT3.out]; rfl, rfl⟩
  · have hx1 : (bt xs i == 48) = false := by simpa using h48
    clear hxx h48
    go_enter Tryz.func42, Tryz.ntmps42
    go_wp2
    go_loop [7, 11, 12] (fun vk vn vo => ∃ (k : Nat) (a : Int) (ov : Bool), vk = .int .i64 k ∧ vn = .int .u64 a ∧ vo = .bool ov ∧ i ≤ k ∧ k ≤ xs.length ∧ Hid (sc digB xs k = sc digB xs i) ∧ Hid (0 ≤ vl 10 xs i k) ∧ ((ov = false ∧ 0 ≤ a ∧ a ≤ 18446744073709551615 ∧ Hid (a = vl 10 xs i k)) ∨ (ov = true ∧ Hid (18446744073709551616 ≤ vl 10 xs i k)))) (fun vk _ _ => xs.length - (intOf vk).toNat)
    case atStart => exact ⟨i, 0, false, by first | rfl | go_num, rfl, rfl, Nat.le_refl _, hfl, hid rfl, hid (by rw [vl_self]; omega), .inl ⟨rfl, by omega, by omega, hid (by rw [vl_self])⟩⟩
    case round =>
      obtain ⟨k, a, ov, rfl, rfl, rfl, hfk, hk, HS, HV0, hor⟩ := hrel
      by_cases hlt : k < xs.length
      · have hix := HIX.out k hlt
        cases hdg : digB (bt xs k) with
        | true =>
          have HS2 : Hid (sc digB xs (k + 1) = sc digB xs i) := hid (by rw [← HS.out, ← sc_step hlt hdg])
          have hd := digB_hx hdg
          have HVS : Hid (vl 10 xs i (k + 1) = vl 10 xs i k * 10 + hx (bt xs k)) := hid (vl_snoc hlt hfk)
          have HV2 : Hid (0 ≤ vl 10 xs i (k + 1)) := hid (by have := HV0.out; have := HVS.out; omega)
          have hc := HHX.out k
          clear hdg
          generalize hx (bt xs k) = d at *
          obtain ⟨hd0, hd1⟩ := hd
          by_cases hgt : (18446744073709551615 - d) / 10 < a
          · have HOV : Hid (18446744073709551616 ≤ vl 10 xs i (k + 1)) := hid (by
              have h1 := HVS.out
              rcases hor with ⟨_, _, _, h2⟩ | ⟨_, h2⟩
              · have := h2.out; omega
              · have := h2.out; omega)
            clear hor
            generalize bt xs k = c at *
            go_wp2_with (go_at_call 80; refine (hc _).mono ?_; rintro e w1 ⟨rfl, rfl⟩)
            all_goals exact ⟨⟨k + 1, _, true, by go_num, rfl, rfl, by omega, by omega, HS2, HV2, .inr ⟨rfl, HOV⟩⟩, by simp [intOf]; omega⟩
          · have HOV : Hid (vl 10 xs i (k + 1) = vl 10 xs i k * 10 + d) := HVS
            rcases hor with ⟨rfl, ha0, ha1, HA⟩ | ⟨rfl, HA⟩
            · have hlim : a * 10 + d ≤ 18446744073709551615 := by omega
              have HA2 : Hid (a * 10 + d = vl 10 xs i (k + 1)) := hid (by rw [HOV.out, ← HA.out])
              have hm0 : 0 ≤ a * 10 := by omega
              generalize bt xs k = c at *
              go_wp2_with (go_at_call 80; refine (hc _).mono ?_; rintro e w1 ⟨rfl, rfl⟩)
              all_goals exact ⟨⟨k + 1, _, false, by go_num, rfl, rfl, by omega, by omega, HS2, HV2, .inl ⟨rfl, by omega, by omega, HA2⟩⟩, by simp [intOf]; omega⟩
            · have HA2 : Hid (18446744073709551616 ≤ vl 10 xs i (k + 1)) := hid (by have := HOV.out; have := HA.out; omega)
              generalize bt xs k = c at *
              go_wp2_with (go_at_call 80; refine (hc _).mono ?_; rintro e w1 ⟨rfl, rfl⟩)
              all_goals exact ⟨⟨k + 1, _, true, by go_num, rfl, rfl, by omega, by omega, HS2, HV2, .inr ⟨rfl, HA2⟩⟩, by simp [intOf]; omega⟩
        | false =>
          have HSE : Hid (sc digB xs i = k) := hid (by rw [← HS.out, sc_stop hdg])
          have hc := HHX.out k
          have hd : hx (bt xs k) < 0 ∨ 9 < hx (bt xs k) := by
            unfold hx; simp [digB] at hdg; (repeat' split) <;> omega
          rcases hd with hd | hd
          all_goals
            clear hdg
            by_cases hkf : k = i
            · have HTB : Hid (tokN xs i = .bad 11) := hid (by rw [HT.out, HSE.out, if_pos (.inl hkf)])
              have hkf2 : ((k : Int) == (i : Int)) = true := by simp; omega
              clear hkf
              go_wp2_with (first | (go_at_call 80; refine (hc _).mono ?_; rintro e w1 ⟨rfl, rfl⟩) | (go_at_call 40; refine (HLE.out k _).mono ?_; rintro e w1 ⟨rfl, rfl⟩) | (go_at_call 41; refine (HDI.out k _).mono ?_; rintro e w1 ⟨rfl, rfl⟩))
              go_ret3
              exact ⟨by rw [HTB.out]; rfl, rfl⟩
            · have hkf2 : ((k : Int) == (i : Int)) = false := by simp; omega
              cases hlt2 : letB (bt xs k) with
              | true =>
                have HTB : Hid (tokN xs i = .bad 11) := hid (by rw [HT.out, HSE.out, if_pos (.inr (by simp [namB, hlt2]))])
                clear hkf
                go_wp2_with (first | (go_at_call 80; refine (hc _).mono ?_; rintro e w1 ⟨rfl, rfl⟩) | (go_at_call 40; refine (HLE.out k _).mono ?_; rintro e w1 ⟨rfl, rfl⟩) | (go_at_call 41; refine (HDI.out k _).mono ?_; rintro e w1 ⟨rfl, rfl⟩))
                go_ret3
                exact ⟨by rw [HTB.out]; rfl, rfl⟩
              | false =>
              cases hdg2 : digB (bt xs k) with
              | true =>
                have HTB : Hid (tokN xs i = .bad 11) := hid (by rw [HT.out, HSE.out, if_pos (.inr (by simp [namB, hdg2]))])
                clear hkf
                go_wp2_with (first | (go_at_call 80; refine (hc _).mono ?_; rintro e w1 ⟨rfl, rfl⟩) | (go_at_call 40; refine (HLE.out k _).mono ?_; rintro e w1 ⟨rfl, rfl⟩) | (go_at_call 41; refine (HDI.out k _).mono ?_; rintro e w1 ⟨rfl, rfl⟩))
                go_ret3
                exact ⟨by rw [HTB.out]; rfl, rfl⟩
              | false =>
              have hnm : namB (bt xs k) = false := by simp [namB, hlt2, hdg2]
              have HT2 : Hid (tokN xs i = if 18446744073709551616 ≤ vl 10 xs i k then .bad 7 else .word 2 k (vl 10 xs i k) []) := hid (by rw [HT.out, HSE.out, if_neg (by simp [hkf, hnm])])
              clear hnm hkf
              rcases hor with ⟨rfl, ha0, ha1, HA⟩ | ⟨rfl, HA⟩
              · have HT3 : Hid (tokN xs i = .word 2 k a []) := hid (by rw [HT2.out, ← HA.out, if_neg (by omega)])
                go_wp2_with (first | (go_at_call 80; refine (hc _).mono ?_; rintro e w1 ⟨rfl, rfl⟩) | (go_at_call 40; refine (HLE.out k _).mono ?_; rintro e w1 ⟨rfl, rfl⟩) | (go_at_call 41; refine (HDI.out k _).mono ?_; rintro e w1 ⟨rfl, rfl⟩))
                go_ret3
                exact ⟨by rw [HT3.out]; rfl, rfl⟩
              · have HT3 : Hid (tokN xs i = .bad 7) := hid (by rw [HT2.out, if_pos HA.out])
                go_wp2_with (first | (go_at_call 80; refine (hc _).mono ?_; rintro e w1 ⟨rfl, rfl⟩) | (go_at_call 40; refine (HLE.out k _).mono ?_; rintro e w1 ⟨rfl, rfl⟩) | (go_at_call 41; refine (HDI.out k _).mono ?_; rintro e w1 ⟨rfl, rfl⟩))
                go_ret3
                exact ⟨by rw [HT3.out]; rfl, rfl⟩
      · have HSE : Hid (sc digB xs i = k) := hid (by rw [← HS.out, sc_end (by omega)])
        have hki : ¬ (k : Int) < (xs.length : Int) := by omega
        by_cases hkf : k = i
        · exfalso
          omega
        · have hkf2 : ((k : Int) == (i : Int)) = false := by simp; omega
          have hnm : namB (bt xs k) = false := by rw [bt_end (by omega)]; rfl
          have HT2 : Hid (tokN xs i = if 18446744073709551616 ≤ vl 10 xs i k then .bad 7 else .word 2 k (vl 10 xs i k) []) := hid (by rw [HT.out, HSE.out, if_neg (by simp [hkf, hnm])])
          clear hnm hkf
          rcases hor with ⟨rfl, ha0, ha1, HA⟩ | ⟨rfl, HA⟩
          · have HT3 : Hid (tokN xs i = .word 2 k a []) := hid (by rw [HT2.out, ← HA.out, if_neg (by omega)])
            go_wp2_with fail
            go_ret3
            exact ⟨by rw [HT3.out]; rfl, rfl⟩
          · have HT3 : Hid (tokN xs i = .bad 7) := hid (by rw [HT2.out, if_pos HA.out])
            go_wp2_with fail
            go_ret3
            exact ⟨by rw [HT3.out]; rfl, rfl⟩
theorem numHexR (hb : ∀ x ∈ xs, 0 ≤ x ∧ x ≤ 255) (hi : i < xs.length) (hl : xs.length ≤ 65536) (hx0 : hxA xs i = true) :
    Calls Tryz.prog 42 #[.string (strOfNums xs), .int .i64 i] w fun e w' => e = numO (tokN xs i) ∧ w = w' := by
  have HIX := hid (fun j (hj : j < xs.length) => bt_index hb j hj .i64)
  have hs : (strOfNums xs).size = xs.length := strOfNums_size xs
  have HHX := hid (fun j W => hexR (bt xs j) W (bt_bd hb j).1 (bt_bd hb j).2)
  have HLE := hid (fun j W => letterR (bt xs j) W)
  have HDI := hid (fun j W => ldigitR (bt xs j) W)
  have HBD := hid (fun j => bt_bd hb j)
  have hi0 := HIX.out i hi
  have hfs : nfr xs i = (i + 2) := by unfold nfr; rw [hx0]; rfl
  have HT : Hid (tokN xs i = if sc hexB xs (i + 2) = (i + 2) ∨ namB (bt xs (sc hexB xs (i + 2))) = true then .bad 11 else if 18446744073709551616 ≤ vl 16 xs (i + 2) (sc hexB xs (i + 2)) then .bad 7 else .word 2 (sc hexB xs (i + 2)) (vl 16 xs (i + 2) (sc hexB xs (i + 2))) []) := hid (by
    unfold tokN nen ndg nbs
    rw [hfs, hx0]
    rfl)
  have HLN : Hid (xs.length = xs.length) := hid rfl
  have hxx : bt xs i = 48 ∧ bt xs (i + 1) = 120 := by simpa [hxA] using hx0
  have hi1 : i + 1 < xs.length := by
    rcases Nat.lt_or_ge (i + 1) xs.length with h | h
    · exact h
    · have := hxx.2; rw [bt_end h] at this; omega
  have hi0' := HIX.out (i + 1) hi1
  rw [hxx.1] at hi0
  rw [hxx.2, show (((i + 1 : Nat)) : Int) = (i : Int) + 1 by omega] at hi0'
  have hii : (i : Int) + 1 < (xs.length : Int) := by omega
  have hfl : (i + 2) ≤ xs.length := by omega
  clear hxx
  clear hb hfs hx0
  go_enter Tryz.func42, Tryz.ntmps42
  go_wp2
  go_loop [7, 11, 12] (fun vk vn vo => ∃ (k : Nat) (a : Int) (ov : Bool), vk = .int .i64 k ∧ vn = .int .u64 a ∧ vo = .bool ov ∧ (i + 2) ≤ k ∧ k ≤ xs.length ∧ Hid (sc hexB xs k = sc hexB xs (i + 2)) ∧ Hid (0 ≤ vl 16 xs (i + 2) k) ∧ ((ov = false ∧ 0 ≤ a ∧ a ≤ 18446744073709551615 ∧ Hid (a = vl 16 xs (i + 2) k)) ∨ (ov = true ∧ Hid (18446744073709551616 ≤ vl 16 xs (i + 2) k)))) (fun vk _ _ => xs.length - (intOf vk).toNat)
  case atStart => exact ⟨(i + 2), 0, false, by first | rfl | go_num, rfl, rfl, Nat.le_refl _, hfl, hid rfl, hid (by rw [vl_self]; omega), .inl ⟨rfl, by omega, by omega, hid (by rw [vl_self])⟩⟩
  case round =>
    obtain ⟨k, a, ov, rfl, rfl, rfl, hfk, hk, HS, HV0, hor⟩ := hrel
    by_cases hlt : k < xs.length
    · have hix := HIX.out k hlt
      cases hdg : hexB (bt xs k) with
      | true =>
        have HS2 : Hid (sc hexB xs (k + 1) = sc hexB xs (i + 2)) := hid (by rw [← HS.out, ← sc_step hlt hdg])
        have hd := hexB_hx hdg
        have HVS : Hid (vl 16 xs (i + 2) (k + 1) = vl 16 xs (i + 2) k * 16 + hx (bt xs k)) := hid (vl_snoc hlt hfk)
        have HV2 : Hid (0 ≤ vl 16 xs (i + 2) (k + 1)) := hid (by have := HV0.out; have := HVS.out; omega)
        have hc := HHX.out k
        clear hdg
        generalize hx (bt xs k) = d at *
        obtain ⟨hd0, hd1⟩ := hd
        by_cases hgt : (18446744073709551615 - d) / 16 < a
        · have HOV : Hid (18446744073709551616 ≤ vl 16 xs (i + 2) (k + 1)) := hid (by
            have h1 := HVS.out
            rcases hor with ⟨_, _, _, h2⟩ | ⟨_, h2⟩
            · have := h2.out; omega
            · have := h2.out; omega)
          clear hor
          generalize bt xs k = c at *
          go_wp2_with (go_at_call 80; refine (hc _).mono ?_; rintro e w1 ⟨rfl, rfl⟩)
          all_goals exact ⟨⟨k + 1, _, true, by go_num, rfl, rfl, by omega, by omega, HS2, HV2, .inr ⟨rfl, HOV⟩⟩, by simp [intOf]; omega⟩
        · have HOV : Hid (vl 16 xs (i + 2) (k + 1) = vl 16 xs (i + 2) k * 16 + d) := HVS
          rcases hor with ⟨rfl, ha0, ha1, HA⟩ | ⟨rfl, HA⟩
          · have hlim : a * 16 + d ≤ 18446744073709551615 := by omega
            have HA2 : Hid (a * 16 + d = vl 16 xs (i + 2) (k + 1)) := hid (by rw [HOV.out, ← HA.out])
            have hm0 : 0 ≤ a * 16 := by omega
            generalize bt xs k = c at *
            go_wp2_with (go_at_call 80; refine (hc _).mono ?_; rintro e w1 ⟨rfl, rfl⟩)
            all_goals exact ⟨⟨k + 1, _, false, by go_num, rfl, rfl, by omega, by omega, HS2, HV2, .inl ⟨rfl, by omega, by omega, HA2⟩⟩, by simp [intOf]; omega⟩
          · have HA2 : Hid (18446744073709551616 ≤ vl 16 xs (i + 2) (k + 1)) := hid (by have := HOV.out; have := HA.out; omega)
            generalize bt xs k = c at *
            go_wp2_with (go_at_call 80; refine (hc _).mono ?_; rintro e w1 ⟨rfl, rfl⟩)
            all_goals exact ⟨⟨k + 1, _, true, by go_num, rfl, rfl, by omega, by omega, HS2, HV2, .inr ⟨rfl, HA2⟩⟩, by simp [intOf]; omega⟩
      | false =>
        have HSE : Hid (sc hexB xs (i + 2) = k) := hid (by rw [← HS.out, sc_stop hdg])
        have hc := HHX.out k
        have hd : hx (bt xs k) < 0  := by
          simpa [hexB] using hdg
        clear hdg
        by_cases hkf : k = (i + 2)
        · have HTB : Hid (tokN xs i = .bad 11) := hid (by rw [HT.out, HSE.out, if_pos (.inl hkf)])
          have hkf2 : ((k : Int) == ((i : Int) + 2)) = true := by simp; omega
          clear hkf
          go_wp2_with (first | (go_at_call 80; refine (hc _).mono ?_; rintro e w1 ⟨rfl, rfl⟩) | (go_at_call 40; refine (HLE.out k _).mono ?_; rintro e w1 ⟨rfl, rfl⟩) | (go_at_call 41; refine (HDI.out k _).mono ?_; rintro e w1 ⟨rfl, rfl⟩))
          go_ret3
          exact ⟨by rw [HTB.out]; rfl, rfl⟩
        · have hkf2 : ((k : Int) == ((i : Int) + 2)) = false := by simp; omega
          cases hlt2 : letB (bt xs k) with
          | true =>
            have HTB : Hid (tokN xs i = .bad 11) := hid (by rw [HT.out, HSE.out, if_pos (.inr (by simp [namB, hlt2]))])
            clear hkf
            go_wp2_with (first | (go_at_call 80; refine (hc _).mono ?_; rintro e w1 ⟨rfl, rfl⟩) | (go_at_call 40; refine (HLE.out k _).mono ?_; rintro e w1 ⟨rfl, rfl⟩) | (go_at_call 41; refine (HDI.out k _).mono ?_; rintro e w1 ⟨rfl, rfl⟩))
            go_ret3
            exact ⟨by rw [HTB.out]; rfl, rfl⟩
          | false =>
          cases hdg2 : digB (bt xs k) with
          | true =>
            have HTB : Hid (tokN xs i = .bad 11) := hid (by rw [HT.out, HSE.out, if_pos (.inr (by simp [namB, hdg2]))])
            clear hkf
            go_wp2_with (first | (go_at_call 80; refine (hc _).mono ?_; rintro e w1 ⟨rfl, rfl⟩) | (go_at_call 40; refine (HLE.out k _).mono ?_; rintro e w1 ⟨rfl, rfl⟩) | (go_at_call 41; refine (HDI.out k _).mono ?_; rintro e w1 ⟨rfl, rfl⟩))
            go_ret3
            exact ⟨by rw [HTB.out]; rfl, rfl⟩
          | false =>
          have hnm : namB (bt xs k) = false := by simp [namB, hlt2, hdg2]
          have HT2 : Hid (tokN xs i = if 18446744073709551616 ≤ vl 16 xs (i + 2) k then .bad 7 else .word 2 k (vl 16 xs (i + 2) k) []) := hid (by rw [HT.out, HSE.out, if_neg (by simp [hkf, hnm])])
          clear hnm hkf
          rcases hor with ⟨rfl, ha0, ha1, HA⟩ | ⟨rfl, HA⟩
          · have HT3 : Hid (tokN xs i = .word 2 k a []) := hid (by rw [HT2.out, ← HA.out, if_neg (by omega)])
            go_wp2_with (first | (go_at_call 80; refine (hc _).mono ?_; rintro e w1 ⟨rfl, rfl⟩) | (go_at_call 40; refine (HLE.out k _).mono ?_; rintro e w1 ⟨rfl, rfl⟩) | (go_at_call 41; refine (HDI.out k _).mono ?_; rintro e w1 ⟨rfl, rfl⟩))
            go_ret3
            exact ⟨by rw [HT3.out]; rfl, rfl⟩
          · have HT3 : Hid (tokN xs i = .bad 7) := hid (by rw [HT2.out, if_pos HA.out])
            go_wp2_with (first | (go_at_call 80; refine (hc _).mono ?_; rintro e w1 ⟨rfl, rfl⟩) | (go_at_call 40; refine (HLE.out k _).mono ?_; rintro e w1 ⟨rfl, rfl⟩) | (go_at_call 41; refine (HDI.out k _).mono ?_; rintro e w1 ⟨rfl, rfl⟩))
            go_ret3
            exact ⟨by rw [HT3.out]; rfl, rfl⟩
    · have HSE : Hid (sc hexB xs (i + 2) = k) := hid (by rw [← HS.out, sc_end (by omega)])
      have hki : ¬ (k : Int) < (xs.length : Int) := by omega
      by_cases hkf : k = (i + 2)
      · have HTB : Hid (tokN xs i = .bad 11) := hid (by rw [HT.out, HSE.out, if_pos (.inl hkf)])
        have hkf2 : ((k : Int) == ((i : Int) + 2)) = true := by simp; omega
        clear hkf
        go_wp2_with fail
        go_ret3
        exact ⟨by rw [HTB.out]; rfl, rfl⟩
      · have hkf2 : ((k : Int) == ((i : Int) + 2)) = false := by simp; omega
        have hnm : namB (bt xs k) = false := by rw [bt_end (by omega)]; rfl
        have HT2 : Hid (tokN xs i = if 18446744073709551616 ≤ vl 16 xs (i + 2) k then .bad 7 else .word 2 k (vl 16 xs (i + 2) k) []) := hid (by rw [HT.out, HSE.out, if_neg (by simp [hkf, hnm])])
        clear hnm hkf
        rcases hor with ⟨rfl, ha0, ha1, HA⟩ | ⟨rfl, HA⟩
        · have HT3 : Hid (tokN xs i = .word 2 k a []) := hid (by rw [HT2.out, ← HA.out, if_neg (by omega)])
          go_wp2_with fail
          go_ret3
          exact ⟨by rw [HT3.out]; rfl, rfl⟩
        · have HT3 : Hid (tokN xs i = .bad 7) := hid (by rw [HT2.out, if_pos HA.out])
          go_wp2_with fail
          go_ret3
          exact ⟨by rw [HT3.out]; rfl, rfl⟩
theorem numberR (hb : ∀ x ∈ xs, 0 ≤ x ∧ x ≤ 255) (hi : i < xs.length) (hl : xs.length ≤ 65536) :
    Calls Tryz.prog 42 #[.string (strOfNums xs), .int .i64 i] w fun e w' => e = numO (tokN xs i) ∧ w = w' := by
  cases hx : hxA xs i with
  | true => exact numHexR xs i w hb hi hl hx
  | false => exact numTenR xs i w hb hi hl hx
end
end Go.Proofs.YtidimdbnnnpplaaGreatDoor
namespace Go.Proofs.YtidimdbnnnpplaaGreatDoor
open Go.ChangeShapes Go.WideShapes Go.ChangeAt Go.RowKit Go.Deep
set_option maxRecDepth 1000000
section
variable {H : Type}
end
section
variable {H : Type} {enc : TypeId × Value → H} {W : World} {spare : Nat → Bool} {held : Bool}
end
/-- The numbers of a string's bytes. -/
def numsS (s : ByteArray) : List Int := s.data.toList.map fun b => (b.toNat : Int)
theorem numsS_str (s : ByteArray) : strOfNums (numsS s) = s := by
  apply ByteArray.ext
  apply Array.ext'
  simp [strOfNums, numsS, Function.comp_def]
theorem numsS_bd (s : ByteArray) : ∀ x ∈ numsS s, 0 ≤ x ∧ x ≤ 255 := by
  intro x hx
  obtain ⟨b, _, rfl⟩ := List.mem_map.1 hx
  have := b.toNat_lt
  omega
theorem numsS_len (s : ByteArray) : (numsS s).length = s.data.toList.length := by simp [numsS]
end Go.Proofs.YtidimdbnnnpplaaGreatDoor
