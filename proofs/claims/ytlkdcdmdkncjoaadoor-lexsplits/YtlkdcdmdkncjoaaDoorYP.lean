/-
  The document's small functions: letters, digits, signs, blanks and comments, places, quoted texts.
-/
import Derived.Test.YtlkdcdmdkncjoaaDoorYE
import Derived.Test.YtlkdcdmdkncjoaaDoorYC
namespace Go.Proofs.YtlkdcdmdkncjoaaDoor
open Go.RowKit
set_option maxRecDepth 1000000
set_option maxHeartbeats 8000000
set_option linter.unusedVariables false

theorem digitR (c : Int) (w : World) : Calls Tryd.prog 17 #[.int .u8 c] w fun e w' => e = .returned (.bool (digB c)) ∧ w = w' := by
  by_cases h1 : 48 ≤ c
  · by_cases h2 : c ≤ 57
    · have H : Hid (digB c = true) := hid (by unfold digB; simp; omega)
      go_enter Tryd.func17, Tryd.ntmps17
      go_wp2
      go_ret
      exact ⟨ret_bool H.out.symm, rfl⟩
    · have H : Hid (digB c = false) := hid (by unfold digB; simp; omega)
      go_enter Tryd.func17, Tryd.ntmps17
      go_wp2
      go_ret
      exact ⟨ret_bool H.out.symm, rfl⟩
  · have H : Hid (digB c = false) := hid (by unfold digB; simp; omega)
    go_enter Tryd.func17, Tryd.ntmps17
    go_wp2
    go_ret
    exact ⟨ret_bool H.out.symm, rfl⟩
theorem letterR (c : Int) (w : World) : Calls Tryd.prog 16 #[.int .u8 c] w fun e w' => e = .returned (.bool (letB c)) ∧ w = w' := by
  have hc : (97 ≤ c ∧ c ≤ 122) ∨ (97 ≤ c ∧ ¬ c ≤ 122) ∨ (¬ 97 ≤ c ∧ ¬ 65 ≤ c) ∨ (¬ 97 ≤ c ∧ 65 ≤ c ∧ c ≤ 90) ∨ (¬ 97 ≤ c ∧ 65 ≤ c ∧ ¬ c ≤ 90 ∧ c = 95) ∨ (¬ 97 ≤ c ∧ 65 ≤ c ∧ ¬ c ≤ 90 ∧ c ≠ 95) := by omega
  rcases hc with ⟨a1, a2⟩ | ⟨a1, a2⟩ | ⟨a1, a2⟩ | ⟨a1, a2, a3⟩ | ⟨a1, a2, a3, rfl⟩ | ⟨a1, a2, a3, a4⟩
  · have H : Hid (letB c = true) := hid (by unfold letB; simp; omega)
    go_enter Tryd.func16, Tryd.ntmps16
    go_wp2
    go_ret
    exact ⟨ret_bool H.out.symm, rfl⟩
  · have H : Hid (letB c = false) := hid (by unfold letB; simp; omega)
    have hz : (c == 95) = false := by simp; omega
    have a3 : 65 ≤ c := by omega
    have a4 : ¬ c ≤ 90 := by omega
    go_enter Tryd.func16, Tryd.ntmps16
    go_wp2
    go_ret
    exact ⟨ret_bool H.out.symm, rfl⟩
  · have H : Hid (letB c = false) := hid (by unfold letB; simp; omega)
    have hz : (c == 95) = false := by simp; omega
    go_enter Tryd.func16, Tryd.ntmps16
    go_wp2
    go_ret
    exact ⟨ret_bool H.out.symm, rfl⟩
  · have H : Hid (letB c = true) := hid (by unfold letB; simp; omega)
    go_enter Tryd.func16, Tryd.ntmps16
    go_wp2
    go_ret
    exact ⟨ret_bool H.out.symm, rfl⟩
  · go_enter Tryd.func16, Tryd.ntmps16
    go_wp2
    go_ret
    exact ⟨rfl, rfl⟩
  · have H : Hid (letB c = false) := hid (by unfold letB; simp; omega)
    have a5 : (c == 95) = false := by simpa using a4
    clear a4
    go_enter Tryd.func16, Tryd.ntmps16
    go_wp2
    go_ret
    exact ⟨ret_bool H.out.symm, rfl⟩
def sgnL : List Int := [123, 125, 91, 93, 40, 41, 60, 62, 61, 59, 44, 46, 45, 58, 63]
theorem sgn_mem (c : Int) : sgnB c = decide (c ∈ sgnL) := by unfold sgnB sgnL; simp
theorem signR (c : Int) (w : World) : Calls Tryd.prog 21 #[.int .u8 c] w fun e w' => e = .returned (.bool (sgnB c)) ∧ w = w' := by
  have HIX : Hid (∀ j : Nat, j < 15 → ∀ W : World, (Instr.index 9 (.string ⟨#[123, 125, 91, 93, 40, 41, 60, 62, 61, 59, 44, 46, 45, 58, 63]⟩) (.int .i64 (j : Int))).run Tryd.prog W = .ok (.int .u8 (bt sgnL j)) W) := hid (fun j hj W => bt_index (xs := sgnL) (by decide) j hj .i64 W)
  go_enter Tryd.func21, Tryd.ntmps21
  go_wp2
  go_loop [4] (fun vi => ∃ k : Nat, vi = .int .i64 k ∧ k ≤ 15 ∧ Hid (∀ j, j < k → bt sgnL j ≠ c)) (fun vi => 15 - (intOf vi).toNat)
  case atStart => exact ⟨0, rfl, by omega, hid (fun j hj => by omega)⟩
  case round =>
    obtain ⟨k, rfl, hk, HN⟩ := hrel
    by_cases hlt : k < 15
    · have hix := HIX.out k hlt
      by_cases hc : bt sgnL k = c
      · have HS : Hid (sgnB c = true) := hid (by
          rw [sgn_mem, decide_eq_true_eq, ← hc]
          have : k < sgnL.length := hlt
          unfold bt
          rw [List.getElem?_eq_getElem this]
          exact List.getElem_mem this)
        rw [hc] at hix
        clear hc HIX
        go_wp2
        go_ret
        exact ⟨ret_bool HS.out.symm, rfl⟩
      · have hb : (bt sgnL k == c) = false := by simpa using hc
        have HN2 : Hid (∀ j, j < k + 1 → bt sgnL j ≠ c) := hid (fun j hj => by
          by_cases h : j = k
          · subst h; exact hc
          · exact HN.out j (by omega))
        clear hc HIX
        generalize bt sgnL k = d at *
        go_wp2
        exact ⟨⟨k + 1, by go_num, by omega, HN2⟩, by simp [intOf]; omega⟩
    · have HS : Hid (sgnB c = false) := hid (by
        rw [sgn_mem, decide_eq_false_iff_not]
        intro hm
        obtain ⟨j, hj, e⟩ := List.mem_iff_getElem.1 hm
        have hj' : j < 15 := hj
        apply HN.out j (by omega)
        unfold bt
        rw [List.getElem?_eq_getElem hj]
        exact e)
      clear HIX
      go_wp2
      go_ret
      exact ⟨ret_bool HS.out.symm, rfl⟩
section
variable (xs : List Int) (i : Nat) (w : World)
/-- Blanks and comments. -/
def Spaced (xs : List Int) (i : Nat) (e : Ending) : Prop := ∃ (j : Nat) (ok : Bool), e = .returned (.tuple #[.int .i64 j, .bool ok]) ∧ i ≤ j ∧ j ≤ xs.length ∧
  ((ok = true ∧ (∀ acc, lxAt xs i acc = lxAt xs j acc) ∧ (j < xs.length → isBl (bt xs j) = false ∧ (bt xs j = 47 → bt xs (j + 1) ≠ 47 ∧ bt xs (j + 1) ≠ 42))) ∨ (ok = false ∧ j < xs.length ∧ ∀ acc, lxAt xs i acc = ⟨[], 11, j⟩))
theorem spaced_at {xs : List Int} {i j : Nat} (h1 : i ≤ j) (h2 : j ≤ xs.length) (h3 : ∀ acc, lxAt xs i acc = lxAt xs j acc) (h4 : j < xs.length → isBl (bt xs j) = false ∧ (bt xs j = 47 → bt xs (j + 1) ≠ 47 ∧ bt xs (j + 1) ≠ 42)) : Spaced xs i (.returned (.tuple #[.int .i64 j, .bool true])) := ⟨j, true, rfl, h1, h2, .inl ⟨rfl, h3, h4⟩⟩
theorem spaceR (hb : ∀ x ∈ xs, 0 ≤ x ∧ x ≤ 255) (hi : i ≤ xs.length) (hl : xs.length ≤ 65536) :
    Calls Tryd.prog 14 #[.string (strOfNums xs), .int .i64 i] w fun e w' => Spaced xs i e ∧ w = w' := by
  have HIX := hid (fun j (hj : j < xs.length) => bt_index hb j hj .i64)
  have hs : (strOfNums xs).size = xs.length := strOfNums_size xs
  clear hb
  obtain ⟨n, hn⟩ : ∃ n, xs.length = n := ⟨_, rfl⟩
  have HN := hid hn
  rw [hn] at hs hl hi HIX
  clear hn
  go_enter Tryd.func14, Tryd.ntmps14
  go_wp2
  go_loop [1] (fun vi => ∃ k : Nat, vi = .int .i64 k ∧ i ≤ k ∧ k ≤ n ∧ Hid (∀ acc, lxAt xs i acc = lxAt xs k acc)) (fun vi => n - (intOf vi).toNat)
  case atStart => exact ⟨i, rfl, Nat.le_refl _, hi, hid (fun _ => rfl)⟩
  case round =>
    obtain ⟨k, rfl, hik, hk, HX⟩ := hrel
    by_cases hlt : k < n
    · have hix := HIX.out k hlt
      have hkn : k < xs.length := by rw [HN.out]; exact hlt
      by_cases hbl : isBl (bt xs k) = true
      · have HX2 : Hid (∀ acc, lxAt xs i acc = lxAt xs (k + 1) acc) := hid (fun acc => by rw [HX.out acc]; exact lxAt_skip hkn (by unfold tok; rw [if_pos hbl]))
        have hbc : bt xs k = 32 ∨ bt xs k = 9 ∨ bt xs k = 13 ∨ bt xs k = 10 := by simpa [isBl] using hbl
        clear hbl
        rcases hbc with h | h | h | h
        all_goals
          rw [h] at hix
          clear h
          go_wp2
          exact ⟨⟨k + 1, by go_num, by omega, by omega, HX2⟩, by simp [intOf]; omega⟩
      · have hbf : isBl (bt xs k) = false := by simpa using hbl
        have HBL := hid hbf
        have hbc : ¬ (bt xs k = 32 ∨ bt xs k = 9 ∨ bt xs k = 13 ∨ bt xs k = 10) := by simpa [isBl] using hbl
        have e32 : (bt xs k == 32) = false := by simp; omega
        have e9 : (bt xs k == 9) = false := by simp; omega
        have e13 : (bt xs k == 13) = false := by simp; omega
        have e10 : (bt xs k == 10) = false := by simp; omega
        clear hbc
        by_cases h47 : bt xs k = 47
        · have HC : Hid (tok xs k = tokC xs k) := hid (by unfold tok; rw [if_neg hbl, if_pos h47])
          have H47 := hid h47
          rw [h47] at hix
          clear hbl hbf e32 e9 e13 e10 h47
          by_cases hke : k + 1 = n
          · have HSP : Hid (Spaced xs i (.returned (.tuple #[.int .i64 k, .bool true]))) := hid (spaced_at hik (by omega) HX.out (fun _ => ⟨HBL.out, fun _ => by rw [bt_end (by rw [HN.out]; omega)]; decide⟩))
            have hke2 : ((k : Int) + 1 == (n : Int)) = true := by simp; omega
            clear hke
            go_wp2
            go_ret2
            exact ⟨HSP.out, rfl⟩
          · have hke2 : ((k : Int) + 1 == (n : Int)) = false := by simp; omega
            have hk1 : k + 1 < n := by omega
            have hix1 := HIX.out (k + 1) hk1
            rw [show (((k + 1 : Nat)) : Int) = (k : Int) + 1 by omega] at hix1
            clear hke
            by_cases d47 : bt xs (k + 1) = 47
            · rw [d47] at hix1
              have HTK : Hid (tok xs k = .skip (sc notNl xs (k + 2))) := hid (by rw [HC.out]; unfold tokC; rw [if_pos d47, sc_step (by rw [HN.out]; exact hk1) (by rw [d47]; rfl)])
              clear d47
              go_wp2
              go_loop [7] (fun vk => ∃ m : Nat, vk = .int .i64 m ∧ k + 2 ≤ m ∧ m ≤ n ∧ Hid (sc notNl xs m = sc notNl xs (k + 2))) (fun vk => n - (intOf vk).toNat)
              case atStart => exact ⟨k + 2, by go_num, Nat.le_refl _, by omega, hid rfl⟩
              case round =>
                obtain ⟨m, rfl, hm1, hm2, HM⟩ := hrel
                by_cases hmlt : m < n
                · have hixm := HIX.out m hmlt
                  by_cases h10 : bt xs m = 10
                  · rw [h10] at hixm
                    have HX2 : Hid (∀ acc, lxAt xs i acc = lxAt xs m acc) := hid (fun acc => by rw [HX.out acc, lxAt_skip hkn HTK.out, ← HM.out, sc_stop (by rw [h10]; rfl)])
                    clear h10
                    go_wp2
                    exact ⟨⟨m, rfl, by omega, by omega, HX2⟩, by simp [intOf]; omega⟩
                  · have h10b : (bt xs m != 10) = true := by simpa using h10
                    have HM2 : Hid (sc notNl xs (m + 1) = sc notNl xs (k + 2)) := hid (by rw [← HM.out, ← sc_step (by rw [HN.out]; exact hmlt) (by simp [notNl, h10])])
                    clear h10
                    generalize bt xs m = c at *
                    go_wp2
                    exact ⟨⟨m + 1, by go_num, by omega, by omega, HM2⟩, by simp [intOf]; omega⟩
                · have HX2 : Hid (∀ acc, lxAt xs i acc = lxAt xs m acc) := hid (fun acc => by rw [HX.out acc, lxAt_skip hkn HTK.out, ← HM.out, sc_end (by rw [HN.out]; omega)])
                  go_wp2
                  exact ⟨⟨m, rfl, by omega, by omega, HX2⟩, by simp [intOf]; omega⟩
            · by_cases d42 : bt xs (k + 1) = 42
              · rw [d42] at hix1
                have HTK : Hid (tok xs k = match bk xs (k + 2) with | none => .bad 11 | some k => .skip k) := hid (by rw [HC.out]; unfold tokC; rw [if_neg d47, if_pos d42]; cases bk xs (k + 2) <;> rfl)
                clear d42 d47
                go_wp2
                go_loop [7] (fun vk => ∃ m : Nat, vk = .int .i64 m ∧ k + 2 ≤ m ∧ m ≤ n ∧ Hid (bk xs m = bk xs (k + 2))) (fun vk => n - (intOf vk).toNat)
                case atStart => exact ⟨k + 2, by go_num, Nat.le_refl _, by omega, hid rfl⟩
                case round =>
                  obtain ⟨m, rfl, hm1, hm2, HM⟩ := hrel
                  by_cases hmlt : m + 1 < n
                  · have hixm := HIX.out m (by omega)
                    have hixm1 := HIX.out (m + 1) hmlt
                    rw [show (((m + 1 : Nat)) : Int) = (m : Int) + 1 by omega] at hixm1
                    have hmi : (m : Int) + 1 < (n : Int) := by omega
                    by_cases hh : bt xs m = 42 ∧ bt xs (m + 1) = 47
                    · have HX2 : Hid (∀ acc, lxAt xs i acc = lxAt xs (m + 2) acc) := hid (fun acc => by rw [HX.out acc, lxAt_skip hkn (j := m + 2) (by rw [HTK.out, ← HM.out, bk_here hh.1 hh.2])])
                      rw [hh.1] at hixm
                      rw [hh.2] at hixm1
                      clear hh
                      go_wp2
                      exact ⟨⟨m + 2, by go_num, by omega, by omega, HX2⟩, by simp [intOf]; omega⟩
                    · have HM2 : Hid (bk xs (m + 1) = bk xs (k + 2)) := hid (by rw [← HM.out, ← bk_step (by rw [HN.out]; omega) hh])
                      by_cases h1 : bt xs m = 42
                      · have h2 : (bt xs (m + 1) != 47) = true := by simp; exact fun e => hh ⟨h1, e⟩
                        rw [h1] at hixm
                        clear hh h1
                        generalize bt xs (m + 1) = c at *
                        go_wp2
                        exact ⟨⟨m + 1, by go_num, by omega, by omega, HM2⟩, by simp [intOf]; omega⟩
                      · have h2 : (bt xs m != 42) = true := by simpa using h1
                        clear hh h1
                        generalize bt xs m = c at *
                        go_wp2
                        exact ⟨⟨m + 1, by go_num, by omega, by omega, HM2⟩, by simp [intOf]; omega⟩
                  · have hmi : ¬ (m : Int) + 1 < (n : Int) := by omega
                    have hmj : (n : Int) ≤ (m : Int) + 1 := by omega
                    have HSP : Hid (Spaced xs i (.returned (.tuple #[.int .i64 k, .bool false]))) := hid ⟨k, false, rfl, hik, by omega, .inr ⟨rfl, hkn, fun acc => by rw [HX.out acc]; exact lxAt_bad hkn (by rw [HTK.out, ← HM.out, bk_last (by rw [HN.out]; omega)])⟩⟩
                    go_wp2
                    go_ret2
                    exact ⟨HSP.out, rfl⟩
              · have HSP : Hid (Spaced xs i (.returned (.tuple #[.int .i64 k, .bool true]))) := hid (spaced_at hik (by omega) HX.out (fun _ => ⟨HBL.out, fun _ => ⟨d47, d42⟩⟩))
                have d1 : (bt xs (k + 1) != 47) = true := by simpa using d47
                have d2 : (bt xs (k + 1) != 42) = true := by simpa using d42
                clear d47 d42
                generalize bt xs (k + 1) = d at *
                go_wp2
                go_ret2
                exact ⟨HSP.out, rfl⟩
        · have e47 : (bt xs k != 47) = true := by simpa using h47
          have HSP : Hid (Spaced xs i (.returned (.tuple #[.int .i64 k, .bool true]))) := hid (spaced_at hik (by omega) HX.out (fun _ => ⟨HBL.out, fun e => absurd e h47⟩))
          clear hbl hbf h47
          generalize bt xs k = c at *
          go_wp2
          go_ret2
          exact ⟨HSP.out, rfl⟩
    · have HSP : Hid (Spaced xs i (.returned (.tuple #[.int .i64 k, .bool true]))) := hid (spaced_at hik (by rw [HN.out]; omega) HX.out (fun h => by rw [HN.out] at h; omega))
      go_wp2
      go_ret2
      exact ⟨HSP.out, rfl⟩
end
end Go.Proofs.YtlkdcdmdkncjoaaDoor
