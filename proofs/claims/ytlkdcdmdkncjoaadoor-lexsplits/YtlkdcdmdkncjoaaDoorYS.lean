/-
  The document's numbers.
-/
import Derived.Test.YtlkdcdmdkncjoaaDoorYQ
namespace Go.Proofs.YtlkdcdmdkncjoaaDoor
open Go.RowKit
set_option maxRecDepth 1000000
set_option maxHeartbeats 16000000
set_option linter.unusedVariables false

section
variable (xs : List Int) (i : Nat) (w : World)
/-- What number tells of a token. -/
def numO : Tk → Ending
  | .word _ k n _ => .returned (.tuple #[.int .i64 k, .int .u64 n, .int .i64 0])
  | .bad c => .returned (.tuple #[.int .i64 0, .int .u64 0, .int .i64 c])
  | .skip _ => .returned (.tuple #[])

theorem numTenR (hb : ∀ x ∈ xs, 0 ≤ x ∧ x ≤ 255) (hi : i < xs.length) (hl : xs.length ≤ 65536) (hx0 : hxA xs i = false) :
    Calls Tryd.prog 18 #[.string (strOfNums xs), .int .i64 i] w fun e w' => e = numO (tokN xs i) ∧ w = w' := by
  have HIX := hid (fun j (hj : j < xs.length) => bt_index hb j hj .i64)
  have hs : (strOfNums xs).size = xs.length := strOfNums_size xs
  have HHX := hid (fun j W => hexR (bt xs j) W (bt_bd hb j).1 (bt_bd hb j).2)
  have HLE := hid (fun j W => letterR (bt xs j) W)
  have HDI := hid (fun j W => digitR (bt xs j) W)
  have HBD := hid (fun j => bt_bd hb j)
  have hi0 := HIX.out i hi
  have hfs : nfr xs i = i := by unfold nfr; rw [hx0]; rfl
  have HT : Hid (tokN xs i = if sc digB xs i = i ∨ namB (bt xs (sc digB xs i)) = true then .bad 11 else if 18446744073709551616 ≤ vl 10 xs i (sc digB xs i) then .bad 7 else .word 2 (sc digB xs i) (vl 10 xs i (sc digB xs i)) []) := hid (by
    unfold tokN nen ndg nbs
    rw [hfs, hx0]
    rfl)
  have HLN : Hid (xs.length = xs.length) := hid rfl
  have hfl : i ≤ xs.length := by omega
  have hxx : ¬ (bt xs i = 48 ∧ bt xs (i + 1) = 120) := by simpa [hxA] using hx0
  clear hb hfs hx0
  by_cases h48 : bt xs i = 48
  · rw [h48] at hi0
    by_cases hi1 : i + 1 < xs.length
    · have hi0' := HIX.out (i + 1) hi1
      rw [show (((i + 1 : Nat)) : Int) = (i : Int) + 1 by omega] at hi0'
      have hii : (i : Int) + 1 < (xs.length : Int) := by omega
      have hx1 : (bt xs (i + 1) == 120) = false := by simp; exact fun e => hxx ⟨h48, e⟩
      clear hxx h48
      go_enter Tryd.func18, Tryd.ntmps18
      go_wp2
      go_loop [7, 11, 12] (fun vk vn vo => ∃ (k : Nat) (a : Int) (ov : Bool), vk = .int .i64 k ∧ vn = .int .u64 a ∧ vo = .bool ov ∧ i ≤ k ∧ k ≤ xs.length ∧ Hid (sc digB xs k = sc digB xs i) ∧ Hid (0 ≤ vl 10 xs i k) ∧ ((ov = false ∧ 0 ≤ a ∧ a ≤ 18446744073709551615 ∧ Hid (a = vl 10 xs i k)) ∨ (ov = true ∧ Hid (18446744073709551616 ≤ vl 10 xs i k)))) (fun vk _ _ => xs.length - (intOf vk).toNat)
      case atStart => exact ⟨i, 0, false, by first | rfl | go_num, rfl, rfl, Nat.le_refl _, hfl, hid rfl, hid (by rw [vl_self]; omega), .inl ⟨rfl, by omega, by omega, hid (by rw [vl_self])⟩⟩
      case round =>
        obtain ⟨k, a, ov, rfl, rfl, rfl, hfk, hk, HS, HV0, hor⟩ := hrel
        by_cases hlt : k < xs.length
        · have hix := HIX.out k hlt
          cases hdg : digB (bt xs k) with
          | true =>
            have HS2 : Hid (sc digB xs (k + 1) = sc digB xs i) := hid (by rw [← HS.out, ← sc_step hlt hdg])
            have hd := digB_hx hdg
            have HVS : Hid (vl 10 xs i (k + 1) = vl 10 xs i k * 10 + hx (bt xs k)) := hid (vl_snoc hlt hfk)
            have HV2 : Hid (0 ≤ vl 10 xs i (k + 1)) := hid (by have := HV0.out; have := HVS.out; omega)
            have hc := HHX.out k
            clear hdg
            generalize hx (bt xs k) = d at *
            obtain ⟨hd0, hd1⟩ := hd
            by_cases hgt : (18446744073709551615 - d) / 10 < a
            · have HOV : Hid (18446744073709551616 ≤ vl 10 xs i (k + 1)) := hid (by
                have h1 := HVS.out
                rcases hor with ⟨_, _, _, h2⟩ | ⟨_, h2⟩
                · have := h2.out; omega
                · have := h2.out; omega)
              clear hor
              generalize bt xs k = c at *
              go_wp2_with (go_at_call 33; refine (hc _).mono ?_; rintro e w1 ⟨rfl, rfl⟩)
              all_goals exact ⟨⟨k + 1, _, true, by go_num, rfl, rfl, by omega, by omega, HS2, HV2, .inr ⟨rfl, HOV⟩⟩, by simp [intOf]; omega⟩
            · have HOV : Hid (vl 10 xs i (k + 1) = vl 10 xs i k * 10 + d) := HVS
              rcases hor with ⟨rfl, ha0, ha1, HA⟩ | ⟨rfl, HA⟩
              · have hlim : a * 10 + d ≤ 18446744073709551615 := by omega
                have HA2 : Hid (a * 10 + d = vl 10 xs i (k + 1)) := hid (by rw [HOV.out, ← HA.out])
                have hm0 : 0 ≤ a * 10 := by omega
                generalize bt xs k = c at *
                go_wp2_with (go_at_call 33; refine (hc _).mono ?_; rintro e w1 ⟨rfl, rfl⟩)
                all_goals exact ⟨⟨k + 1, _, false, by go_num, rfl, rfl, by omega, by omega, HS2, HV2, .inl ⟨rfl, by omega, by omega, HA2⟩⟩, by simp [intOf]; omega⟩
              · have HA2 : Hid (18446744073709551616 ≤ vl 10 xs i (k + 1)) := hid (by have := HOV.out; have := HA.out; omega)
                generalize bt xs k = c at *
                go_wp2_with (go_at_call 33; refine (hc _).mono ?_; rintro e w1 ⟨rfl, rfl⟩)
                all_goals exact ⟨⟨k + 1, _, true, by go_num, rfl, rfl, by omega, by omega, HS2, HV2, .inr ⟨rfl, HA2⟩⟩, by simp [intOf]; omega⟩
          | false =>
            have HSE : Hid (sc digB xs i = k) := hid (by rw [← HS.out, sc_stop hdg])
            have hc := HHX.out k
            have hd : hx (bt xs k) < 0 ∨ 9 < hx (bt xs k) := by
              unfold hx; simp [digB] at hdg; (repeat' split) <;> omega
            rcases hd with hd | hd
            all_goals
              clear hdg
              by_cases hkf : k = i
              · have HTB : Hid (tokN xs i = .bad 11) := hid (by rw [HT.out, HSE.out, if_pos (.inl hkf)])
                have hkf2 : ((k : Int) == (i : Int)) = true := by simp; omega
                clear hkf
                go_wp2_with (first | (go_at_call 33; refine (hc _).mono ?_; rintro e w1 ⟨rfl, rfl⟩) | (go_at_call 16; refine (HLE.out k _).mono ?_; rintro e w1 ⟨rfl, rfl⟩) | (go_at_call 17; refine (HDI.out k _).mono ?_; rintro e w1 ⟨rfl, rfl⟩))
                go_ret3
                exact ⟨by rw [HTB.out]; rfl, rfl⟩
              · have hkf2 : ((k : Int) == (i : Int)) = false := by simp; omega
                cases hlt2 : letB (bt xs k) with
                | true =>
                  have HTB : Hid (tokN xs i = .bad 11) := hid (by rw [HT.out, HSE.out, if_pos (.inr (by simp [namB, hlt2]))])
                  clear hkf
                  go_wp2_with (first | (go_at_call 33; refine (hc _).mono ?_; rintro e w1 ⟨rfl, rfl⟩) | (go_at_call 16; refine (HLE.out k _).mono ?_; rintro e w1 ⟨rfl, rfl⟩) | (go_at_call 17; refine (HDI.out k _).mono ?_; rintro e w1 ⟨rfl, rfl⟩))
                  go_ret3
                  exact ⟨by rw [HTB.out]; rfl, rfl⟩
                | false =>
                cases hdg2 : digB (bt xs k) with
                | true =>
                  have HTB : Hid (tokN xs i = .bad 11) := hid (by rw [HT.out, HSE.out, if_pos (.inr (by simp [namB, hdg2]))])
                  clear hkf
                  go_wp2_with (first | (go_at_call 33; refine (hc _).mono ?_; rintro e w1 ⟨rfl, rfl⟩) | (go_at_call 16; refine (HLE.out k _).mono ?_; rintro e w1 ⟨rfl, rfl⟩) | (go_at_call 17; refine (HDI.out k _).mono ?_; rintro e w1 ⟨rfl, rfl⟩))
                  go_ret3
                  exact ⟨by rw [HTB.out]; rfl, rfl⟩
                | false =>
                have hnm : namB (bt xs k) = false := by simp [namB, hlt2, hdg2]
                have HT2 : Hid (tokN xs i = if 18446744073709551616 ≤ vl 10 xs i k then .bad 7 else .word 2 k (vl 10 xs i k) []) := hid (by rw [HT.out, HSE.out, if_neg (by simp [hkf, hnm])])
                clear hnm hkf
                rcases hor with ⟨rfl, ha0, ha1, HA⟩ | ⟨rfl, HA⟩
                · have HT3 : Hid (tokN xs i = .word 2 k a []) := hid (by rw [HT2.out, ← HA.out, if_neg (by omega)])
                  go_wp2_with (first | (go_at_call 33; refine (hc _).mono ?_; rintro e w1 ⟨rfl, rfl⟩) | (go_at_call 16; refine (HLE.out k _).mono ?_; rintro e w1 ⟨rfl, rfl⟩) | (go_at_call 17; refine (HDI.out k _).mono ?_; rintro e w1 ⟨rfl, rfl⟩))
                  go_ret3
                  exact ⟨by rw [HT3.out]; rfl, rfl⟩
                · have HT3 : Hid (tokN xs i = .bad 7) := hid (by rw [HT2.out, if_pos HA.out])
                  go_wp2_with (first | (go_at_call 33; refine (hc _).mono ?_; rintro e w1 ⟨rfl, rfl⟩) | (go_at_call 16; refine (HLE.out k _).mono ?_; rintro e w1 ⟨rfl, rfl⟩) | (go_at_call 17; refine (HDI.out k _).mono ?_; rintro e w1 ⟨rfl, rfl⟩))
                  go_ret3
                  exact ⟨by rw [HT3.out]; rfl, rfl⟩
        · have HSE : Hid (sc digB xs i = k) := hid (by rw [← HS.out, sc_end (by omega)])
          have hki : ¬ (k : Int) < (xs.length : Int) := by omega
          by_cases hkf : k = i
          · exfalso
            omega
          · have hkf2 : ((k : Int) == (i : Int)) = false := by simp; omega
            have hnm : namB (bt xs k) = false := by rw [bt_end (by omega)]; rfl
            have HT2 : Hid (tokN xs i = if 18446744073709551616 ≤ vl 10 xs i k then .bad 7 else .word 2 k (vl 10 xs i k) []) := hid (by rw [HT.out, HSE.out, if_neg (by simp [hkf, hnm])])
            clear hnm hkf
            rcases hor with ⟨rfl, ha0, ha1, HA⟩ | ⟨rfl, HA⟩
            · have HT3 : Hid (tokN xs i = .word 2 k a []) := hid (by rw [HT2.out, ← HA.out, if_neg (by omega)])
              go_wp2_with fail
              go_ret3
              exact ⟨by rw [HT3.out]; rfl, rfl⟩
            · have HT3 : Hid (tokN xs i = .bad 7) := hid (by rw [HT2.out, if_pos HA.out])
              go_wp2_with fail
              go_ret3
              exact ⟨by rw [HT3.out]; rfl, rfl⟩
    · have hii : ¬ (i : Int) + 1 < (xs.length : Int) := by omega
      clear hxx h48
      go_enter Tryd.func18, Tryd.ntmps18
      go_wp2
      go_loop [7, 11, 12] (fun vk vn vo => ∃ (k : Nat) (a : Int) (ov : Bool), vk = .int .i64 k ∧ vn = .int .u64 a ∧ vo = .bool ov ∧ i ≤ k ∧ k ≤ xs.length ∧ Hid (sc digB xs k = sc digB xs i) ∧ Hid (0 ≤ vl 10 xs i k) ∧ ((ov = false ∧ 0 ≤ a ∧ a ≤ 18446744073709551615 ∧ Hid (a = vl 10 xs i k)) ∨ (ov = true ∧ Hid (18446744073709551616 ≤ vl 10 xs i k)))) (fun vk _ _ => xs.length - (intOf vk).toNat)
      case atStart => exact ⟨i, 0, false, by first | rfl | go_num, rfl, rfl, Nat.le_refl _, hfl, hid rfl, hid (by rw [vl_self]; omega), .inl ⟨rfl, by omega, by omega, hid (by rw [vl_self])⟩⟩
      case round =>
        obtain ⟨k, a, ov, rfl, rfl, rfl, hfk, hk, HS, HV0, hor⟩ := hrel
        by_cases hlt : k < xs.length
        · have hix := HIX.out k hlt
          cases hdg : digB (bt xs k) with
          | true =>
            have HS2 : Hid (sc digB xs (k + 1) = sc digB xs i) := hid (by rw [← HS.out, ← sc_step hlt hdg])
            have hd := digB_hx hdg
            have HVS : Hid (vl 10 xs i (k + 1) = vl 10 xs i k * 10 + hx (bt xs k)) := hid (vl_snoc hlt hfk)
            have HV2 : Hid (0 ≤ vl 10 xs i (k + 1)) := hid (by have := HV0.out; have := HVS.out; omega)
            have hc := HHX.out k
            clear hdg
            generalize hx (bt xs k) = d at *
            obtain ⟨hd0, hd1⟩ := hd
            by_cases hgt : (18446744073709551615 - d) / 10 < a
            · have HOV : Hid (18446744073709551616 ≤ vl 10 xs i (k + 1)) := hid (by
                have h1 := HVS.out
                rcases hor with ⟨_, _, _, h2⟩ | ⟨_, h2⟩
                · have := h2.out; omega
                · have := h2.out; omega)
              clear hor
              generalize bt xs k = c at *
              go_wp2_with (go_at_call 33; refine (hc _).mono ?_; rintro e w1 ⟨rfl, rfl⟩)
              all_goals exact ⟨⟨k + 1, _, true, by go_num, rfl, rfl, by omega, by omega, HS2, HV2, .inr ⟨rfl, HOV⟩⟩, by simp [intOf]; omega⟩
            · have HOV : Hid (vl 10 xs i (k + 1) = vl 10 xs i k * 10 + d) := HVS
              rcases hor with ⟨rfl, ha0, ha1, HA⟩ | ⟨rfl, HA⟩
              · have hlim : a * 10 + d ≤ 18446744073709551615 := by omega
                have HA2 : Hid (a * 10 + d = vl 10 xs i (k + 1)) := hid (by rw [HOV.out, ← HA.out])
                have hm0 : 0 ≤ a * 10 := by omega
                generalize bt xs k = c at *
                go_wp2_with (go_at_call 33; refine (hc _).mono ?_; rintro e w1 ⟨rfl, rfl⟩)
                all_goals exact ⟨⟨k + 1, _, false, by go_num, rfl, rfl, by omega, by omega, HS2, HV2, .inl ⟨rfl, by omega, by omega, HA2⟩⟩, by simp [intOf]; omega⟩
              · have HA2 : Hid (18446744073709551616 ≤ vl 10 xs i (k + 1)) := hid (by have := HOV.out; have := HA.out; omega)
                generalize bt xs k = c at *
                go_wp2_with (go_at_call 33; refine (hc _).mono ?_; rintro e w1 ⟨rfl, rfl⟩)
                all_goals exact ⟨⟨k + 1, _, true, by go_num, rfl, rfl, by omega, by omega, HS2, HV2, .inr ⟨rfl, HA2⟩⟩, by simp [intOf]; omega⟩
          | false =>
            have HSE : Hid (sc digB xs i = k) := hid (by rw [← HS.out, sc_stop hdg])
            have hc := HHX.out k
            have hd : hx (bt xs k) < 0 ∨ 9 < hx (bt xs k) := by
              unfold hx; simp [digB] at hdg; (repeat' split) <;> omega
            rcases hd with hd | hd
            all_goals
              clear hdg
              by_cases hkf : k = i
              · have HTB : Hid (tokN xs i = .bad 11) := hid (by rw [HT.out, HSE.out, if_pos (.inl hkf)])
                have hkf2 : ((k : Int) == (i : Int)) = true := by simp; omega
                clear hkf
                go_wp2_with (first | (go_at_call 33; refine (hc _).mono ?_; rintro e w1 ⟨rfl, rfl⟩) | (go_at_call 16; refine (HLE.out k _).mono ?_; rintro e w1 ⟨rfl, rfl⟩) | (go_at_call 17; refine (HDI.out k _).mono ?_; rintro e w1 ⟨rfl, rfl⟩))
                go_ret3
                exact ⟨by rw [HTB.out]; rfl, rfl⟩
              · have hkf2 : ((k : Int) == (i : Int)) = false := by simp; omega
                cases hlt2 : letB (bt xs k) with
                | true =>
                  have HTB : Hid (tokN xs i = .bad 11) := hid (by rw [HT.out, HSE.out, if_pos (.inr (by simp [namB, hlt2]))])
                  clear hkf
                  go_wp2_with (first | (go_at_call 33; refine (hc _).mono ?_; rintro e w1 ⟨rfl, rfl⟩) | (go_at_call 16; refine (HLE.out k _).mono ?_; rintro e w1 ⟨rfl, rfl⟩) | (go_at_call 17; refine (HDI.out k _).mono ?_; rintro e w1 ⟨rfl, rfl⟩))
                  go_ret3
                  exact ⟨by rw [HTB.out]; rfl, rfl⟩
                | false =>
                cases hdg2 : digB (bt xs k) with
                | true =>
                  have HTB : Hid (tokN xs i = .bad 11) := hid (by rw [HT.out, HSE.out, if_pos (.inr (by simp [namB, hdg2]))])
                  clear hkf
                  go_wp2_with (first | (go_at_call 33; refine (hc _).mono ?_; rintro e w1 ⟨rfl, rfl⟩) | (go_at_call 16; refine (HLE.out k _).mono ?_; rintro e w1 ⟨rfl, rfl⟩) | (go_at_call 17; refine (HDI.out k _).mono ?_; rintro e w1 ⟨rfl, rfl⟩))
                  go_ret3
                  exact ⟨by rw [HTB.out]; rfl, rfl⟩
                | false =>
                have hnm : namB (bt xs k) = false := by simp [namB, hlt2, hdg2]
                have HT2 : Hid (tokN xs i = if 18446744073709551616 ≤ vl 10 xs i k then .bad 7 else .word 2 k (vl 10 xs i k) []) := hid (by rw [HT.out, HSE.out, if_neg (by simp [hkf, hnm])])
                clear hnm hkf
                rcases hor with ⟨rfl, ha0, ha1, HA⟩ | ⟨rfl, HA⟩
                · have HT3 : Hid (tokN xs i = .word 2 k a []) := hid (by rw [HT2.out, ← HA.out, if_neg (by omega)])
                  go_wp2_with (first | (go_at_call 33; refine (hc _).mono ?_; rintro e w1 ⟨rfl, rfl⟩) | (go_at_call 16; refine (HLE.out k _).mono ?_; rintro e w1 ⟨rfl, rfl⟩) | (go_at_call 17; refine (HDI.out k _).mono ?_; rintro e w1 ⟨rfl, rfl⟩))
                  go_ret3
                  exact ⟨by rw [HT3.out]; rfl, rfl⟩
                · have HT3 : Hid (tokN xs i = .bad 7) := hid (by rw [HT2.out, if_pos HA.out])
                  go_wp2_with (first | (go_at_call 33; refine (hc _).mono ?_; rintro e w1 ⟨rfl, rfl⟩) | (go_at_call 16; refine (HLE.out k _).mono ?_; rintro e w1 ⟨rfl, rfl⟩) | (go_at_call 17; refine (HDI.out k _).mono ?_; rintro e w1 ⟨rfl, rfl⟩))
                  go_ret3
                  exact ⟨by rw [HT3.out]; rfl, rfl⟩
        · have HSE : Hid (sc digB xs i = k) := hid (by rw [← HS.out, sc_end (by omega)])
          have hki : ¬ (k : Int) < (xs.length : Int) := by omega
          by_cases hkf : k = i
          · exfalso
            omega
          · have hkf2 : ((k : Int) == (i : Int)) = false := by simp; omega
            have hnm : namB (bt xs k) = false := by rw [bt_end (by omega)]; rfl
            have HT2 : Hid (tokN xs i = if 18446744073709551616 ≤ vl 10 xs i k then .bad 7 else .word 2 k (vl 10 xs i k) []) := hid (by rw [HT.out, HSE.out, if_neg (by simp [hkf, hnm])])
            clear hnm hkf
            rcases hor with ⟨rfl, ha0, ha1, HA⟩ | ⟨rfl, HA⟩
            · have HT3 : Hid (tokN xs i = .word 2 k a []) := hid (by rw [HT2.out, ← HA.out, if_neg (by omega)])
              go_wp2_with fail
              go_ret3
              exact ⟨by rw [HT3.out]; rfl, rfl⟩
            · have HT3 : Hid (tokN xs i = .bad 7) := hid (by rw [HT2.out, if_pos HA.out])
              go_wp2_with fail
              go_ret3
              exact ⟨by rw [HT3.out]; rfl, rfl⟩
  · have hx1 : (bt xs i == 48) = false := by simpa using h48
    clear hxx h48
    go_enter Tryd.func18, Tryd.ntmps18
    go_wp2
    go_loop [7, 11, 12] (fun vk vn vo => ∃ (k : Nat) (a : Int) (ov : Bool), vk = .int .i64 k ∧ vn = .int .u64 a ∧ vo = .bool ov ∧ i ≤ k ∧ k ≤ xs.length ∧ Hid (sc digB xs k = sc digB xs i) ∧ Hid (0 ≤ vl 10 xs i k) ∧ ((ov = false ∧ 0 ≤ a ∧ a ≤ 18446744073709551615 ∧ Hid (a = vl 10 xs i k)) ∨ (ov = true ∧ Hid (18446744073709551616 ≤ vl 10 xs i k)))) (fun vk _ _ => xs.length - (intOf vk).toNat)
    case atStart => exact ⟨i, 0, false, by first | rfl | go_num, rfl, rfl, Nat.le_refl _, hfl, hid rfl, hid (by rw [vl_self]; omega), .inl ⟨rfl, by omega, by omega, hid (by rw [vl_self])⟩⟩
    case round =>
      obtain ⟨k, a, ov, rfl, rfl, rfl, hfk, hk, HS, HV0, hor⟩ := hrel
      by_cases hlt : k < xs.length
      · have hix := HIX.out k hlt
        cases hdg : digB (bt xs k) with
        | true =>
          have HS2 : Hid (sc digB xs (k + 1) = sc digB xs i) := hid (by rw [← HS.out, ← sc_step hlt hdg])
          have hd := digB_hx hdg
          have HVS : Hid (vl 10 xs i (k + 1) = vl 10 xs i k * 10 + hx (bt xs k)) := hid (vl_snoc hlt hfk)
          have HV2 : Hid (0 ≤ vl 10 xs i (k + 1)) := hid (by have := HV0.out; have := HVS.out; omega)
          have hc := HHX.out k
          clear hdg
          generalize hx (bt xs k) = d at *
          obtain ⟨hd0, hd1⟩ := hd
          by_cases hgt : (18446744073709551615 - d) / 10 < a
          · have HOV : Hid (18446744073709551616 ≤ vl 10 xs i (k + 1)) := hid (by
              have h1 := HVS.out
              rcases hor with ⟨_, _, _, h2⟩ | ⟨_, h2⟩
              · have := h2.out; omega
              · have := h2.out; omega)
            clear hor
            generalize bt xs k = c at *
            go_wp2_with (go_at_call 33; refine (hc _).mono ?_; rintro e w1 ⟨rfl, rfl⟩)
            all_goals exact ⟨⟨k + 1, _, true, by go_num, rfl, rfl, by omega, by omega, HS2, HV2, .inr ⟨rfl, HOV⟩⟩, by simp [intOf]; omega⟩
          · have HOV : Hid (vl 10 xs i (k + 1) = vl 10 xs i k * 10 + d) := HVS
            rcases hor with ⟨rfl, ha0, ha1, HA⟩ | ⟨rfl, HA⟩
            · have hlim : a * 10 + d ≤ 18446744073709551615 := by omega
              have HA2 : Hid (a * 10 + d = vl 10 xs i (k + 1)) := hid (by rw [HOV.out, ← HA.out])
              have hm0 : 0 ≤ a * 10 := by omega
              generalize bt xs k = c at *
              go_wp2_with (go_at_call 33; refine (hc _).mono ?_; rintro e w1 ⟨rfl, rfl⟩)
              all_goals exact ⟨⟨k + 1, _, false, by go_num, rfl, rfl, by omega, by omega, HS2, HV2, .inl ⟨rfl, by omega, by omega, HA2⟩⟩, by simp [intOf]; omega⟩
            · have HA2 : Hid (18446744073709551616 ≤ vl 10 xs i (k + 1)) := hid (by have := HOV.out; have := HA.out; omega)
              generalize bt xs k = c at *
              go_wp2_with (go_at_call 33; refine (hc _).mono ?_; rintro e w1 ⟨rfl, rfl⟩)
              all_goals exact ⟨⟨k + 1, _, true, by go_num, rfl, rfl, by omega, by omega, HS2, HV2, .inr ⟨rfl, HA2⟩⟩, by simp [intOf]; omega⟩
        | false =>
          have HSE : Hid (sc digB xs i = k) := hid (by rw [← HS.out, sc_stop hdg])
          have hc := HHX.out k
          have hd : hx (bt xs k) < 0 ∨ 9 < hx (bt xs k) := by
            unfold hx; simp [digB] at hdg; (repeat' split) <;> omega
          rcases hd with hd | hd
          all_goals
            clear hdg
            by_cases hkf : k = i
            · have HTB : Hid (tokN xs i = .bad 11) := hid (by rw [HT.out, HSE.out, if_pos (.inl hkf)])
              have hkf2 : ((k : Int) == (i : Int)) = true := by simp; omega
              clear hkf
              go_wp2_with (first | (go_at_call 33; refine (hc _).mono ?_; rintro e w1 ⟨rfl, rfl⟩) | (go_at_call 16; refine (HLE.out k _).mono ?_; rintro e w1 ⟨rfl, rfl⟩) | (go_at_call 17; refine (HDI.out k _).mono ?_; rintro e w1 ⟨rfl, rfl⟩))
              go_ret3
              exact ⟨by rw [HTB.out]; rfl, rfl⟩
            · have hkf2 : ((k : Int) == (i : Int)) = false := by simp; omega
              cases hlt2 : letB (bt xs k) with
              | true =>
                have HTB : Hid (tokN xs i = .bad 11) := hid (by rw [HT.out, HSE.out, if_pos (.inr (by simp [namB, hlt2]))])
                clear hkf
                go_wp2_with (first | (go_at_call 33; refine (hc _).mono ?_; rintro e w1 ⟨rfl, rfl⟩) | (go_at_call 16; refine (HLE.out k _).mono ?_; rintro e w1 ⟨rfl, rfl⟩) | (go_at_call 17; refine (HDI.out k _).mono ?_; rintro e w1 ⟨rfl, rfl⟩))
                go_ret3
                exact ⟨by rw [HTB.out]; rfl, rfl⟩
              | false =>
              cases hdg2 : digB (bt xs k) with
              | true =>
                have HTB : Hid (tokN xs i = .bad 11) := hid (by rw [HT.out, HSE.out, if_pos (.inr (by simp [namB, hdg2]))])
                clear hkf
                go_wp2_with (first | (go_at_call 33; refine (hc _).mono ?_; rintro e w1 ⟨rfl, rfl⟩) | (go_at_call 16; refine (HLE.out k _).mono ?_; rintro e w1 ⟨rfl, rfl⟩) | (go_at_call 17; refine (HDI.out k _).mono ?_; rintro e w1 ⟨rfl, rfl⟩))
                go_ret3
                exact ⟨by rw [HTB.out]; rfl, rfl⟩
              | false =>
              have hnm : namB (bt xs k) = false := by simp [namB, hlt2, hdg2]
              have HT2 : Hid (tokN xs i = if 18446744073709551616 ≤ vl 10 xs i k then .bad 7 else .word 2 k (vl 10 xs i k) []) := hid (by rw [HT.out, HSE.out, if_neg (by simp [hkf, hnm])])
              clear hnm hkf
              rcases hor with ⟨rfl, ha0, ha1, HA⟩ | ⟨rfl, HA⟩
              · have HT3 : Hid (tokN xs i = .word 2 k a []) := hid (by rw [HT2.out, ← HA.out, if_neg (by omega)])
                go_wp2_with (first | (go_at_call 33; refine (hc _).mono ?_; rintro e w1 ⟨rfl, rfl⟩) | (go_at_call 16; refine (HLE.out k _).mono ?_; rintro e w1 ⟨rfl, rfl⟩) | (go_at_call 17; refine (HDI.out k _).mono ?_; rintro e w1 ⟨rfl, rfl⟩))
                go_ret3
                exact ⟨by rw [HT3.out]; rfl, rfl⟩
              · have HT3 : Hid (tokN xs i = .bad 7) := hid (by rw [HT2.out, if_pos HA.out])
                go_wp2_with (first | (go_at_call 33; refine (hc _).mono ?_; rintro e w1 ⟨rfl, rfl⟩) | (go_at_call 16; refine (HLE.out k _).mono ?_; rintro e w1 ⟨rfl, rfl⟩) | (go_at_call 17; refine (HDI.out k _).mono ?_; rintro e w1 ⟨rfl, rfl⟩))
                go_ret3
                exact ⟨by rw [HT3.out]; rfl, rfl⟩
      · have HSE : Hid (sc digB xs i = k) := hid (by rw [← HS.out, sc_end (by omega)])
        have hki : ¬ (k : Int) < (xs.length : Int) := by omega
        by_cases hkf : k = i
        · exfalso
          omega
        · have hkf2 : ((k : Int) == (i : Int)) = false := by simp; omega
          have hnm : namB (bt xs k) = false := by rw [bt_end (by omega)]; rfl
          have HT2 : Hid (tokN xs i = if 18446744073709551616 ≤ vl 10 xs i k then .bad 7 else .word 2 k (vl 10 xs i k) []) := hid (by rw [HT.out, HSE.out, if_neg (by simp [hkf, hnm])])
          clear hnm hkf
          rcases hor with ⟨rfl, ha0, ha1, HA⟩ | ⟨rfl, HA⟩
          · have HT3 : Hid (tokN xs i = .word 2 k a []) := hid (by rw [HT2.out, ← HA.out, if_neg (by omega)])
            go_wp2_with fail
            go_ret3
            exact ⟨by rw [HT3.out]; rfl, rfl⟩
          · have HT3 : Hid (tokN xs i = .bad 7) := hid (by rw [HT2.out, if_pos HA.out])
            go_wp2_with fail
            go_ret3
            exact ⟨by rw [HT3.out]; rfl, rfl⟩

theorem numHexR (hb : ∀ x ∈ xs, 0 ≤ x ∧ x ≤ 255) (hi : i < xs.length) (hl : xs.length ≤ 65536) (hx0 : hxA xs i = true) :
    Calls Tryd.prog 18 #[.string (strOfNums xs), .int .i64 i] w fun e w' => e = numO (tokN xs i) ∧ w = w' := by
  have HIX := hid (fun j (hj : j < xs.length) => bt_index hb j hj .i64)
  have hs : (strOfNums xs).size = xs.length := strOfNums_size xs
  have HHX := hid (fun j W => hexR (bt xs j) W (bt_bd hb j).1 (bt_bd hb j).2)
  have HLE := hid (fun j W => letterR (bt xs j) W)
  have HDI := hid (fun j W => digitR (bt xs j) W)
  have HBD := hid (fun j => bt_bd hb j)
  have hi0 := HIX.out i hi
  have hfs : nfr xs i = (i + 2) := by unfold nfr; rw [hx0]; rfl
  have HT : Hid (tokN xs i = if sc hexB xs (i + 2) = (i + 2) ∨ namB (bt xs (sc hexB xs (i + 2))) = true then .bad 11 else if 18446744073709551616 ≤ vl 16 xs (i + 2) (sc hexB xs (i + 2)) then .bad 7 else .word 2 (sc hexB xs (i + 2)) (vl 16 xs (i + 2) (sc hexB xs (i + 2))) []) := hid (by
    unfold tokN nen ndg nbs
    rw [hfs, hx0]
    rfl)
  have HLN : Hid (xs.length = xs.length) := hid rfl
  have hxx : bt xs i = 48 ∧ bt xs (i + 1) = 120 := by simpa [hxA] using hx0
  have hi1 : i + 1 < xs.length := by
    rcases Nat.lt_or_ge (i + 1) xs.length with h | h
    · exact h
    · have := hxx.2; rw [bt_end h] at this; omega
  have hi0' := HIX.out (i + 1) hi1
  rw [hxx.1] at hi0
  rw [hxx.2, show (((i + 1 : Nat)) : Int) = (i : Int) + 1 by omega] at hi0'
  have hii : (i : Int) + 1 < (xs.length : Int) := by omega
  have hfl : (i + 2) ≤ xs.length := by omega
  clear hxx
  clear hb hfs hx0
  go_enter Tryd.func18, Tryd.ntmps18
  go_wp2
  go_loop [7, 11, 12] (fun vk vn vo => ∃ (k : Nat) (a : Int) (ov : Bool), vk = .int .i64 k ∧ vn = .int .u64 a ∧ vo = .bool ov ∧ (i + 2) ≤ k ∧ k ≤ xs.length ∧ Hid (sc hexB xs k = sc hexB xs (i + 2)) ∧ Hid (0 ≤ vl 16 xs (i + 2) k) ∧ ((ov = false ∧ 0 ≤ a ∧ a ≤ 18446744073709551615 ∧ Hid (a = vl 16 xs (i + 2) k)) ∨ (ov = true ∧ Hid (18446744073709551616 ≤ vl 16 xs (i + 2) k)))) (fun vk _ _ => xs.length - (intOf vk).toNat)
  case atStart => exact ⟨(i + 2), 0, false, by first | rfl | go_num, rfl, rfl, Nat.le_refl _, hfl, hid rfl, hid (by rw [vl_self]; omega), .inl ⟨rfl, by omega, by omega, hid (by rw [vl_self])⟩⟩
  case round =>
    obtain ⟨k, a, ov, rfl, rfl, rfl, hfk, hk, HS, HV0, hor⟩ := hrel
    by_cases hlt : k < xs.length
    · have hix := HIX.out k hlt
      cases hdg : hexB (bt xs k) with
      | true =>
        have HS2 : Hid (sc hexB xs (k + 1) = sc hexB xs (i + 2)) := hid (by rw [← HS.out, ← sc_step hlt hdg])
        have hd := hexB_hx hdg
        have HVS : Hid (vl 16 xs (i + 2) (k + 1) = vl 16 xs (i + 2) k * 16 + hx (bt xs k)) := hid (vl_snoc hlt hfk)
        have HV2 : Hid (0 ≤ vl 16 xs (i + 2) (k + 1)) := hid (by have := HV0.out; have := HVS.out; omega)
        have hc := HHX.out k
        clear hdg
        generalize hx (bt xs k) = d at *
        obtain ⟨hd0, hd1⟩ := hd
        by_cases hgt : (18446744073709551615 - d) / 16 < a
        · have HOV : Hid (18446744073709551616 ≤ vl 16 xs (i + 2) (k + 1)) := hid (by
            have h1 := HVS.out
            rcases hor with ⟨_, _, _, h2⟩ | ⟨_, h2⟩
            · have := h2.out; omega
            · have := h2.out; omega)
          clear hor
          generalize bt xs k = c at *
          go_wp2_with (go_at_call 33; refine (hc _).mono ?_; rintro e w1 ⟨rfl, rfl⟩)
          all_goals exact ⟨⟨k + 1, _, true, by go_num, rfl, rfl, by omega, by omega, HS2, HV2, .inr ⟨rfl, HOV⟩⟩, by simp [intOf]; omega⟩
        · have HOV : Hid (vl 16 xs (i + 2) (k + 1) = vl 16 xs (i + 2) k * 16 + d) := HVS
          rcases hor with ⟨rfl, ha0, ha1, HA⟩ | ⟨rfl, HA⟩
          · have hlim : a * 16 + d ≤ 18446744073709551615 := by omega
            have HA2 : Hid (a * 16 + d = vl 16 xs (i + 2) (k + 1)) := hid (by rw [HOV.out, ← HA.out])
            have hm0 : 0 ≤ a * 16 := by omega
            generalize bt xs k = c at *
            go_wp2_with (go_at_call 33; refine (hc _).mono ?_; rintro e w1 ⟨rfl, rfl⟩)
            all_goals exact ⟨⟨k + 1, _, false, by go_num, rfl, rfl, by omega, by omega, HS2, HV2, .inl ⟨rfl, by omega, by omega, HA2⟩⟩, by simp [intOf]; omega⟩
          · have HA2 : Hid (18446744073709551616 ≤ vl 16 xs (i + 2) (k + 1)) := hid (by have := HOV.out; have := HA.out; omega)
            generalize bt xs k = c at *
            go_wp2_with (go_at_call 33; refine (hc _).mono ?_; rintro e w1 ⟨rfl, rfl⟩)
            all_goals exact ⟨⟨k + 1, _, true, by go_num, rfl, rfl, by omega, by omega, HS2, HV2, .inr ⟨rfl, HA2⟩⟩, by simp [intOf]; omega⟩
      | false =>
        have HSE : Hid (sc hexB xs (i + 2) = k) := hid (by rw [← HS.out, sc_stop hdg])
        have hc := HHX.out k
        have hd : hx (bt xs k) < 0  := by
          simpa [hexB] using hdg
        clear hdg
        by_cases hkf : k = (i + 2)
        · have HTB : Hid (tokN xs i = .bad 11) := hid (by rw [HT.out, HSE.out, if_pos (.inl hkf)])
          have hkf2 : ((k : Int) == ((i : Int) + 2)) = true := by simp; omega
          clear hkf
          go_wp2_with (first | (go_at_call 33; refine (hc _).mono ?_; rintro e w1 ⟨rfl, rfl⟩) | (go_at_call 16; refine (HLE.out k _).mono ?_; rintro e w1 ⟨rfl, rfl⟩) | (go_at_call 17; refine (HDI.out k _).mono ?_; rintro e w1 ⟨rfl, rfl⟩))
          go_ret3
          exact ⟨by rw [HTB.out]; rfl, rfl⟩
        · have hkf2 : ((k : Int) == ((i : Int) + 2)) = false := by simp; omega
          cases hlt2 : letB (bt xs k) with
          | true =>
            have HTB : Hid (tokN xs i = .bad 11) := hid (by rw [HT.out, HSE.out, if_pos (.inr (by simp [namB, hlt2]))])
            clear hkf
            go_wp2_with (first | (go_at_call 33; refine (hc _).mono ?_; rintro e w1 ⟨rfl, rfl⟩) | (go_at_call 16; refine (HLE.out k _).mono ?_; rintro e w1 ⟨rfl, rfl⟩) | (go_at_call 17; refine (HDI.out k _).mono ?_; rintro e w1 ⟨rfl, rfl⟩))
            go_ret3
            exact ⟨by rw [HTB.out]; rfl, rfl⟩
          | false =>
          cases hdg2 : digB (bt xs k) with
          | true =>
            have HTB : Hid (tokN xs i = .bad 11) := hid (by rw [HT.out, HSE.out, if_pos (.inr (by simp [namB, hdg2]))])
            clear hkf
            go_wp2_with (first | (go_at_call 33; refine (hc _).mono ?_; rintro e w1 ⟨rfl, rfl⟩) | (go_at_call 16; refine (HLE.out k _).mono ?_; rintro e w1 ⟨rfl, rfl⟩) | (go_at_call 17; refine (HDI.out k _).mono ?_; rintro e w1 ⟨rfl, rfl⟩))
            go_ret3
            exact ⟨by rw [HTB.out]; rfl, rfl⟩
          | false =>
          have hnm : namB (bt xs k) = false := by simp [namB, hlt2, hdg2]
          have HT2 : Hid (tokN xs i = if 18446744073709551616 ≤ vl 16 xs (i + 2) k then .bad 7 else .word 2 k (vl 16 xs (i + 2) k) []) := hid (by rw [HT.out, HSE.out, if_neg (by simp [hkf, hnm])])
          clear hnm hkf
          rcases hor with ⟨rfl, ha0, ha1, HA⟩ | ⟨rfl, HA⟩
          · have HT3 : Hid (tokN xs i = .word 2 k a []) := hid (by rw [HT2.out, ← HA.out, if_neg (by omega)])
            go_wp2_with (first | (go_at_call 33; refine (hc _).mono ?_; rintro e w1 ⟨rfl, rfl⟩) | (go_at_call 16; refine (HLE.out k _).mono ?_; rintro e w1 ⟨rfl, rfl⟩) | (go_at_call 17; refine (HDI.out k _).mono ?_; rintro e w1 ⟨rfl, rfl⟩))
            go_ret3
            exact ⟨by rw [HT3.out]; rfl, rfl⟩
          · have HT3 : Hid (tokN xs i = .bad 7) := hid (by rw [HT2.out, if_pos HA.out])
            go_wp2_with (first | (go_at_call 33; refine (hc _).mono ?_; rintro e w1 ⟨rfl, rfl⟩) | (go_at_call 16; refine (HLE.out k _).mono ?_; rintro e w1 ⟨rfl, rfl⟩) | (go_at_call 17; refine (HDI.out k _).mono ?_; rintro e w1 ⟨rfl, rfl⟩))
            go_ret3
            exact ⟨by rw [HT3.out]; rfl, rfl⟩
    · have HSE : Hid (sc hexB xs (i + 2) = k) := hid (by rw [← HS.out, sc_end (by omega)])
      have hki : ¬ (k : Int) < (xs.length : Int) := by omega
      by_cases hkf : k = (i + 2)
      · have HTB : Hid (tokN xs i = .bad 11) := hid (by rw [HT.out, HSE.out, if_pos (.inl hkf)])
        have hkf2 : ((k : Int) == ((i : Int) + 2)) = true := by simp; omega
        clear hkf
        go_wp2_with fail
        go_ret3
        exact ⟨by rw [HTB.out]; rfl, rfl⟩
      · have hkf2 : ((k : Int) == ((i : Int) + 2)) = false := by simp; omega
        have hnm : namB (bt xs k) = false := by rw [bt_end (by omega)]; rfl
        have HT2 : Hid (tokN xs i = if 18446744073709551616 ≤ vl 16 xs (i + 2) k then .bad 7 else .word 2 k (vl 16 xs (i + 2) k) []) := hid (by rw [HT.out, HSE.out, if_neg (by simp [hkf, hnm])])
        clear hnm hkf
        rcases hor with ⟨rfl, ha0, ha1, HA⟩ | ⟨rfl, HA⟩
        · have HT3 : Hid (tokN xs i = .word 2 k a []) := hid (by rw [HT2.out, ← HA.out, if_neg (by omega)])
          go_wp2_with fail
          go_ret3
          exact ⟨by rw [HT3.out]; rfl, rfl⟩
        · have HT3 : Hid (tokN xs i = .bad 7) := hid (by rw [HT2.out, if_pos HA.out])
          go_wp2_with fail
          go_ret3
          exact ⟨by rw [HT3.out]; rfl, rfl⟩

theorem numberR (hb : ∀ x ∈ xs, 0 ≤ x ∧ x ≤ 255) (hi : i < xs.length) (hl : xs.length ≤ 65536) :
    Calls Tryd.prog 18 #[.string (strOfNums xs), .int .i64 i] w fun e w' => e = numO (tokN xs i) ∧ w = w' := by
  cases hx : hxA xs i with
  | true => exact numHexR xs i w hb hi hl hx
  | false => exact numTenR xs i w hb hi hl hx
end
end Go.Proofs.YtlkdcdmdkncjoaaDoor
