/-
  Reading digits by base ten and sixteen: the library's ParseUint at rows of digits.
-/
import Derived.Test.YtlkdcdmdkncjoaaDoorYC
import Derived.Lib.ParseIntB
import Derived.Lib.AtoiErrMem
namespace Go.Proofs.YtlkdcdmdkncjoaaDoor
open Go.RowKit Go.Sort
set_option maxRecDepth 1000000
set_option maxHeartbeats 16000000
set_option linter.unusedVariables false

theorem low_hexF : ∀ c : Fin 256, hexB (c.val : Int) = true → ¬ (48 ≤ (c.val : Int) ∧ (c.val : Int) ≤ 57) → (97 ≤ bits .or .u8 (c.val : Int) 32 ∧ bits .or .u8 (c.val : Int) 32 ≤ 102 ∧ hx (c.val : Int) = bits .or .u8 (c.val : Int) 32 - 87) := by decide +kernel
theorem low_hex {c : Int} (h0 : 0 ≤ c) (h1 : c ≤ 255) (hh : hexB c = true) (hd : ¬ (48 ≤ c ∧ c ≤ 57)) : 97 ≤ bits .or .u8 c 32 ∧ bits .or .u8 c 32 ≤ 102 ∧ hx c = bits .or .u8 c 32 - 87 := by
  obtain ⟨m, rfl⟩ := Int.eq_ofNat_of_zero_le h0
  exact low_hexF ⟨m, by omega⟩ hh hd
theorem hx_digit {c : Int} (h : 48 ≤ c ∧ c ≤ 57) : hx c = c - 48 := by unfold hx; rw [if_pos h]
theorem digB_iff {c : Int} : digB c = true ↔ 48 ≤ c ∧ c ≤ 57 := by simp [digB]
theorem digB_hx {c : Int} (h : digB c = true) : 0 ≤ hx c ∧ hx c ≤ 9 := by have := digB_iff.1 h; rw [hx_digit this]; omega
theorem hexB_hx {c : Int} (h : hexB c = true) : 0 ≤ hx c ∧ hx c ≤ 15 := by have h1 := hx_range c; simp [hexB] at h; omega
/-- A row of digits of a base. -/
def digits (B : Int) (xs : List Int) : Prop := ∀ x ∈ xs, 0 ≤ hx x ∧ hx x < B
theorem vlF_ge {B : Int} (hB : 1 ≤ B) : ∀ (xs : List Int) (a : Int), 0 ≤ a → digits B xs → a ≤ vlF B a xs
  | [], a, _, _ => Int.le_refl _
  | c :: r, a, h0, hd => by
    have h1 := hd c (by simp)
    have h2 : a * 1 ≤ a * B := Int.mul_le_mul_of_nonneg_left hB h0
    have h3 := vlF_ge hB r (a * B + hx c) (by omega) (fun x hx => hd x (by simp [hx]))
    show a ≤ vlF B (a * B + hx c) r
    omega
def gotU (v : Int) : Value := if v < 18446744073709551616 then .tuple #[.int .u64 v, .nilIface] else .tuple #[.int .u64 18446744073709551615, .iface 78 (.int .i64 1)]
theorem gotU_ok {v : Int} (h : v < 18446744073709551616) : gotU v = .tuple #[.int .u64 v, .nilIface] := if_pos h
theorem gotU_big {v : Int} (h : 18446744073709551616 ≤ v) : gotU v = .tuple #[.int .u64 18446744073709551615, .iface 78 (.int .i64 1)] := if_neg (by omega)
theorem u64max : IntKind.u64.wrap (IntKind.u64.wrap 18446744073709551616 - 1) = 18446744073709551615 := by
  rw [IntKind.wrap_u64, IntKind.wrap_u64]
  decide

theorem parse10 (xs : List Int) (hb : ∀ x ∈ xs, 0 ≤ x ∧ x ≤ 255) (hd : ∀ x ∈ xs, digB x = true) (hne : xs.length ≠ 0) (hle : xs.length ≤ 65536) (w : World) :
    Calls Tryd.prog 46 #[.string (strOfNums xs), .int .i64 10, .int .i64 64] w fun e w' => e = .returned (gotU (vlF 10 0 xs)) ∧ w' = Lib.bytesWorld w 5 (strOfNums xs) := by
  have hemp : (strOfNums xs).toList.isEmpty = false := by
    rw [str_list]; cases xs with
    | nil => simp at hne
    | cons x r => rfl
  have hmv := u64max
  have hcv := Lib.run_convert_string_bytes (P := Tryd.prog) w 9 30 5 (strOfNums xs) (u := .string) Tryd.underlying9 Tryd.underlying30 Tryd.underlying5
  have hsz : (strOfNums xs).size = xs.length := strOfNums_size xs
  have hB : ∀ j, j < xs.length → (Lib.bytesWorld w 5 (strOfNums xs)).cell? ⟨w.heap.size, j, none⟩ = some (.int .u8 (xs[j]?.getD 0)) := fun j hj => by
    rw [Lib.bytesWorld_cell w 5 (strOfNums xs) j (by rw [hsz]; exact hj), strOfNums_data]
    have hx := hb (xs[j]) (List.getElem_mem hj)
    simp [hj]
    omega
  have HDG : Hid (digits 10 xs) := hid (fun x hx => by have := digB_hx (hd x hx); omega)
  obtain ⟨W1, hW1⟩ : ∃ W1, W1 = Lib.bytesWorld w 5 (strOfNums xs) := ⟨_, rfl⟩
  rw [← hW1] at hcv hB ⊢
  rw [hsz] at hcv
  clear hW1 hsz
  obtain ⟨n0, hn0⟩ : ∃ n0, xs.length = n0 := ⟨_, rfl⟩
  rw [hn0] at hcv hB hle
  go_enter Tryd.func46, Tryd.ntmps46
  go_wp2
  go_loop [12, 13, 101] (fun vu vn vi => ∃ (k : Nat) (a : Int), vu = .bool false ∧ vn = .int .u64 a ∧ vi = .int .i64 k ∧ k ≤ n0 ∧ 0 ≤ a ∧ a ≤ 18446744073709551615 ∧ Hid (vlF 10 a (xs.drop k) = vlF 10 0 xs)) (fun _ _ vi => n0 - (intOf vi).toNat)
  case atStart => exact ⟨0, 0, rfl, rfl, rfl, by omega, by omega, by omega, hid rfl⟩
  case round =>
    obtain ⟨k, a, rfl, rfl, rfl, hk, a0, a1, HP⟩ := hrel
    by_cases hkn : k < n0
    · have hc := hB k hkn
      have hbc := hb (xs[k]'(by omega)) (List.getElem_mem _)
      have hdc := hd (xs[k]'(by omega)) (List.getElem_mem _)
      have hget : xs[k]?.getD 0 = xs[k]'(by omega) := by simp [show k < xs.length by omega]
      have hdrop : xs.drop k = xs[k]'(by omega) :: xs.drop (k + 1) := List.drop_eq_getElem_cons (by omega)
      have hpp := HP.out
      rw [hdrop] at hpp
      rw [hget] at hc
      generalize xs[k]'(by omega) = c at hc hbc hpp hdc
      have hki : (k : Int) < (n0 : Int) := by omega
      obtain ⟨c0, c1⟩ := hbc
      have HV : Hid (vlF 10 (a * 10 + hx c) (xs.drop (k + 1)) = vlF 10 0 xs) := hid hpp
      have HGE : Hid (a * 10 + hx c ≤ vlF 10 0 xs) := hid (by rw [← hpp]; exact vlF_ge (by decide) _ _ (by have := digB_hx hdc; omega) (fun x hx => HDG.out x (List.mem_of_mem_drop hx)))
      have hxb := digB_hx hdc
      clear hget hdrop hpp HP hB hb hd
      have hdig := digB_iff.1 hdc
      obtain ⟨hd0, hd1⟩ := hdig
      rw [hx_digit ⟨hd0, hd1⟩] at HV HGE hxb
      clear hdc hxb
      by_cases hcut : a < 1844674407370955162
      · have hm0 : a * 10 ≤ 18446744073709551610 := by omega
        by_cases hov : a * 10 + (c - 48) < 18446744073709551616
        · go_wp2
          all_goals exact ⟨⟨k + 1, a * 10 + (c - 48), rfl, (by first | rfl | (congr 1; omega)), (by first | rfl | (congr 1; omega)), by omega, by omega, by omega, hid HV.out⟩, by simp [intOf]; omega⟩
        · have hw : (a * 10 + (c - 48)) % 18446744073709551616 = a * 10 + (c - 48) - 18446744073709551616 := by omega
          have HG : Hid (gotU (vlF 10 0 xs) = .tuple #[.int .u64 18446744073709551615, .iface 78 (.int .i64 1)]) := hid (gotU_big (by have := HGE.out; omega))
          have hwl : IntKind.u64.wrap (a * 10 + (c - 48)) < a * 10 := by rw [IntKind.wrap_u64]; omega
          clear hw
          go_wp2
          all_goals go_ret2
          all_goals exact ⟨by rw [HG.out]; rfl, rfl⟩
      · have HG : Hid (gotU (vlF 10 0 xs) = .tuple #[.int .u64 18446744073709551615, .iface 78 (.int .i64 1)]) := hid (gotU_big (by have := HGE.out; omega))
        go_wp2
        all_goals go_ret2
        all_goals exact ⟨by rw [HG.out]; rfl, rfl⟩
    · have hkk : k = n0 := by omega
      subst hkk
      have HG : Hid (gotU (vlF 10 0 xs) = .tuple #[.int .u64 a, .nilIface]) := hid (by rw [← HP.out, List.drop_eq_nil_of_le (by omega)]; exact gotU_ok (by show a < _; omega))
      go_wp2
      go_ret2
      exact ⟨by rw [HG.out]; rfl, rfl⟩

theorem parse16 (xs : List Int) (hb : ∀ x ∈ xs, 0 ≤ x ∧ x ≤ 255) (hd : ∀ x ∈ xs, hexB x = true) (hne : xs.length ≠ 0) (hle : xs.length ≤ 65536) (w : World) :
    Calls Tryd.prog 46 #[.string (strOfNums xs), .int .i64 16, .int .i64 64] w fun e w' => e = .returned (gotU (vlF 16 0 xs)) ∧ w' = Lib.bytesWorld w 5 (strOfNums xs) := by
  have hemp : (strOfNums xs).toList.isEmpty = false := by
    rw [str_list]; cases xs with
    | nil => simp at hne
    | cons x r => rfl
  have hmv := u64max
  have hcv := Lib.run_convert_string_bytes (P := Tryd.prog) w 9 30 5 (strOfNums xs) (u := .string) Tryd.underlying9 Tryd.underlying30 Tryd.underlying5
  have hsz : (strOfNums xs).size = xs.length := strOfNums_size xs
  have hB : ∀ j, j < xs.length → (Lib.bytesWorld w 5 (strOfNums xs)).cell? ⟨w.heap.size, j, none⟩ = some (.int .u8 (xs[j]?.getD 0)) := fun j hj => by
    rw [Lib.bytesWorld_cell w 5 (strOfNums xs) j (by rw [hsz]; exact hj), strOfNums_data]
    have hx := hb (xs[j]) (List.getElem_mem hj)
    simp [hj]
    omega
  have HDG : Hid (digits 16 xs) := hid (fun x hx => by have := hexB_hx (hd x hx); omega)
  obtain ⟨W1, hW1⟩ : ∃ W1, W1 = Lib.bytesWorld w 5 (strOfNums xs) := ⟨_, rfl⟩
  rw [← hW1] at hcv hB ⊢
  rw [hsz] at hcv
  clear hW1 hsz
  obtain ⟨n0, hn0⟩ : ∃ n0, xs.length = n0 := ⟨_, rfl⟩
  rw [hn0] at hcv hB hle
  go_enter Tryd.func46, Tryd.ntmps46
  go_wp2
  go_loop [12, 13, 101] (fun vu vn vi => ∃ (k : Nat) (a : Int), vu = .bool false ∧ vn = .int .u64 a ∧ vi = .int .i64 k ∧ k ≤ n0 ∧ 0 ≤ a ∧ a ≤ 18446744073709551615 ∧ Hid (vlF 16 a (xs.drop k) = vlF 16 0 xs)) (fun _ _ vi => n0 - (intOf vi).toNat)
  case atStart => exact ⟨0, 0, rfl, rfl, rfl, by omega, by omega, by omega, hid rfl⟩
  case round =>
    obtain ⟨k, a, rfl, rfl, rfl, hk, a0, a1, HP⟩ := hrel
    by_cases hkn : k < n0
    · have hc := hB k hkn
      have hbc := hb (xs[k]'(by omega)) (List.getElem_mem _)
      have hdc := hd (xs[k]'(by omega)) (List.getElem_mem _)
      have hget : xs[k]?.getD 0 = xs[k]'(by omega) := by simp [show k < xs.length by omega]
      have hdrop : xs.drop k = xs[k]'(by omega) :: xs.drop (k + 1) := List.drop_eq_getElem_cons (by omega)
      have hpp := HP.out
      rw [hdrop] at hpp
      rw [hget] at hc
      generalize xs[k]'(by omega) = c at hc hbc hpp hdc
      have hki : (k : Int) < (n0 : Int) := by omega
      obtain ⟨c0, c1⟩ := hbc
      have HV : Hid (vlF 16 (a * 16 + hx c) (xs.drop (k + 1)) = vlF 16 0 xs) := hid hpp
      have HGE : Hid (a * 16 + hx c ≤ vlF 16 0 xs) := hid (by rw [← hpp]; exact vlF_ge (by decide) _ _ (by have := hexB_hx hdc; omega) (fun x hx => HDG.out x (List.mem_of_mem_drop hx)))
      have hxb := hexB_hx hdc
      clear hget hdrop hpp HP hB hb hd
      by_cases hdig : 48 ≤ c ∧ c ≤ 57
      · rw [hx_digit hdig] at HV HGE hxb
        obtain ⟨hd0, hd1⟩ := hdig
        clear hdc hxb
        by_cases hcut : a < 1152921504606846976
        · have hm0 : a * 16 ≤ 18446744073709551600 := by omega
          go_wp2
          all_goals exact ⟨⟨k + 1, a * 16 + (c - 48), rfl, (by first | rfl | (congr 1; omega)), (by first | rfl | (congr 1; omega)), by omega, by omega, by omega, hid HV.out⟩, by simp [intOf]; omega⟩
        · have HG : Hid (gotU (vlF 16 0 xs) = .tuple #[.int .u64 18446744073709551615, .iface 78 (.int .i64 1)]) := hid (gotU_big (by have := HGE.out; omega))
          go_wp2
          all_goals go_ret2
          all_goals exact ⟨by rw [HG.out]; rfl, rfl⟩
      · have HLW : Hid (∀ W : World, Calls Tryd.prog 50 #[.int .u8 c] W fun e w' => e = .returned (.int .u8 (bits .or .u8 c 32)) ∧ W = w') := hid (fun W => (Tryd.internal_strconv_lower c W).mono fun e w' h => ⟨h.1, h.2.symm⟩)
        obtain ⟨hl0, hl1, hl2⟩ := low_hex c0 c1 hdc hdig
        have h95 : (c == 95) = false := by
          rw [beq_eq_false_iff_ne]
          intro e
          subst e
          revert hl1
          decide
        rw [hl2] at HV HGE hxb
        clear hl2 hdc hxb
        generalize bits .or .u8 c 32 = L at *
        have hdig2 : c < 48 ∨ 57 < c := by omega
        clear hdig
        rcases hdig2 with hdig | hdig
        all_goals
          by_cases hcut : a < 1152921504606846976
          · have hm0 : a * 16 ≤ 18446744073709551600 := by omega
            go_wp2_with (go_at_call 50; refine (HLW.out _).mono ?_; rintro e w' ⟨rfl, rfl⟩)
            all_goals exact ⟨⟨k + 1, a * 16 + (L - 87), rfl, (by first | rfl | (congr 1; omega)), (by first | rfl | (congr 1; omega)), by omega, by omega, by omega, hid HV.out⟩, by simp [intOf]; omega⟩
          · have HG : Hid (gotU (vlF 16 0 xs) = .tuple #[.int .u64 18446744073709551615, .iface 78 (.int .i64 1)]) := hid (gotU_big (by have := HGE.out; omega))
            go_wp2_with (go_at_call 50; refine (HLW.out _).mono ?_; rintro e w' ⟨rfl, rfl⟩)
            all_goals go_ret2
            all_goals exact ⟨by rw [HG.out]; rfl, rfl⟩
    · have hkk : k = n0 := by omega
      subst hkk
      have HG : Hid (gotU (vlF 16 0 xs) = .tuple #[.int .u64 a, .nilIface]) := hid (by rw [← HP.out, List.drop_eq_nil_of_le (by omega)]; exact gotU_ok (by show a < _; omega))
      go_wp2
      go_ret2
      exact ⟨by rw [HG.out]; rfl, rfl⟩
end Go.Proofs.YtlkdcdmdkncjoaaDoor
