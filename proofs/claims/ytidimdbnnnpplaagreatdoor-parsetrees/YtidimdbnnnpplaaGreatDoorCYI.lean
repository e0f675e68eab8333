/-
  Reading digits by base ten and sixteen: the library's ParseUint at rows of digits.
  The reader's number.
  The reader's text.
-/
import Derived.Test.YtidimdbnnnpplaaGreatDoorCYB
import Derived.Lib.ParseIntB
import Derived.Lib.AtoiErrMem
import Derived.Deep.RegionHeld3
import Derived.Test.YtidimdbnnnpplaaGreatDoorJJ
namespace Go.Proofs.YtidimdbnnnpplaaGreatDoor
open Go.RowKit Go.Sort
set_option maxRecDepth 1000000
set_option maxHeartbeats 16000000
set_option linter.unusedVariables false
theorem low_hexF : ∀ c : Fin 256, hexB (c.val : Int) = true → ¬ (48 ≤ (c.val : Int) ∧ (c.val : Int) ≤ 57) → (97 ≤ bits .or .u8 (c.val : Int) 32 ∧ bits .or .u8 (c.val : Int) 32 ≤ 102 ∧ hx (c.val : Int) = bits .or .u8 (c.val : Int) 32 - 87) := by decide +kernel
theorem low_hex {c : Int} (h0 : 0 ≤ c) (h1 : c ≤ 255) (hh : hexB c = true) (hd : ¬ (48 ≤ c ∧ c ≤ 57)) : 97 ≤ bits .or .u8 c 32 ∧ bits .or .u8 c 32 ≤ 102 ∧ hx c = bits .or .u8 c 32 - 87 := by
  obtain ⟨m, rfl⟩ := Int.eq_ofNat_of_zero_le h0
  exact low_hexF ⟨m, by omega⟩ hh hd
theorem hx_digit {c : Int} (h : 48 ≤ c ∧ c ≤ 57) : hx c = c - 48 := by unfold hx; rw [if_pos h]
theorem digB_iff {c : Int} : digB c = true ↔ 48 ≤ c ∧ c ≤ 57 := by simp [digB]
theorem digB_hx {c : Int} (h : digB c = true) : 0 ≤ hx c ∧ hx c ≤ 9 := by have := digB_iff.1 h; rw [hx_digit this]; omega
theorem hexB_hx {c : Int} (h : hexB c = true) : 0 ≤ hx c ∧ hx c ≤ 15 := by have h1 := hx_range c; simp [hexB] at h; omega
/-- A row of digits of a base. -/
def digits (B : Int) (xs : List Int) : Prop := ∀ x ∈ xs, 0 ≤ hx x ∧ hx x < B
theorem vlF_ge {B : Int} (hB : 1 ≤ B) : ∀ (xs : List Int) (a : Int), 0 ≤ a → digits B xs → a ≤ vlF B a xs
  | [], a, _, _ => Int.le_refl _
  | c :: r, a, h0, hd => by
    have h1 := hd c (by simp)
    have h2 : a * 1 ≤ a * B := Int.mul_le_mul_of_nonneg_left hB h0
    have h3 := vlF_ge hB r (a * B + hx c) (by omega) (fun x hx => hd x (by simp [hx]))
    show a ≤ vlF B (a * B + hx c) r
    omega
def gotU (v : Int) : Value := if v < 18446744073709551616 then .tuple #[.int .u64 v, .nilIface] else .tuple #[.int .u64 18446744073709551615, .iface 219 (.int .i64 1)]
theorem gotU_ok {v : Int} (h : v < 18446744073709551616) : gotU v = .tuple #[.int .u64 v, .nilIface] := if_pos h
theorem gotU_big {v : Int} (h : 18446744073709551616 ≤ v) : gotU v = .tuple #[.int .u64 18446744073709551615, .iface 219 (.int .i64 1)] := if_neg (by omega)
theorem u64max : IntKind.u64.wrap (IntKind.u64.wrap 18446744073709551616 - 1) = 18446744073709551615 := by
  rw [IntKind.wrap_u64, IntKind.wrap_u64]
  decide
theorem parse10 (xs : List Int) (hb : ∀ x ∈ xs, 0 ≤ x ∧ x ≤ 255) (hd : ∀ x ∈ xs, digB x = true) (hne : xs.length ≠ 0) (hle : xs.length ≤ 65536) (w : World) :
    Calls Tryz.prog 114 #[.string (strOfNums xs), .int .i64 10, .int .i64 64] w fun e w' => e = .returned (gotU (vlF 10 0 xs)) ∧ w' = Lib.bytesWorld w 5 (strOfNums xs) := by
  have hemp : (strOfNums xs).toList.isEmpty = false := by
    rw [str_list]; cases xs with
    | nil => simp at hne
    | cons x r => rfl
  have hmv := u64max
  have hcv := Lib.run_convert_string_bytes (P := Tryz.prog) w 9 56 5 (strOfNums xs) (u := .string) Tryz.underlying9 Tryz.underlying56 Tryz.underlying5
  have hsz : (strOfNums xs).size = xs.length := strOfNums_size xs
  have hB : ∀ j, j < xs.length → (Lib.bytesWorld w 5 (strOfNums xs)).cell? ⟨w.heap.size, j, none⟩ = some (.int .u8 (xs[j]?.getD 0)) := fun j hj => by
    rw [Lib.bytesWorld_cell w 5 (strOfNums xs) j (by rw [hsz]; exact hj), strOfNums_data]
    have hx := hb (xs[j]) (List.getElem_mem hj)
    simp [hj]
    omega
  have HDG : Hid (digits 10 xs) := hid (fun x hx => by have := digB_hx (hd x hx); omega)
  obtain ⟨W1, hW1⟩ : ∃ W1, W1 = Lib.bytesWorld w 5 (strOfNums xs) := ⟨_, rfl⟩
  rw [← hW1] at hcv hB ⊢
  rw [hsz] at hcv
  clear hW1 hsz
  obtain ⟨n0, hn0⟩ : ∃ n0, xs.length = n0 := ⟨_, rfl⟩
  rw [hn0] at hcv hB hle
  go_enter Tryz.func114, Tryz.ntmps114
  go_wp2
  go_loop [12, 13, 101] (fun vu vn vi => ∃ (k : Nat) (a : Int), vu = .bool false ∧ vn = .int .u64 a ∧ vi = .int .i64 k ∧ k ≤ n0 ∧ 0 ≤ a ∧ a ≤ 18446744073709551615 ∧ Hid (vlF 10 a (xs.drop k) = vlF 10 0 xs)) (fun _ _ vi => n0 - (intOf vi).toNat)
  case atStart => exact ⟨0, 0, rfl, rfl, rfl, by omega, by omega, by omega, hid rfl⟩
  case round =>
    obtain ⟨k, a, rfl, rfl, rfl, hk, a0, a1, HP⟩ := hrel
    by_cases hkn : k < n0
    · have hc := hB k hkn
      have hbc := hb (xs[k]'(by omega)) (List.getElem_mem _)
      have hdc := hd (xs[k]'(by omega)) (List.getElem_mem _)
      have hget : xs[k]?.getD 0 = xs[k]'(by omega) := by simp [show k < xs.length by omega]
      have hdrop : xs.drop k = xs[k]'(by omega) :: xs.drop (k + 1) := List.drop_eq_getElem_cons (by omega)
      have hpp := HP.out
      rw [hdrop] at hpp
      rw [hget] at hc
      generalize xs[k]'(by omega) = c at hc hbc hpp hdc
      have hki : (k : Int) < (n0 : Int) := by omega
      obtain ⟨c0, c1⟩ := hbc
      have HV : Hid (vlF 10 (a * 10 + hx c) (xs.drop (k + 1)) = vlF 10 0 xs) := hid hpp
      have HGE : Hid (a * 10 + hx c ≤ vlF 10 0 xs) := hid (by rw [← hpp]; exact vlF_ge (by decide) _ _ (by have := digB_hx hdc; omega) (fun x hx => HDG.out x (List.mem_of_mem_drop hx)))
      have hxb := digB_hx hdc
      clear hget hdrop hpp HP hB hb hd
      have hdig := digB_iff.1 hdc
      obtain ⟨hd0, hd1⟩ := hdig
      rw [hx_digit ⟨hd0, hd1⟩] at HV HGE hxb
      clear hdc hxb
      by_cases hcut : a < 1844674407370955162
      · have hm0 : a * 10 ≤ 18446744073709551610 := by omega
        by_cases hov : a * 10 + (c - 48) < 18446744073709551616
        · go_wp2
          all_goals exact ⟨⟨k + 1, a * 10 + (c - 48), rfl, (by first | rfl | (congr 1; omega)), (by first | rfl | (congr 1; omega)), by omega, by omega, by omega, hid HV.out⟩, by simp [intOf]; omega⟩
        · have hw : (a * 10 + (c - 48)) % 18446744073709551616 = a * 10 + (c - 48) - 18446744073709551616 := by omega
          have HG : Hid (gotU (vlF 10 0 xs) = .tuple #[.int .u64 18446744073709551615, .iface 219 (.int .i64 1)]) := hid (gotU_big (by have := HGE.out; omega))
          have hwl : IntKind.u64.wrap (a * 10 + (c - 48)) < a * 10 := by rw [IntKind.wrap_u64]; omega
          clear hw
          go_wp2
          all_goals go_ret2
          all_goals exact ⟨by rw [HG.out]; rfl, rfl⟩
      · have HG : Hid (gotU (vlF 10 0 xs) = .tuple #[.int .u64 18446744073709551615, .iface 219 (.int .i64 1)]) := hid (gotU_big (by have := HGE.out; omega))
        go_wp2
        all_goals go_ret2
        all_goals exact ⟨by rw [HG.out]; rfl, rfl⟩
    · have hkk : k = n0 := by omega
      subst hkk
      have HG : Hid (gotU (vlF 10 0 xs) = .tuple #[.int .u64 a, .nilIface]) := hid (by rw [← HP.out, List.drop_eq_nil_of_le (by omega)]; exact gotU_ok (by show a < _; omega))
      go_wp2
      go_ret2
      exact ⟨by rw [HG.out]; rfl, rfl⟩
theorem parse16 (xs : List Int) (hb : ∀ x ∈ xs, 0 ≤ x ∧ x ≤ 255) (hd : ∀ x ∈ xs, hexB x = true) (hne : xs.length ≠ 0) (hle : xs.length ≤ 65536) (w : World) :
    Calls Tryz.prog 114 #[.string (strOfNums xs), .int .i64 16, .int .i64 64] w fun e w' => e = .returned (gotU (vlF 16 0 xs)) ∧ w' = Lib.bytesWorld w 5 (strOfNums xs) := by
  have hemp : (strOfNums xs).toList.isEmpty = false := by
    rw [str_list]; cases xs with
    | nil => simp at hne
    | cons x r => rfl
  have hmv := u64max
  have hcv := Lib.run_convert_string_bytes (P := Tryz.prog) w 9 56 5 (strOfNums xs) (u := .string) Tryz.underlying9 Tryz.underlying56 Tryz.underlying5
  have hsz : (strOfNums xs).size = xs.length := strOfNums_size xs
  have hB : ∀ j, j < xs.length → (Lib.bytesWorld w 5 (strOfNums xs)).cell? ⟨w.heap.size, j, none⟩ = some (.int .u8 (xs[j]?.getD 0)) := fun j hj => by
    rw [Lib.bytesWorld_cell w 5 (strOfNums xs) j (by rw [hsz]; exact hj), strOfNums_data]
    have hx := hb (xs[j]) (List.getElem_mem hj)
    simp [hj]
    omega
  have HDG : Hid (digits 16 xs) := hid (fun x hx => by have := hexB_hx (hd x hx); omega)
  obtain ⟨W1, hW1⟩ : ∃ W1, W1 = Lib.bytesWorld w 5 (strOfNums xs) := ⟨_, rfl⟩
  rw [← hW1] at hcv hB ⊢
  rw [hsz] at hcv
  clear hW1 hsz
  obtain ⟨n0, hn0⟩ : ∃ n0, xs.length = n0 := ⟨_, rfl⟩
  rw [hn0] at hcv hB hle
  go_enter Tryz.func114, Tryz.ntmps114
  go_wp2
  go_loop [12, 13, 101] (fun vu vn vi => ∃ (k : Nat) (a : Int), vu = .bool false ∧ vn = .int .u64 a ∧ vi = .int .i64 k ∧ k ≤ n0 ∧ 0 ≤ a ∧ a ≤ 18446744073709551615 ∧ Hid (vlF 16 a (xs.drop k) = vlF 16 0 xs)) (fun _ _ vi => n0 - (intOf vi).toNat)
  case atStart => exact ⟨0, 0, rfl, rfl, rfl, by omega, by omega, by omega, hid rfl⟩
  case round =>
    obtain ⟨k, a, rfl, rfl, rfl, hk, a0, a1, HP⟩ := hrel
    by_cases hkn : k < n0
    · have hc := hB k hkn
      have hbc := hb (xs[k]'(by omega)) (List.getElem_mem _)
      have hdc := hd (xs[k]'(by omega)) (List.getElem_mem _)
      have hget : xs[k]?.getD 0 = xs[k]'(by omega) := by simp [show k < xs.length by omega]
      have hdrop : xs.drop k = xs[k]'(by omega) :: xs.drop (k + 1) := List.drop_eq_getElem_cons (by omega)
      have hpp := HP.out
      rw [hdrop] at hpp
      rw [hget] at hc
      generalize xs[k]'(by omega) = c at hc hbc hpp hdc
      have hki : (k : Int) < (n0 : Int) := by omega
      obtain ⟨c0, c1⟩ := hbc
      have HV : Hid (vlF 16 (a * 16 + hx c) (xs.drop (k + 1)) = vlF 16 0 xs) := hid hpp
      have HGE : Hid (a * 16 + hx c ≤ vlF 16 0 xs) := hid (by rw [← hpp]; exact vlF_ge (by decide) _ _ (by have := hexB_hx hdc; omega) (fun x hx => HDG.out x (List.mem_of_mem_drop hx)))
      have hxb := hexB_hx hdc
      clear hget hdrop hpp HP hB hb hd
      by_cases hdig : 48 ≤ c ∧ c ≤ 57
      · rw [hx_digit hdig] at HV HGE hxb
        obtain ⟨hd0, hd1⟩ := hdig
        clear hdc hxb
        by_cases hcut : a < 1152921504606846976
        · have hm0 : a * 16 ≤ 18446744073709551600 := by omega
          go_wp2
          all_goals exact ⟨⟨k + 1, a * 16 + (c - 48), rfl, (by first | rfl | (congr 1; omega)), (by first | rfl | (congr 1; omega)), by omega, by omega, by omega, hid HV.out⟩, by simp [intOf]; omega⟩
        · have HG : Hid (gotU (vlF 16 0 xs) = .tuple #[.int .u64 18446744073709551615, .iface 219 (.int .i64 1)]) := hid (gotU_big (by have := HGE.out; omega))
          go_wp2
          all_goals go_ret2
          all_goals exact ⟨by rw [HG.out]; rfl, rfl⟩
      · have HLW : Hid (∀ W : World, Calls Tryz.prog 134 #[.int .u8 c] W fun e w' => e = .returned (.int .u8 (bits .or .u8 c 32)) ∧ W = w') := hid (fun W => (Tryz.internal_strconv_lower c W).mono fun e w' h => ⟨h.1, h.2.symm⟩)
        obtain ⟨hl0, hl1, hl2⟩ := low_hex c0 c1 hdc hdig
        have h95 : (c == 95) = false := by
          rw [beq_eq_false_iff_ne]
          intro e
          subst e
          revert hl1
          decide
        rw [hl2] at HV HGE hxb
        clear hl2 hdc hxb
        generalize bits .or .u8 c 32 = L at *
        have hdig2 : c < 48 ∨ 57 < c := by omega
        clear hdig
        rcases hdig2 with hdig | hdig
        all_goals
          by_cases hcut : a < 1152921504606846976
          · have hm0 : a * 16 ≤ 18446744073709551600 := by omega
            go_wp2_with (go_at_call 134; refine (HLW.out _).mono ?_; rintro e w' ⟨rfl, rfl⟩)
            all_goals exact ⟨⟨k + 1, a * 16 + (L - 87), rfl, (by first | rfl | (congr 1; omega)), (by first | rfl | (congr 1; omega)), by omega, by omega, by omega, hid HV.out⟩, by simp [intOf]; omega⟩
          · have HG : Hid (gotU (vlF 16 0 xs) = .tuple #[.int .u64 18446744073709551615, .iface 219 (.int .i64 1)]) := hid (gotU_big (by have := HGE.out; omega))
            go_wp2_with (go_at_call 134; refine (HLW.out _).mono ?_; rintro e w' ⟨rfl, rfl⟩)
            all_goals go_ret2
            all_goals exact ⟨by rw [HG.out]; rfl, rfl⟩
    · have hkk : k = n0 := by omega
      subst hkk
      have HG : Hid (gotU (vlF 16 0 xs) = .tuple #[.int .u64 a, .nilIface]) := hid (by rw [← HP.out, List.drop_eq_nil_of_le (by omega)]; exact gotU_ok (by show a < _; omega))
      go_wp2
      go_ret2
      exact ⟨by rw [HG.out]; rfl, rfl⟩
end Go.Proofs.YtidimdbnnnpplaaGreatDoor
namespace Go.Proofs.YtidimdbnnnpplaaGreatDoor
open Go.RowKit
set_option maxRecDepth 1000000
set_option maxHeartbeats 16000000
set_option linter.unusedVariables false
/-- The error's variable can be read. -/
def Sentinel (w : World) (g : Nat) : Prop := ∃ te pe, w.cell? ⟨g, 0, none⟩ = some (.iface te pe)
theorem cell_keep {f : Nat → Prop} {w w' : World} {b o : Nat} {v : Value} (h : w.cell? ⟨b, o, none⟩ = some v) (hb : Keep f w w') (hf : f b) : w'.cell? ⟨b, o, none⟩ = some v := by
  have hlt := World.block_lt_of_cell? _ _ h
  have e : w'.cell? ⟨b, o, none⟩ = w.cell? ⟨b, o, none⟩ := by
    simp only [World.cell?]
    rw [hb.block b hlt hf]
  rw [e]; exact h
theorem Sentinel.keep {f : Nat → Prop} {w w' : World} {g : Nat} (h : Sentinel w g) (hb : Keep f w w') (hf : f g) : Sentinel w' g := by
  obtain ⟨te, pe, h⟩ := h
  exact ⟨te, pe, cell_keep h hb hf⟩
theorem Sentinel.kept {w w' : World} {g : Nat} (h : Sentinel w g) (hb : Below w.heap.size w w') : Sentinel w' g := h.keep (f := fun _ => True) (Keep.ofBelow hb) trivial
/-- A label in the middle: what holds when it is reached. -/
theorem wp_scope_mid {P : Program} {a : Act} {w : World} {Q : Exit → Act → World → Prop} {c X : Code} (J : Nat → Act → World → Prop) (h0 : findLabel c 0 = some (Code.skip.seq X))
    (key : ∀ g a w, J g a w → X.wp P (Exit.jumps (fun l a w => l = 0 ∧ ∃ g', g' < g ∧ J g' a w) Q) a w)
    (first : ∀ R : Exit → Act → World → Prop, (∀ g a w, J g a w → X.wp P R a w) → c.wp P R a w) : (Code.scope c).wp P Q a w := by
  refine wp_scope_one J h0 (first _ fun g a w h => wp_mono (key g a w h) ?_) (fun g a w h => wp_seq (wp_skip (key g a w h)))
  intro e a w h
  cases e <;> first | exact h | (obtain ⟨h1, g, h2, h3⟩ := h; exact ⟨h1, g, h3⟩)
theorem parse10P (xs : List Int) (hb : ∀ x ∈ xs, 0 ≤ x ∧ x ≤ 255) (hd : ∀ x ∈ xs, digB x = true) (hne : xs.length ≠ 0) (hle : xs.length ≤ 65536) (w : World) (hs : Sentinel w 3) :
    Calls Tryz.prog 96 #[.string (strOfNums xs), .int .i64 10, .int .i64 64] w fun e w' => (∃ n er, e = .returned (.tuple #[.int .u64 n, er]) ∧ ((vlF 10 0 xs < 18446744073709551616 ∧ n = vlF 10 0 xs ∧ er = .nilIface) ∨ (18446744073709551616 ≤ vlF 10 0 xs ∧ ∃ t v, er = .iface t v))) ∧ Below w.heap.size w w' := by
  have HC := hid (parse10 xs hb hd hne hle w)
  have hbw := Lib.bytesWorld_below w 5 (strOfNums xs)
  have HS := hid (hs.kept hbw)
  have HB := hid hbw
  have hsz : (strOfNums xs).size ≤ 281474976710656 := by rw [strOfNums_size]; omega
  generalize Lib.bytesWorld w 5 (strOfNums xs) = W1 at HC HS HB
  clear hbw
  by_cases hv : vlF 10 0 xs < 18446744073709551616
  · rw [gotU_ok hv] at HC
    have HV := hid hv
    generalize vlF 10 0 xs = v at *
    clear hv
    go_enter Tryz.func96, Tryz.ntmps96
    go_wp2_with (go_at_call 114; refine HC.out.mono ?_; rintro e w' ⟨rfl, rfl⟩)
    go_ret2
    exact ⟨⟨_, _, rfl, .inl ⟨HV.out, rfl, rfl⟩⟩, HB.out⟩
  · rw [gotU_big (by omega)] at HC
    have HV : Hid (18446744073709551616 ≤ vlF 10 0 xs) := hid (by omega)
    generalize vlF 10 0 xs = v at *
    obtain ⟨te, pe, hvv⟩ := HS.out
    have HT := hid (Tryz.strconv_toError_range ⟨#[80, 97, 114, 115, 101, 85, 105, 110, 116]⟩ (strOfNums xs) 10 64 (.iface te pe) W1 hsz hvv (.inr ⟨te, pe, rfl⟩))
    clear hvv hv
    go_enter Tryz.func96, Tryz.ntmps96
    go_wp2_with (first | (go_at_call 114; refine HC.out.mono ?_; rintro e w' ⟨rfl, rfl⟩) | (go_at_call 115; refine HT.out.mono ?_; rintro e w' ⟨N, rfl, _, _, hb2⟩; replace hb2 := hid hb2))
    go_ret2
    exact ⟨⟨_, _, rfl, .inr ⟨HV.out, _, _, rfl⟩⟩, below_trans HB.out hb2.out⟩
theorem parse16P (xs : List Int) (hb : ∀ x ∈ xs, 0 ≤ x ∧ x ≤ 255) (hd : ∀ x ∈ xs, hexB x = true) (hne : xs.length ≠ 0) (hle : xs.length ≤ 65536) (w : World) (hs : Sentinel w 3) :
    Calls Tryz.prog 96 #[.string (strOfNums xs), .int .i64 16, .int .i64 64] w fun e w' => (∃ n er, e = .returned (.tuple #[.int .u64 n, er]) ∧ ((vlF 16 0 xs < 18446744073709551616 ∧ n = vlF 16 0 xs ∧ er = .nilIface) ∨ (18446744073709551616 ≤ vlF 16 0 xs ∧ ∃ t v, er = .iface t v))) ∧ Below w.heap.size w w' := by
  have HC := hid (parse16 xs hb hd hne hle w)
  have hbw := Lib.bytesWorld_below w 5 (strOfNums xs)
  have HS := hid (hs.kept hbw)
  have HB := hid hbw
  have hsz : (strOfNums xs).size ≤ 281474976710656 := by rw [strOfNums_size]; omega
  generalize Lib.bytesWorld w 5 (strOfNums xs) = W1 at HC HS HB
  clear hbw
  by_cases hv : vlF 16 0 xs < 18446744073709551616
  · rw [gotU_ok hv] at HC
    have HV := hid hv
    generalize vlF 16 0 xs = v at *
    clear hv
    go_enter Tryz.func96, Tryz.ntmps96
    go_wp2_with (go_at_call 114; refine HC.out.mono ?_; rintro e w' ⟨rfl, rfl⟩)
    go_ret2
    exact ⟨⟨_, _, rfl, .inl ⟨HV.out, rfl, rfl⟩⟩, HB.out⟩
  · rw [gotU_big (by omega)] at HC
    have HV : Hid (18446744073709551616 ≤ vlF 16 0 xs) := hid (by omega)
    generalize vlF 16 0 xs = v at *
    obtain ⟨te, pe, hvv⟩ := HS.out
    have HT := hid (Tryz.strconv_toError_range ⟨#[80, 97, 114, 115, 101, 85, 105, 110, 116]⟩ (strOfNums xs) 16 64 (.iface te pe) W1 hsz hvv (.inr ⟨te, pe, rfl⟩))
    clear hvv hv
    go_enter Tryz.func96, Tryz.ntmps96
    go_wp2_with (first | (go_at_call 114; refine HC.out.mono ?_; rintro e w' ⟨rfl, rfl⟩) | (go_at_call 115; refine HT.out.mono ?_; rintro e w' ⟨N, rfl, _, _, hb2⟩; replace hb2 := hid hb2))
    go_ret2
    exact ⟨⟨_, _, rfl, .inr ⟨HV.out, _, _, rfl⟩⟩, below_trans HB.out hb2.out⟩
section
variable (p : Nat) (xs : List Int) (fr : Nat) (bl bc : Int) (i : Nat) (kept : Value) (w : World)
theorem numberTen (base : Nat) (ws : List (Mw × Value)) (hb : ∀ x ∈ xs, 0 ≤ x ∧ x ≤ 255) (hf : fr = i) (hi : i < xs.length) (hl : xs.length ≤ 65536) (h : Rd w p xs fr bl bc i kept) (hk : Kp w base p 159 kept ws) (hbase : base ≤ w.heap.size) (hn : ws.length ≤ 70000) (hs : Sentinel w 3) (hp : p ≠ 3) (hx0 : hxA xs i = false) :
    Calls Tryz.prog 72 #[.pointer (some ⟨p, 0, none⟩)] w fun e w' => Went base xs p fr bl bc kept ws w (tokN xs i) e w' := by
  have HPA := hid (fun W j (hj : j < xs.length) (g1 : Rd W p xs fr bl bc j kept) => passW p xs fr bl bc j kept W hb hj hl g1)
  have HPE := hid (fun W j (hj : j ≤ xs.length) (g1 : Rd W p xs fr bl bc j kept) => peekW p xs fr bl bc j kept W hb hj hl g1)
  have HRE := hid (fun W j (hj : j ≤ xs.length) (g1 : Rd W p xs fr bl bc j kept) => restW p xs fr bl bc j kept W hj hl g1)
  have HPX := hid (fun W => prefixHex xs i W hb (by omega))
  rw [hx0] at HPX
  have HIN := hid (fun W j => inNameW (bt xs j) (bt_bd hb j).1 (bt_bd hb j).2 W)
  have HSE := hid (fun W j => tenW (bt xs j) (bt_bd hb j).1 (bt_bd hb j).2 W)
  have HK := hid hk
  have HBS := hid hbase
  have HR := hid h
  have HSN := hid hs
  have HNP := hid hp
  obtain ⟨fs, hfs⟩ : ∃ fs, nfr xs i = fs := ⟨_, rfl⟩
  have hfs2 : fs = i + 0 := by rw [← hfs]; unfold nfr; rw [hx0]; rfl
  have HT : Hid (tokN xs i = if sc digB xs fs = fs ∨ namB (bt xs (sc digB xs fs)) = true then .bad 11 else if 18446744073709551616 ≤ vl 10 xs fs (sc digB xs fs) then .bad 7 else .word 2 (sc digB xs fs) (vl 10 xs fs (sc digB xs fs)) []) := hid (by
    unfold tokN nen ndg nbs
    rw [hfs, hx0]
    rfl)
  have HPU := hid (fun W k (hk1 : fs < k) (hk2 : k ≤ xs.length) (hd : ∀ x ∈ cut xs fs k, digB x = true) (g : Sentinel W 3) => parse10P (cut xs fs k) (cut_bd hb fs k) hd (by rw [cut_length _ _ _ hk2]; omega) (by rw [cut_length _ _ _ hk2]; omega) W g)
  have H2 := hid (fun W j (nn : Int) (hj : j ≤ xs.length) (hfj : fr ≤ j) (g1 : Rd W p xs fr bl bc j kept) (g2 : Kp W base p 159 kept ws) (g3 : base ≤ W.heap.size) => keepW p xs fr bl bc j kept W base ws 2 nn [] none 0 hfj hj hl g1 g2 g3 hn (reads_nil _) (fun y hy => by cases hy))
  have HZ : Hid (∀ k, strOfNums (cut xs fs k) = (strOfNums xs).extract fs k) := hid (fun k => (str_cut xs fs k).symm)
  have HSZ : Hid ((strOfNums xs).size = xs.length) := hid (strOfNums_size xs)
  have HFS := hid hfs2
  have HFR := hid hf
  have hfs3 : i ≤ fs := by omega
  have hfr3 : fr ≤ fs := by omega
  clear hb h hk hbase hn hs hp hfs hx0 hfs2 hf
  go_enter Tryz.func72, Tryz.ntmps72
  go_wp2
  refine wp_scope_mid (fun g a' w' => ∃ (j : Nat) (u1 u2 u6 u7 u8 u9 u10 u11 u12 u13 u14 u15 u16 u17 u18 u19 u20 u21 u22 u23 u24 u25 u26 u27 u28 u29 u30 u31 u32 u33 u34 u35 u36 u37 u38 u39 u40 u41 u42 u43 u44 u45 u46 u47 u48 u49 u50 u51 u52 u53 u54 : Value), a' = { tmps := List.toArray (.pointer (some ⟨p, 0, none⟩) :: u1 :: u2 :: .int .i64 10 :: .string ⟨#[48, 49, 50, 51, 52, 53, 54, 55, 56, 57]⟩ :: .int .i64 (fs : Nat) :: u6 :: u7 :: u8 :: u9 :: u10 :: u11 :: u12 :: u13 :: u14 :: u15 :: u16 :: u17 :: u18 :: u19 :: u20 :: u21 :: u22 :: u23 :: u24 :: u25 :: u26 :: u27 :: u28 :: u29 :: u30 :: u31 :: u32 :: u33 :: u34 :: u35 :: u36 :: u37 :: u38 :: u39 :: u40 :: u41 :: u42 :: u43 :: u44 :: u45 :: u46 :: u47 :: u48 :: u49 :: u50 :: u51 :: u52 :: u53 :: u54 :: []), defers := [] } ∧ fs ≤ j ∧ j ≤ xs.length ∧ g = xs.length - j ∧ Hid (Rd w' p xs fr bl bc j kept) ∧ Hid (Keep (· ≠ p) w w') ∧ Hid (sc digB xs j = sc digB xs fs) ∧ Hid (∀ x ∈ cut xs fs j, digB x = true)) rfl ?_ ?_
  · rintro g a' w' ⟨j, u1, u2, u6, u7, u8, u9, u10, u11, u12, u13, u14, u15, u16, u17, u18, u19, u20, u21, u22, u23, u24, u25, u26, u27, u28, u29, u30, u31, u32, u33, u34, u35, u36, u37, u38, u39, u40, u41, u42, u43, u44, u45, u46, u47, u48, u49, u50, u51, u52, u53, u54, rfl, hij, hj, rfl, R0, K0, S0, D0⟩
    go_wp2_with fail
    refine (HPE.out _ j hj R0.out).mono ?_
    rintro e w1 ⟨rfl, B1⟩
    have HR1 := hid (R0.out.kept B1)
    have HK1 := hid (K0.out.trans (Keep.ofBelow B1))
    clear B1
    go_wp2_with fail
    refine (HSE.out _ j).mono ?_
    rintro e w1' ⟨rfl, rfl⟩
    cases hdg : digB (bt xs j) with
    | true =>
      have hjl : j < xs.length := by
        rcases Nat.lt_or_ge j xs.length with h | h
        · exact h
        · rw [bt_end h] at hdg; cases hdg
      have HS : Hid (sc digB xs (j + 1) = sc digB xs fs) := hid (by rw [← S0.out, ← sc_step hjl hdg])
      have HD : Hid (∀ x ∈ cut xs fs (j + 1), digB x = true) := hid (fun x hx => by
        rw [cut_snoc hjl hij] at hx
        rcases List.mem_append.1 hx with h | h
        · exact D0.out x h
        · simp at h; subst h; exact hdg)
      go_wp2_with fail
      refine (HPA.out _ j hjl HR1.out).mono ?_
      rintro e w3 ⟨rfl, R3, K3⟩
      have HR3 := hid R3
      have HK3 := hid (HK1.out.trans K3)
      clear R3 K3
      go_wp2
      go_step3
      exact ⟨rfl, xs.length - (j + 1), by omega, j + 1, _, _, _, _, _, _, _, _, _, _, _, _, _, _, _, _, _, _, _, _, _, _, _, _, _, _, _, _, _, _, _, _, _, _, _, _, _, _, _, _, _, _, _, _, _, _, _, _, _, _, _, rfl, by omega, by omega, rfl, HR3, HK3, HS, HD⟩
    | false =>
      have HS : Hid (sc digB xs fs = j) := hid (by rw [← S0.out, sc_stop hdg])
      obtain ⟨c0, c1, c2, c3, c4, c5, c6, c7⟩ := HR1.out.cells
      by_cases hjf : j = fs
      · have HTB : Hid (tokN xs i = .bad 11) := hid (by rw [HT.out, HS.out, if_pos (.inl hjf)])
        have hjf2 : ((j : Int) == (fs : Int)) = true := by simp; omega
        clear hjf
        go_wp2
        simp only [Exit.jumps]
        go_ret
        rw [HTB.out]
        exact ⟨rfl, _, HR1.out, HK1.out⟩
      · have hjf2 : ((j : Int) == (fs : Int)) = false := by simp; omega
        go_wp2_with fail
        refine (HPE.out _ j hj HR1.out).mono ?_
        rintro e w2 ⟨rfl, B2⟩
        have HR2 := hid (HR1.out.kept B2)
        have HK2 := hid (HK1.out.trans (Keep.ofBelow B2))
        clear B2
        go_wp2_with fail
        refine (HIN.out _ j).mono ?_
        rintro e w2' ⟨rfl, rfl⟩
        cases hnm : namB (bt xs j) with
        | true =>
          have HTB : Hid (tokN xs i = .bad 11) := hid (by rw [HT.out, HS.out, if_pos (.inr hnm)])
          go_wp2
          simp only [Exit.jumps]
          go_ret
          rw [HTB.out]
          exact ⟨rfl, _, HR2.out, HK2.out⟩
        | false =>
          have HT2 : Hid (tokN xs i = if 18446744073709551616 ≤ vl 10 xs fs j then .bad 7 else .word 2 j (vl 10 xs fs j) []) := hid (by rw [HT.out, HS.out, if_neg (by simp [hjf, hnm])])
          have hcut := (HZ.out j).symm
          have hsz := HSZ.out
          have hj1 : (j : Int) ≤ (xs.length : Int) := by omega
          have hj2 : (fs : Int) ≤ (j : Int) := by omega
          clear c0 c1 c2 c3 c4 c5 c6 c7
          obtain ⟨c0, c1, c2, c3, c4, c5, c6, c7⟩ := HR2.out.cells
          have HQ := hid (fun W (hW : Below w2.heap.size w2 W) => HPU.out W j (by omega) hj D0.out (HSN.out.keep (HK2.out.trans (Keep.ofBelow hW)) HNP.out.symm))
          clear c1 c3 c4 c5 c6 c7 HT hjf
          go_wp2_with fail
          go_region_held3 (fun w' => w'.cell? ⟨p, 0, none⟩ = some (.string (strOfNums xs)) ∧ w'.cell? ⟨p, 2, none⟩ = some (.int .i64 j)) (go_keep) (first | (go_at_call 96; refine (HQ.out _ (by first | exact below_drew1 _ | exact Below.refl _ _)).mono ?_; rintro e w3 ⟨⟨nn, er, rfl, hor⟩, B3⟩; have d0 : w3.cell? ⟨p, 0, none⟩ = some (.string (strOfNums xs)) := (HR2.out.kept (below_trans (below_drew1 _) B3)).cells.1; have d2 : w3.cell? ⟨p, 2, none⟩ = some (.int .i64 j) := (HR2.out.kept (below_trans (below_drew1 _) B3)).cells.2.2.1; replace B3 := hid B3))
          have HR3 := hid (HR2.out.kept (below_trans (below_drew1 _) B3.out))
          have HK3 := hid (HK2.out.trans (Keep.ofBelow (below_trans (below_drew1 _) B3.out)))
          clear d0 d2 B3 c0 c2
          rcases hor with ⟨hv, rfl, rfl⟩ | ⟨hv, t, v, rfl⟩
          · have HT3 : Hid (tokN xs i = .word 2 j (vlF 10 0 (cut xs fs j)) []) := hid (by rw [HT2.out, if_neg (by unfold vl; omega)]; rfl)
            generalize vlF 10 0 (cut xs fs j) = nn at *
            clear hv
            go_wp2_with fail
            refine (H2.out _ j nn hj (by omega) HR3.out (HK.out.keep HK3.out) (Nat.le_trans HBS.out HK3.out.size)).mono ?_
            rintro e w4 ⟨rfl, kept', R4, K4, B4⟩
            have HH : Hid (Took base xs p fr bl bc kept ws w 2 j nn [] w4) := hid ⟨kept', _, R4, K4, (keep_weak HK3.out).trans B4⟩
            clear R4 K4 B4
            go_wp2
            simp only [Exit.jumps]
            go_ret
            rw [HT3.out]
            exact ⟨rfl, HH.out⟩
          · have HT3 : Hid (tokN xs i = .bad 7) := hid (by rw [HT2.out, if_pos (by unfold vl; omega)])
            clear hv
            go_wp2
            simp only [Exit.jumps]
            go_ret
            rw [HT3.out]
            exact ⟨rfl, _, HR3.out, HK3.out⟩
  · intro R hX
    go_wp2_with fail
    refine (HRE.out _ i (by omega) HR.out).mono ?_
    rintro e w1 ⟨rfl, B1⟩
    have HR1 := hid (HR.out.kept B1)
    have HK1 := hid (Keep.ofBelow (f := (· ≠ p)) B1)
    clear B1
    go_wp2_with fail
    refine (HPX.out _).mono ?_
    rintro e w1' ⟨rfl, rfl⟩
    obtain ⟨c0, c1, c2, c3, c4, c5, c6, c7⟩ := HR1.out.cells
    go_wp2
    rename_i K hK
    refine wp_label (hK _ _ (hX (xs.length - fs) _ _ ⟨fs, _, _, _, _, _, _, _, _, _, _, _, _, _, _, _, _, _, _, _, _, _, _, _, _, _, _, _, _, _, _, _, _, _, _, _, _, _, _, _, _, _, _, _, _, _, _, _, _, _, _, _, (by rw [HFS.out]; rfl), Nat.le_refl _, (by have := HFS.out; omega), rfl, hid (by rw [HFS.out]; exact HR1.out), HK1, hid rfl, hid (by rw [cut_nil]; simp)⟩))
theorem numberHex (base : Nat) (ws : List (Mw × Value)) (hb : ∀ x ∈ xs, 0 ≤ x ∧ x ≤ 255) (hf : fr = i) (hi : i < xs.length) (hl : xs.length ≤ 65536) (h : Rd w p xs fr bl bc i kept) (hk : Kp w base p 159 kept ws) (hbase : base ≤ w.heap.size) (hn : ws.length ≤ 70000) (hs : Sentinel w 3) (hp : p ≠ 3) (hx0 : hxA xs i = true) :
    Calls Tryz.prog 72 #[.pointer (some ⟨p, 0, none⟩)] w fun e w' => Went base xs p fr bl bc kept ws w (tokN xs i) e w' := by
  have HPA := hid (fun W j (hj : j < xs.length) (g1 : Rd W p xs fr bl bc j kept) => passW p xs fr bl bc j kept W hb hj hl g1)
  have HPE := hid (fun W j (hj : j ≤ xs.length) (g1 : Rd W p xs fr bl bc j kept) => peekW p xs fr bl bc j kept W hb hj hl g1)
  have HRE := hid (fun W j (hj : j ≤ xs.length) (g1 : Rd W p xs fr bl bc j kept) => restW p xs fr bl bc j kept W hj hl g1)
  have HPX := hid (fun W => prefixHex xs i W hb (by omega))
  rw [hx0] at HPX
  have HIN := hid (fun W j => inNameW (bt xs j) (bt_bd hb j).1 (bt_bd hb j).2 W)
  have HSE := hid (fun W j => sixteenW (bt xs j) (bt_bd hb j).1 (bt_bd hb j).2 W)
  have HK := hid hk
  have HBS := hid hbase
  have HR := hid h
  have HSN := hid hs
  have HNP := hid hp
  obtain ⟨fs, hfs⟩ : ∃ fs, nfr xs i = fs := ⟨_, rfl⟩
  have hfs2 : fs = i + 2 := by rw [← hfs]; unfold nfr; rw [hx0]; rfl
  have HT : Hid (tokN xs i = if sc hexB xs fs = fs ∨ namB (bt xs (sc hexB xs fs)) = true then .bad 11 else if 18446744073709551616 ≤ vl 16 xs fs (sc hexB xs fs) then .bad 7 else .word 2 (sc hexB xs fs) (vl 16 xs fs (sc hexB xs fs)) []) := hid (by
    unfold tokN nen ndg nbs
    rw [hfs, hx0]
    rfl)
  have HPU := hid (fun W k (hk1 : fs < k) (hk2 : k ≤ xs.length) (hd : ∀ x ∈ cut xs fs k, hexB x = true) (g : Sentinel W 3) => parse16P (cut xs fs k) (cut_bd hb fs k) hd (by rw [cut_length _ _ _ hk2]; omega) (by rw [cut_length _ _ _ hk2]; omega) W g)
  have H2 := hid (fun W j (nn : Int) (hj : j ≤ xs.length) (hfj : fr ≤ j) (g1 : Rd W p xs fr bl bc j kept) (g2 : Kp W base p 159 kept ws) (g3 : base ≤ W.heap.size) => keepW p xs fr bl bc j kept W base ws 2 nn [] none 0 hfj hj hl g1 g2 g3 hn (reads_nil _) (fun y hy => by cases hy))
  have hi1 : i + 1 < xs.length := by
    rcases Nat.lt_or_ge (i + 1) xs.length with h | h
    · exact h
    · simp [hxA, bt_end h] at hx0
  have HTW := hid (fun W (g1 : Rd W p xs fr bl bc i kept) => passTwoW p xs fr bl bc i kept W ⟨#[48, 120]⟩ rfl hb hi1 hl g1)
  have HZ : Hid (∀ k, strOfNums (cut xs fs k) = (strOfNums xs).extract fs k) := hid (fun k => (str_cut xs fs k).symm)
  have HSZ : Hid ((strOfNums xs).size = xs.length) := hid (strOfNums_size xs)
  have HFS := hid hfs2
  have HFR := hid hf
  have hfs3 : i ≤ fs := by omega
  have hfr3 : fr ≤ fs := by omega
  clear hb h hk hbase hn hs hp hfs hx0 hfs2 hf
  go_enter Tryz.func72, Tryz.ntmps72
  go_wp2
  refine wp_scope_mid (fun g a' w' => ∃ (j : Nat) (u1 u2 u6 u7 u8 u9 u10 u11 u12 u13 u14 u15 u16 u17 u18 u19 u20 u21 u22 u23 u24 u25 u26 u27 u28 u29 u30 u31 u32 u33 u34 u35 u36 u37 u38 u39 u40 u41 u42 u43 u44 u45 u46 u47 u48 u49 u50 u51 u52 u53 u54 : Value), a' = { tmps := List.toArray (.pointer (some ⟨p, 0, none⟩) :: u1 :: u2 :: .int .i64 16 :: .string ⟨#[48, 49, 50, 51, 52, 53, 54, 55, 56, 57, 97, 98, 99, 100, 101, 102, 65, 66, 67, 68, 69, 70]⟩ :: .int .i64 (fs : Nat) :: u6 :: u7 :: u8 :: u9 :: u10 :: u11 :: u12 :: u13 :: u14 :: u15 :: u16 :: u17 :: u18 :: u19 :: u20 :: u21 :: u22 :: u23 :: u24 :: u25 :: u26 :: u27 :: u28 :: u29 :: u30 :: u31 :: u32 :: u33 :: u34 :: u35 :: u36 :: u37 :: u38 :: u39 :: u40 :: u41 :: u42 :: u43 :: u44 :: u45 :: u46 :: u47 :: u48 :: u49 :: u50 :: u51 :: u52 :: u53 :: u54 :: []), defers := [] } ∧ fs ≤ j ∧ j ≤ xs.length ∧ g = xs.length - j ∧ Hid (Rd w' p xs fr bl bc j kept) ∧ Hid (Keep (· ≠ p) w w') ∧ Hid (sc hexB xs j = sc hexB xs fs) ∧ Hid (∀ x ∈ cut xs fs j, hexB x = true)) rfl ?_ ?_
  · rintro g a' w' ⟨j, u1, u2, u6, u7, u8, u9, u10, u11, u12, u13, u14, u15, u16, u17, u18, u19, u20, u21, u22, u23, u24, u25, u26, u27, u28, u29, u30, u31, u32, u33, u34, u35, u36, u37, u38, u39, u40, u41, u42, u43, u44, u45, u46, u47, u48, u49, u50, u51, u52, u53, u54, rfl, hij, hj, rfl, R0, K0, S0, D0⟩
    go_wp2_with fail
    refine (HPE.out _ j hj R0.out).mono ?_
    rintro e w1 ⟨rfl, B1⟩
    have HR1 := hid (R0.out.kept B1)
    have HK1 := hid (K0.out.trans (Keep.ofBelow B1))
    clear B1
    go_wp2_with fail
    refine (HSE.out _ j).mono ?_
    rintro e w1' ⟨rfl, rfl⟩
    cases hdg : hexB (bt xs j) with
    | true =>
      have hjl : j < xs.length := by
        rcases Nat.lt_or_ge j xs.length with h | h
        · exact h
        · rw [bt_end h] at hdg; cases hdg
      have HS : Hid (sc hexB xs (j + 1) = sc hexB xs fs) := hid (by rw [← S0.out, ← sc_step hjl hdg])
      have HD : Hid (∀ x ∈ cut xs fs (j + 1), hexB x = true) := hid (fun x hx => by
        rw [cut_snoc hjl hij] at hx
        rcases List.mem_append.1 hx with h | h
        · exact D0.out x h
        · simp at h; subst h; exact hdg)
      go_wp2_with fail
      refine (HPA.out _ j hjl HR1.out).mono ?_
      rintro e w3 ⟨rfl, R3, K3⟩
      have HR3 := hid R3
      have HK3 := hid (HK1.out.trans K3)
      clear R3 K3
      go_wp2
      go_step3
      exact ⟨rfl, xs.length - (j + 1), by omega, j + 1, _, _, _, _, _, _, _, _, _, _, _, _, _, _, _, _, _, _, _, _, _, _, _, _, _, _, _, _, _, _, _, _, _, _, _, _, _, _, _, _, _, _, _, _, _, _, _, _, _, _, _, rfl, by omega, by omega, rfl, HR3, HK3, HS, HD⟩
    | false =>
      have HS : Hid (sc hexB xs fs = j) := hid (by rw [← S0.out, sc_stop hdg])
      obtain ⟨c0, c1, c2, c3, c4, c5, c6, c7⟩ := HR1.out.cells
      by_cases hjf : j = fs
      · have HTB : Hid (tokN xs i = .bad 11) := hid (by rw [HT.out, HS.out, if_pos (.inl hjf)])
        have hjf2 : ((j : Int) == (fs : Int)) = true := by simp; omega
        clear hjf
        go_wp2
        simp only [Exit.jumps]
        go_ret
        rw [HTB.out]
        exact ⟨rfl, _, HR1.out, HK1.out⟩
      · have hjf2 : ((j : Int) == (fs : Int)) = false := by simp; omega
        go_wp2_with fail
        refine (HPE.out _ j hj HR1.out).mono ?_
        rintro e w2 ⟨rfl, B2⟩
        have HR2 := hid (HR1.out.kept B2)
        have HK2 := hid (HK1.out.trans (Keep.ofBelow B2))
        clear B2
        go_wp2_with fail
        refine (HIN.out _ j).mono ?_
        rintro e w2' ⟨rfl, rfl⟩
        cases hnm : namB (bt xs j) with
        | true =>
          have HTB : Hid (tokN xs i = .bad 11) := hid (by rw [HT.out, HS.out, if_pos (.inr hnm)])
          go_wp2
          simp only [Exit.jumps]
          go_ret
          rw [HTB.out]
          exact ⟨rfl, _, HR2.out, HK2.out⟩
        | false =>
          have HT2 : Hid (tokN xs i = if 18446744073709551616 ≤ vl 16 xs fs j then .bad 7 else .word 2 j (vl 16 xs fs j) []) := hid (by rw [HT.out, HS.out, if_neg (by simp [hjf, hnm])])
          have hcut := (HZ.out j).symm
          have hsz := HSZ.out
          have hj1 : (j : Int) ≤ (xs.length : Int) := by omega
          have hj2 : (fs : Int) ≤ (j : Int) := by omega
          clear c0 c1 c2 c3 c4 c5 c6 c7
          obtain ⟨c0, c1, c2, c3, c4, c5, c6, c7⟩ := HR2.out.cells
          have HQ := hid (fun W (hW : Below w2.heap.size w2 W) => HPU.out W j (by omega) hj D0.out (HSN.out.keep (HK2.out.trans (Keep.ofBelow hW)) HNP.out.symm))
          clear c1 c3 c4 c5 c6 c7 HT hjf
          go_wp2_with fail
          go_region_held3 (fun w' => w'.cell? ⟨p, 0, none⟩ = some (.string (strOfNums xs)) ∧ w'.cell? ⟨p, 2, none⟩ = some (.int .i64 j)) (go_keep) (first | (go_at_call 96; refine (HQ.out _ (by first | exact below_drew1 _ | exact Below.refl _ _)).mono ?_; rintro e w3 ⟨⟨nn, er, rfl, hor⟩, B3⟩; have d0 : w3.cell? ⟨p, 0, none⟩ = some (.string (strOfNums xs)) := (HR2.out.kept (below_trans (below_drew1 _) B3)).cells.1; have d2 : w3.cell? ⟨p, 2, none⟩ = some (.int .i64 j) := (HR2.out.kept (below_trans (below_drew1 _) B3)).cells.2.2.1; replace B3 := hid B3))
          have HR3 := hid (HR2.out.kept (below_trans (below_drew1 _) B3.out))
          have HK3 := hid (HK2.out.trans (Keep.ofBelow (below_trans (below_drew1 _) B3.out)))
          clear d0 d2 B3 c0 c2
          rcases hor with ⟨hv, rfl, rfl⟩ | ⟨hv, t, v, rfl⟩
          · have HT3 : Hid (tokN xs i = .word 2 j (vlF 16 0 (cut xs fs j)) []) := hid (by rw [HT2.out, if_neg (by unfold vl; omega)]; rfl)
            generalize vlF 16 0 (cut xs fs j) = nn at *
            clear hv
            go_wp2_with fail
            refine (H2.out _ j nn hj (by omega) HR3.out (HK.out.keep HK3.out) (Nat.le_trans HBS.out HK3.out.size)).mono ?_
            rintro e w4 ⟨rfl, kept', R4, K4, B4⟩
            have HH : Hid (Took base xs p fr bl bc kept ws w 2 j nn [] w4) := hid ⟨kept', _, R4, K4, (keep_weak HK3.out).trans B4⟩
            clear R4 K4 B4
            go_wp2
            simp only [Exit.jumps]
            go_ret
            rw [HT3.out]
            exact ⟨rfl, HH.out⟩
          · have HT3 : Hid (tokN xs i = .bad 7) := hid (by rw [HT2.out, if_pos (by unfold vl; omega)])
            clear hv
            go_wp2
            simp only [Exit.jumps]
            go_ret
            rw [HT3.out]
            exact ⟨rfl, _, HR3.out, HK3.out⟩
  · intro R hX
    go_wp2_with fail
    refine (HRE.out _ i (by omega) HR.out).mono ?_
    rintro e w1 ⟨rfl, B1⟩
    have HR1 := hid (HR.out.kept B1)
    have HK1 := hid (Keep.ofBelow (f := (· ≠ p)) B1)
    clear B1
    go_wp2_with fail
    refine (HPX.out _).mono ?_
    rintro e w1' ⟨rfl, rfl⟩
    go_wp2_with fail
    refine (HTW.out _ HR1.out).mono ?_
    rintro e w2 ⟨rfl, R2, K2⟩
    have HR2 := hid R2
    have HK2 := hid (HK1.out.trans K2)
    clear R2 K2
    obtain ⟨c0, c1, c2, c3, c4, c5, c6, c7⟩ := HR2.out.cells
    go_wp2
    rename_i K hK
    refine wp_label (hK _ _ (hX (xs.length - fs) _ _ ⟨fs, _, _, _, _, _, _, _, _, _, _, _, _, _, _, _, _, _, _, _, _, _, _, _, _, _, _, _, _, _, _, _, _, _, _, _, _, _, _, _, _, _, _, _, _, _, _, _, _, _, _, _, (by rw [HFS.out]; rfl), Nat.le_refl _, (by have := HFS.out; omega), rfl, hid (by rw [HFS.out]; exact HR2.out), HK2, hid rfl, hid (by rw [cut_nil]; simp)⟩))
theorem numberW (base : Nat) (ws : List (Mw × Value)) (hb : ∀ x ∈ xs, 0 ≤ x ∧ x ≤ 255) (hf : fr = i) (hi : i < xs.length) (hl : xs.length ≤ 65536) (h : Rd w p xs fr bl bc i kept) (hk : Kp w base p 159 kept ws) (hbase : base ≤ w.heap.size) (hn : ws.length ≤ 70000) (hs : Sentinel w 3) (hp : p ≠ 3) :
    Calls Tryz.prog 72 #[.pointer (some ⟨p, 0, none⟩)] w fun e w' => Went base xs p fr bl bc kept ws w (tokN xs i) e w' := by
  cases hx : hxA xs i with
  | true => exact numberHex p xs fr bl bc i kept w base ws hb hf hi hl h hk hbase hn hs hp hx
  | false => exact numberTen p xs fr bl bc i kept w base ws hb hf hi hl h hk hbase hn hs hp hx
end
end Go.Proofs.YtidimdbnnnpplaaGreatDoor
namespace Go.Proofs.YtidimdbnnnpplaaGreatDoor
open Go.RowKit
set_option maxRecDepth 1000000
set_option maxHeartbeats 16000000
set_option linter.unusedVariables false
/-- Three labels, the first at the front. -/
theorem wp_scope_three {P : Program} {a : Act} {w : World} {Q : Exit → Act → World → Prop} {c r0 r1 r2 : Code} (J0 J1 J2 : Nat → Act → World → Prop) (h0 : findLabel c 0 = some r0) (h1 : findLabel c 1 = some r1) (h2 : findLabel c 2 = some r2)
    (first : c.wp P (Exit.jumps (fun l a w => (l = 0 ∧ ∃ g, J0 g a w) ∨ (l = 1 ∧ ∃ g, J1 g a w) ∨ (l = 2 ∧ ∃ g, J2 g a w)) Q) a w)
    (pass0 : ∀ g a w, J0 g a w → r0.wp P (Exit.jumps (fun l a w => (l = 0 ∧ ∃ g', g' < g ∧ J0 g' a w) ∨ (l = 1 ∧ ∃ g', g' < g ∧ J1 g' a w) ∨ (l = 2 ∧ ∃ g', g' < g ∧ J2 g' a w)) Q) a w)
    (pass1 : ∀ g a w, J1 g a w → r1.wp P (Exit.jumps (fun l a w => (l = 0 ∧ ∃ g', g' < g ∧ J0 g' a w) ∨ (l = 1 ∧ ∃ g', g' < g ∧ J1 g' a w) ∨ (l = 2 ∧ ∃ g', g' < g ∧ J2 g' a w)) Q) a w)
    (pass2 : ∀ g a w, J2 g a w → r2.wp P (Exit.jumps (fun l a w => (l = 0 ∧ ∃ g', g' < g ∧ J0 g' a w) ∨ (l = 1 ∧ ∃ g', g' < g ∧ J1 g' a w) ∨ (l = 2 ∧ ∃ g', g' < g ∧ J2 g' a w)) Q) a w) : (Code.scope c).wp P Q a w := by
  refine wp_scope_multi (fun l => if l = 0 then r0 else if l = 1 then r1 else r2) (fun l g a w => (l = 0 ∧ J0 g a w) ∨ (l = 1 ∧ J1 g a w) ∨ (l = 2 ∧ J2 g a w)) (fun l g a w h => ?_) (wp_mono first ?_) (fun l g a w h => ?_)
  · rcases h with ⟨rfl, _⟩ | ⟨rfl, _⟩ | ⟨rfl, _⟩
    · exact h0
    · exact h1
    · exact h2
  · intro e a w h
    cases e <;> first | exact h | (rcases h with ⟨h1, g, h2⟩ | ⟨h1, g, h2⟩ | ⟨h1, g, h2⟩; exact ⟨g, .inl ⟨h1, h2⟩⟩; exact ⟨g, .inr (.inl ⟨h1, h2⟩)⟩; exact ⟨g, .inr (.inr ⟨h1, h2⟩)⟩)
  · rcases h with ⟨rfl, h⟩ | ⟨rfl, h⟩ | ⟨rfl, h⟩
    · refine wp_mono (pass0 g a w h) ?_
      intro e a w h
      cases e <;> first | exact h | (rcases h with ⟨h1, g, hg, h2⟩ | ⟨h1, g, hg, h2⟩ | ⟨h1, g, hg, h2⟩; exact ⟨g, hg, .inl ⟨h1, h2⟩⟩; exact ⟨g, hg, .inr (.inl ⟨h1, h2⟩)⟩; exact ⟨g, hg, .inr (.inr ⟨h1, h2⟩)⟩)
    · refine wp_mono (pass1 g a w h) ?_
      intro e a w h
      cases e <;> first | exact h | (rcases h with ⟨h1, g, hg, h2⟩ | ⟨h1, g, hg, h2⟩ | ⟨h1, g, hg, h2⟩; exact ⟨g, hg, .inl ⟨h1, h2⟩⟩; exact ⟨g, hg, .inr (.inl ⟨h1, h2⟩)⟩; exact ⟨g, hg, .inr (.inr ⟨h1, h2⟩)⟩)
    · refine wp_mono (pass2 g a w h) ?_
      intro e a w h
      cases e <;> first | exact h | (rcases h with ⟨h1, g, hg, h2⟩ | ⟨h1, g, hg, h2⟩ | ⟨h1, g, hg, h2⟩; exact ⟨g, hg, .inl ⟨h1, h2⟩⟩; exact ⟨g, hg, .inr (.inl ⟨h1, h2⟩)⟩; exact ⟨g, hg, .inr (.inr ⟨h1, h2⟩)⟩)
/-- A label in the middle of three: what holds when it is reached. -/
theorem wp_scope_three_mid {P : Program} {a : Act} {w : World} {Q : Exit → Act → World → Prop} {c X r1 r2 : Code} (J0 J1 J2 : Nat → Act → World → Prop) (h0 : findLabel c 0 = some (Code.skip.seq X)) (h1 : findLabel c 1 = some r1) (h2 : findLabel c 2 = some r2)
    (first : ∀ R : Exit → Act → World → Prop, (∀ g a w, J0 g a w → X.wp P R a w) → c.wp P R a w)
    (pass0 : ∀ g a w, J0 g a w → X.wp P (Exit.jumps (fun l a w => (l = 0 ∧ ∃ g', g' < g ∧ J0 g' a w) ∨ (l = 1 ∧ ∃ g', g' < g ∧ J1 g' a w) ∨ (l = 2 ∧ ∃ g', g' < g ∧ J2 g' a w)) Q) a w)
    (pass1 : ∀ g a w, J1 g a w → r1.wp P (Exit.jumps (fun l a w => (l = 0 ∧ ∃ g', g' < g ∧ J0 g' a w) ∨ (l = 1 ∧ ∃ g', g' < g ∧ J1 g' a w) ∨ (l = 2 ∧ ∃ g', g' < g ∧ J2 g' a w)) Q) a w)
    (pass2 : ∀ g a w, J2 g a w → r2.wp P (Exit.jumps (fun l a w => (l = 0 ∧ ∃ g', g' < g ∧ J0 g' a w) ∨ (l = 1 ∧ ∃ g', g' < g ∧ J1 g' a w) ∨ (l = 2 ∧ ∃ g', g' < g ∧ J2 g' a w)) Q) a w) : (Code.scope c).wp P Q a w := by
  refine wp_scope_three J0 J1 J2 h0 h1 h2 (first _ fun g a w h => wp_mono (pass0 g a w h) ?_) (fun g a w h => wp_seq (wp_skip (pass0 g a w h))) pass1 pass2
  intro e a w h
  cases e <;> first | exact h | (rcases h with ⟨h1, g, hg, h2⟩ | ⟨h1, g, hg, h2⟩ | ⟨h1, g, hg, h2⟩; exact .inl ⟨h1, g, h2⟩; exact .inr (.inl ⟨h1, g, h2⟩); exact .inr (.inr ⟨h1, g, h2⟩))
section
variable (p : Nat) (xs : List Int) (fr : Nat) (bl bc : Int) (i : Nat) (kept : Value) (w : World)
theorem quotedW (base : Nat) (ws : List (Mw × Value)) (hb : ∀ x ∈ xs, 0 ≤ x ∧ x ≤ 255) (hf : fr = i) (hi : i < xs.length) (hl : xs.length ≤ 65536) (h : Rd w p xs fr bl bc i kept) (hk : Kp w base p 159 kept ws) (hbase : base ≤ w.heap.size) (hn : ws.length ≤ 70000) :
    Calls Tryz.prog 73 #[.pointer (some ⟨p, 0, none⟩)] w fun e w' => Went base xs p fr bl bc kept ws w (tokQ xs i) e w' := by
  have HPA := hid (fun W j (hj : j < xs.length) (g1 : Rd W p xs fr bl bc j kept) => passW p xs fr bl bc j kept W hb hj hl g1)
  have HPE := hid (fun W j (hj : j ≤ xs.length) (g1 : Rd W p xs fr bl bc j kept) => peekW p xs fr bl bc j kept W hb hj hl g1)
  have HEN := hid (fun W j (g1 : Rd W p xs fr bl bc j kept) => endedW p xs fr bl bc j kept W g1)
  have HSE := hid (fun W j (hfj : fr ≤ j) (hj : j ≤ xs.length) (g1 : Rd W p xs fr bl bc j kept) => seenW p xs fr bl bc j kept W hfj hj hl g1)
  have HUQ := hid (fun W j (hj : j ≤ xs.length) => unquoteW (cut xs fr j) W (cut_bd hb fr j) (by rw [cut_length _ _ _ hj]; omega))
  have HUE := hid (fun j (hj : j ≤ xs.length) => (show ¬ 65536 < (cut xs fr j).length by rw [cut_length _ _ _ hj]; omega))
  have H2 := hid (fun W j (b : List Int) (a : Option Addr) (c : Nat) (hj : j ≤ xs.length) (hfj : fr ≤ j) (g1 : Rd W p xs fr bl bc j kept) (g2 : Kp W base p 159 kept ws) (g3 : base ≤ W.heap.size) (g4 : Reads W a b.length c b) (g5 : Off p kept b.length a) => keepW p xs fr bl bc j kept W base ws 3 0 b a c hfj hj hl g1 g2 g3 hn g4 g5)
  have HK := hid hk
  have HBS := hid hbase
  have HR := hid h
  have HT : Hid (tokQ xs i = match qe xs (i + 1) with | none => .bad 11 | some k => match uq (cut xs fr k) with | none => .bad 11 | some b => .word 3 k 0 b) := hid (by
    unfold tokQ
    rw [hf]
    cases qe xs (i + 1) with
    | none => rfl
    | some k => dsimp only; cases uq (cut xs i k) <;> rfl)
  have hf3 : fr ≤ i := by omega
  clear hb h hk hbase hn hf
  go_enter Tryz.func73, Tryz.ntmps73
  go_wp2
  refine wp_scope_three_mid
    (fun g a' w' => ∃ (j : Nat) (u1 u2 u3 u4 u5 u6 u7 u8 u9 u10 u11 u12 u13 u14 u15 u16 u17 u18 u19 u20 u21 u22 u23 u24 u25 u26 u27 u28 u29 u30 u31 u32 u33 u34 u35 : Value), a' = { tmps := #[.pointer (some ⟨p, 0, none⟩), u1, u2, u3, u4, u5, u6, u7, u8, u9, u10, u11, u12, u13, u14, u15, u16, u17, u18, u19, u20, u21, u22, u23, u24, u25, u26, u27, u28, u29, u30, u31, u32, u33, u34, u35], defers := [] } ∧ i ≤ j ∧ j < xs.length ∧ g = 2 * (xs.length - j) + 1 ∧ Hid (Rd w' p xs fr bl bc j kept) ∧ Hid (Keep (· ≠ p) w w') ∧ Hid (qe xs (j + 1) = qe xs (i + 1)))
    (fun g a' w' => ∃ (j : Nat) (u1 u2 u3 u4 u5 u6 u7 u8 u9 u10 u11 u12 u13 u14 u15 u16 u17 u18 u19 u20 u21 u22 u23 u24 u25 u26 u27 u28 u29 u30 u31 u32 u33 u34 u35 : Value), a' = { tmps := #[.pointer (some ⟨p, 0, none⟩), u1, u2, u3, u4, u5, u6, u7, u8, u9, u10, u11, u12, u13, u14, u15, u16, u17, u18, u19, u20, u21, u22, u23, u24, u25, u26, u27, u28, u29, u30, u31, u32, u33, u34, u35], defers := [] } ∧ i ≤ j ∧ j < xs.length ∧ g = 2 * (xs.length - j) ∧ Hid (Rd w' p xs fr bl bc j kept) ∧ Hid (Keep (· ≠ p) w w') ∧ Hid (bt xs j = 92) ∧ Hid (qe xs j = qe xs (i + 1)))
    (fun g a' w' => ∃ (j : Nat) (u1 u2 u3 u4 u5 u6 u7 u8 u9 u10 u11 u12 u13 u14 u15 u16 u17 u18 u19 u20 u21 u22 u23 u24 u25 u26 u27 u28 u29 u30 u31 u32 u33 u34 u35 : Value), a' = { tmps := #[.pointer (some ⟨p, 0, none⟩), u1, u2, u3, u4, u5, u6, u7, u8, u9, u10, u11, u12, u13, u14, u15, u16, u17, u18, u19, u20, u21, u22, u23, u24, u25, u26, u27, u28, u29, u30, u31, u32, u33, u34, u35], defers := [] } ∧ i ≤ j ∧ j < xs.length ∧ g = 0 ∧ Hid (Rd w' p xs fr bl bc j kept) ∧ Hid (Keep (· ≠ p) w w') ∧ Hid (qe xs (i + 1) = some (j + 1))) rfl rfl rfl ?_ ?_ ?_ ?_
  · intro R hX
    go_wp2
    rename_i K hK
    exact wp_label (hK _ _ (hX _ _ _ ⟨i, _, _, _, _, _, _, _, _, _, _, _, _, _, _, _, _, _, _, _, _, _, _, _, _, _, _, _, _, _, _, _, _, _, _, _, rfl, Nat.le_refl _, hi, rfl, HR, hid (Keep.refl _ _), hid rfl⟩))
  · rintro g a' w' ⟨j, u1, u2, u3, u4, u5, u6, u7, u8, u9, u10, u11, u12, u13, u14, u15, u16, u17, u18, u19, u20, u21, u22, u23, u24, u25, u26, u27, u28, u29, u30, u31, u32, u33, u34, u35, rfl, hij, hj, rfl, R0, K0, S0⟩
    go_wp2_with fail
    refine (HPA.out _ j hj R0.out).mono ?_
    rintro e w1 ⟨rfl, R1, K1⟩
    have HR1 := hid R1
    have HK1 := hid (K0.out.trans K1)
    clear R1 K1
    go_wp2_with fail
    refine (HEN.out _ (j + 1) HR1.out).mono ?_
    rintro e w2 ⟨rfl, B2⟩
    have HR2 := hid (HR1.out.kept B2)
    have HK2 := hid (HK1.out.trans (Keep.ofBelow B2))
    clear B2
    by_cases hje : j + 1 = xs.length
    · have HS : Hid (tokQ xs i = .bad 11) := hid (by rw [HT.out, ← S0.out, qe_end (by omega)])
      rw [show decide (j + 1 = xs.length) = true by simpa using hje]
      clear hje
      go_wp2
      simp only [Exit.jumps]
      go_ret
      rw [HS.out]
      exact ⟨rfl, _, HR2.out, HK2.out⟩
    · rw [show decide (j + 1 = xs.length) = false by simpa using hje]
      have hj1 : j + 1 < xs.length := by omega
      clear hje
      go_wp2_with fail
      refine (HPE.out _ (j + 1) (by omega) HR2.out).mono ?_
      rintro e w3 ⟨rfl, B3⟩
      have HR3 := hid (HR2.out.kept B3)
      have HK3 := hid (HK2.out.trans (Keep.ofBelow B3))
      clear B3
      by_cases h92 : bt xs (j + 1) = 92
      · rw [h92]
        have HX := hid h92
        clear h92
        go_wp2
        go_step3
        exact .inr (.inl ⟨rfl, _, by omega, j + 1, _, _, _, _, _, _, _, _, _, _, _, _, _, _, _, _, _, _, _, _, _, _, _, _, _, _, _, _, _, _, _, _, _, _, _, rfl, by omega, hj1, rfl, HR3, HK3, HX, S0⟩)
      · have e1 : (bt xs (j + 1) == 92) = false := by simpa using h92
        go_wp2_with fail
        refine (HPE.out _ (j + 1) (by omega) HR3.out).mono ?_
        rintro e w4 ⟨rfl, B4⟩
        have HR4 := hid (HR3.out.kept B4)
        have HK4 := hid (HK3.out.trans (Keep.ofBelow B4))
        clear B4
        by_cases h34 : bt xs (j + 1) = 34
        · have HS : Hid (qe xs (i + 1) = some (j + 1 + 1)) := hid (by rw [← S0.out, qe_mark hj1 h34])
          clear e1 h92
          rw [h34]
          clear h34
          go_wp2
          go_step3
          exact .inr (.inr ⟨rfl, 0, by omega, j + 1, _, _, _, _, _, _, _, _, _, _, _, _, _, _, _, _, _, _, _, _, _, _, _, _, _, _, _, _, _, _, _, _, _, _, _, rfl, by omega, hj1, rfl, HR4, HK4, HS⟩)
        · have HS : Hid (qe xs (j + 1 + 1) = qe xs (i + 1)) := hid (by rw [← S0.out, qe_step hj1 h92 h34])
          have e2 : (bt xs (j + 1) == 34) = false := by simpa using h34
          clear h92 h34
          go_wp2
          go_step3
          exact .inl ⟨rfl, _, by omega, j + 1, _, _, _, _, _, _, _, _, _, _, _, _, _, _, _, _, _, _, _, _, _, _, _, _, _, _, _, _, _, _, _, _, _, _, _, rfl, by omega, hj1, rfl, HR4, HK4, HS⟩
  · rintro g a' w' ⟨j, u1, u2, u3, u4, u5, u6, u7, u8, u9, u10, u11, u12, u13, u14, u15, u16, u17, u18, u19, u20, u21, u22, u23, u24, u25, u26, u27, u28, u29, u30, u31, u32, u33, u34, u35, rfl, hij, hj, rfl, R0, K0, X0, S0⟩
    go_wp2_with fail
    refine (HPA.out _ j hj R0.out).mono ?_
    rintro e w1 ⟨rfl, R1, K1⟩
    have HR1 := hid R1
    have HK1 := hid (K0.out.trans K1)
    clear R1 K1
    go_wp2_with fail
    refine (HEN.out _ (j + 1) HR1.out).mono ?_
    rintro e w2 ⟨rfl, B2⟩
    have HR2 := hid (HR1.out.kept B2)
    have HK2 := hid (HK1.out.trans (Keep.ofBelow B2))
    clear B2
    by_cases hje : j + 1 = xs.length
    · have HS : Hid (tokQ xs i = .bad 11) := hid (by rw [HT.out, ← S0.out, qe_back hj X0.out, qe_end (by omega)])
      rw [show decide (j + 1 = xs.length) = true by simpa using hje]
      clear hje
      go_wp2
      simp only [Exit.jumps]
      go_ret
      rw [HS.out]
      exact ⟨rfl, _, HR2.out, HK2.out⟩
    · rw [show decide (j + 1 = xs.length) = false by simpa using hje]
      have hj1 : j + 1 < xs.length := by omega
      have HS : Hid (qe xs (j + 1 + 1) = qe xs (i + 1)) := hid (by rw [← S0.out, qe_back hj X0.out])
      clear hje
      go_wp2
      go_step3
      exact .inl ⟨rfl, _, by omega, j + 1, _, _, _, _, _, _, _, _, _, _, _, _, _, _, _, _, _, _, _, _, _, _, _, _, _, _, _, _, _, _, _, _, _, _, _, rfl, by omega, hj1, rfl, HR2, HK2, HS⟩
  · rintro g a' w' ⟨j, u1, u2, u3, u4, u5, u6, u7, u8, u9, u10, u11, u12, u13, u14, u15, u16, u17, u18, u19, u20, u21, u22, u23, u24, u25, u26, u27, u28, u29, u30, u31, u32, u33, u34, u35, rfl, hij, hj, rfl, R0, K0, S0⟩
    have HT2 : Hid (tokQ xs i = match uq (cut xs fr (j + 1)) with | none => .bad 11 | some b => .word 3 (j + 1) 0 b) := hid (by rw [HT.out, S0.out])
    go_wp2_with fail
    refine (HPA.out _ j hj R0.out).mono ?_
    rintro e w1 ⟨rfl, R1, K1⟩
    have HR1 := hid R1
    have HK1 := hid (K0.out.trans K1)
    clear R1 K1
    go_wp2_with fail
    refine (HSE.out _ (j + 1) (by omega) (by omega) HR1.out).mono ?_
    rintro e w2 ⟨rfl, B2⟩
    have HR2 := hid (HR1.out.kept B2)
    have HK2 := hid (HK1.out.trans (Keep.ofBelow B2))
    clear B2
    go_wp2_with fail
    cases hu : uq (cut xs fr (j + 1)) with
    | none =>
      have HS : Hid (tokQ xs i = .bad 11) := hid (by rw [HT2.out, hu])
      have hE := HUQ.out w2 (j + 1) (by omega)
      rw [uqE_none (HUE.out (j + 1) (by omega)) hu] at hE
      refine hE.mono ?_
      rintro e w3 ⟨a3, c3, rfl, hr3, B3, _⟩
      have HR3 := hid (HR2.out.kept B3)
      have HK3 := hid (HK2.out.trans (Keep.ofBelow B3))
      clear B3 hE hr3 hu
      go_wp2
      simp only [Exit.jumps]
      go_ret
      rw [HS.out]
      exact ⟨rfl, _, HR3.out, HK3.out⟩
    | some b =>
      have HS : Hid (tokQ xs i = .word 3 (j + 1) 0 b) := hid (by rw [HT2.out, hu])
      have hE := HUQ.out w2 (j + 1) (by omega)
      rw [uqE_some (HUE.out (j + 1) (by omega)) hu] at hE
      refine hE.mono ?_
      rintro e w3 ⟨a3, c3, rfl, hr3, B3, hnew⟩
      have HR3 := hid (HR2.out.kept B3)
      have HK3 := hid (HK2.out.trans (Keep.ofBelow B3))
      have HKP2 := hid (HK.out.keep HK2.out)
      have HO : Hid (Off p kept b.length a3) := hid (fun y hy => .inr ⟨fun e => by have h1 := hnew y hy; have h2 := HR2.out.blk.lt; omega, fun e => by have h1 := hnew y hy; have h2 := (HKP2.out.row.lt y.block e).2; omega⟩)
      have HRD := hid hr3
      clear B3 hE hr3 hu hnew
      dsimp only at HRD
      go_wp2_with fail
      refine (H2.out _ (j + 1) b a3 c3 (by omega) (by omega) HR3.out (HK.out.keep HK3.out) (Nat.le_trans HBS.out HK3.out.size) HRD.out HO.out).mono ?_
      rintro e w4 ⟨rfl, kept', R4, K4, B4⟩
      have HH : Hid (Took base xs p fr bl bc kept ws w 3 (j + 1) 0 b w4) := hid ⟨kept', _, R4, K4, (keep_weak HK3.out).trans B4⟩
      clear R4 K4 B4
      go_wp2
      simp only [Exit.jumps]
      go_ret
      rw [HS.out]
      exact ⟨rfl, HH.out⟩
end
end Go.Proofs.YtidimdbnnnpplaaGreatDoor
