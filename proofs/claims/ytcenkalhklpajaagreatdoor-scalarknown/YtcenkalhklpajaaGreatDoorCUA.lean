/-
  Whole numbers as texts in base ten: the library's FormatUint, out of the shelf's contracts.
  Numbers in base 16: the library's FormatUint at base 16.
  Reading numbers by base 16: the library's ParseUint at base 16 and 64 bits.
  Bits as texts and back: the program's.
  Values as texts: digits by base 16.
  Whole numbers, read: the program's.
-/
import Derived.Test.YtcenkalhklpajaaGreatDoorCG
import Derived.Test.YtcenkalhklpajaaGreatDoorShelf
import Derived.Lib.LaidTab
import Derived.Test.YtcenkalhklpajaaGreatDoorCQE
import Derived.Lib.VarintBits
import Derived.Lib.ParseIntB
import Derived.Lib.AtoiErrMem
import Derived.Test.YtcenkalhklpajaaGreatDoorCSF
import Derived.Lib.ParseIntBTie
import Derived.Lib.ParseIntBCases
namespace Go.Proofs.YtcenkalhklpajaaGreatDoor
open Go.RowKit Go.Sort Go.Lib
set_option maxRecDepth 1000000
set_option linter.unusedVariables false
set_option maxHeartbeats 8000000

theorem below_grow {w : World} {k : Nat} {os : Array Obj} : Below w.heap.size w (grow (w.drewN k) os) := by
  refine ⟨?_, ?_, ?_, ?_, ?_⟩
  · rfl
  · rfl
  · rfl
  · simp [grow, World.drewN]
  · intro k' hk
    simp [grow, World.drewN, Array.getElem?_append, hk]
theorem fmtU10 (u : Nat) (hu64 : u < 18446744073709551616) (w : World) (htab : Lib.TabIs Tryz.prog w "internal/strconv.uint64pow10" .u64 Lib.pow10Tab) :
    Calls Tryz.prog 71 #[.int .u64 u, .int .i64 10] w fun e w' => e = .returned (.string ⟨(Lib.decDigits u).toArray⟩) ∧ ∃ k os, w' = grow (w.drewN k) os := by
  by_cases hs : u < 100
  · have hi : (u : Int) < 100 := by omega
    go_enter Tryz.func71, Tryz.ntmps71
    go_wp2_with (go_at_call 98; refine (Tryz.internal_strconv_small u hs _).mono ?_; rintro e w' ⟨rfl, rfl⟩)
    go_ret
    exact ⟨rfl, 0, #[], by simp [World.drewN_zero]⟩
  · have hu1 : 1 ≤ u := by omega
    have hi : ¬ (u : Int) < 100 := by omega
    have hnd20 : Lib.nDigits u ≤ 20 := by have := Lib.numDigits_eq u hu1 hu64; split at this <;> omega
    have hal : Tryz.prog.arrayLen 133 = 24 := by kernel_rfl
    have hsl1 : ∀ W, (Instr.sliceAt 133 (.pointer (some ⟨w.heap.size, 0, none⟩)) none (some (.int .i64 (Lib.nDigits u : Int))) none).run Tryz.prog W = .ok (.slice (some ⟨w.heap.size, 0, none⟩) (Lib.nDigits u) 24) W := fun W => by
      rw [run_sliceAt_array_h W 133 ⟨w.heap.size, 0, none⟩ (by kernel_rfl) .i64 (Lib.nDigits u : Int) (by omega) (by rw [hal]; omega), hal]
      go_simp
    have hH0 : Holds (fun (b : UInt8) => Value.int .u8 (b.toNat : Int)) (w.alloc (.cells Lib.zeros24 133)) w.heap.size 0 (Array.replicate (Lib.nDigits u) (0 : UInt8)) := fun j hj => by
      have hj' : j < Lib.nDigits u := by simpa using hj
      refine ⟨?_, World.frozen?_alloc_new _ _ _ _⟩
      rw [World.cell?_alloc_new, Lib.zeros24_at _ (by omega), getElem!_pos _ j hj]
      simp
    have hfmt := Tryz.internal_strconv_formatBase10 w.heap.size 0 24 u (Array.replicate (Lib.nDigits u) 0) (w.alloc (.cells Lib.zeros24 133)) hH0 (by rw [Array.size_replicate]; exact Lib.lt_pow_nDigits u) hu64 (by rw [Array.size_replicate]; omega)
    rw [Array.size_replicate] at hfmt
    have HH0 := Lib.hid hH0
    have HF := Lib.hid hfmt
    clear hH0 hal hfmt
    go_enter Tryz.func71, Tryz.ntmps71
    go_wp2_with (go_at_call 99; refine (Tryz.internal_strconv_numDigits u hu1 hu64 _ (Lib.tabIs_alloc htab _)).mono ?_; rintro e w' ⟨rfl, rfl⟩)
    refine HF.out.mono ?_
    rintro e w' ⟨rfl, k, v', dk, rfl, hF⟩
    have hcv : (convert 27 9 (.slice (some ⟨w.heap.size, 0, none⟩) (Lib.nDigits u) 24)).run Tryz.prog ((putRow (fun (b : UInt8) => Value.int .u8 (b.toNat : Int)) (w.alloc (.cells Lib.zeros24 133)) w.heap.size 0 dk).drewN k) = .ok (.string ⟨(Lib.decDigits u).toArray⟩) ((putRow (fun (b : UInt8) => Value.int .u8 (b.toNat : Int)) (w.alloc (.cells Lib.zeros24 133)) w.heap.size 0 dk).drewN k) := by
      have h := run_convert_bytes_back (P := Tryz.prog) ((putRow (fun (b : UInt8) => Value.int .u8 (b.toNat : Int)) (w.alloc (.cells Lib.zeros24 133)) w.heap.size 0 dk).drewN k) 27 9 5 ⟨w.heap.size, 0, none⟩ 24 (Lib.decDigits u) Tryz.underlying27 Tryz.underlying5 Tryz.underlying9 (fun j hj => by
        rw [Lib.row_is_numeral hF j hj, Lib.add_plain, World.cell?_drewN]
        exact cell?_putRow (fun (b : UInt8) => Value.int .u8 (b.toNat : Int)) _ w.heap.size 0 _ dk HH0.out (by rw [hF.size, Array.size_replicate]) j (by rw [hF.size]; rw [Lib.decDigits_length] at hj; exact hj))
      rw [Lib.decDigits_length] at h
      exact h
    go_wp2
    go_ret
    refine ⟨rfl, k, ?_⟩
    rw [alloc_eq_grow]
    obtain ⟨os', _, e⟩ := putRow_grow_new (fun (b : UInt8) => Value.int .u8 (b.toNat : Int)) w #[.cells Lib.zeros24 133] w.heap.size 0 dk (Nat.le_refl _)
    exact ⟨os', by rw [e]; rfl⟩
theorem fmtU10P (u : Nat) (hu64 : u < 18446744073709551616) (w : World) (htab : Lib.TabIs Tryz.prog w "internal/strconv.uint64pow10" .u64 Lib.pow10Tab) :
    Calls Tryz.prog 36 #[.int .u64 u, .int .i64 10] w fun e w' => e = .returned (.string ⟨(Lib.decDigits u).toArray⟩) ∧ Below w.heap.size w w' := by
  go_enter Tryz.func36, Tryz.ntmps36
  go_wp2_with (go_at_call 71; refine (fmtU10 u hu64 _ htab).mono ?_; rintro e w' ⟨rfl, k, os, rfl⟩)
  go_ret
  exact ⟨rfl, below_grow⟩
theorem fmtI10P (n : Int) (h0 : -9223372036854775808 ≤ n) (h1 : n ≤ 9223372036854775807) (w : World) (htab : Lib.TabIs Tryz.prog w "internal/strconv.uint64pow10" .u64 Lib.pow10Tab) :
    Calls Tryz.prog 35 #[.int .i64 n, .int .i64 10] w fun e w' => e = .returned (.string ⟨(Lib.itoa n).toArray⟩) ∧ Below w.heap.size w w' := by
  refine (Tryz.strconv_FormatInt_10 n h0 h1 w htab).mono ?_
  rintro e w' ⟨rfl, k, os, rfl⟩
  exact ⟨rfl, below_grow⟩
end Go.Proofs.YtcenkalhklpajaaGreatDoor
namespace Go.Proofs.YtcenkalhklpajaaGreatDoor
open Go.RowKit Go.Sort
set_option maxRecDepth 1000000
set_option linter.unusedVariables false
set_option maxHeartbeats 8000000

theorem cell_keptG {w : World} {b o : Nat} {x : Value} (h : w.cell? ⟨b, o, none⟩ = some x) : ∀ W : World, Below w.heap.size w W → W.cell? ⟨b, o, none⟩ = some x := fun W hb => by
  rw [hb.cell (p := ⟨b, o, none⟩) (World.block_lt_of_cell? _ _ h)]; exact h
theorem pow2W (w : World) : Calls Tryz.prog 118 #[.int .i64 16] w fun e w' => e = .returned (.bool true) ∧ w = w' := by
  have hb : bits .and .i64 16 15 = 0 := by decide
  go_enter Tryz.func118, Tryz.ntmps118
  go_wp2
  go_ret
  exact ⟨rfl, rfl⟩
theorem tz64W (w : World) (h : w.cell? ⟨5, 15, none⟩ = some (.int .u8 4)) : Calls Tryz.prog 130 #[.int .u64 16] w fun e w' => e = .returned (.int .i64 4) ∧ w = w' := by
  have hx : IntKind.u64.wrap (bits .and .u64 16 (IntKind.u64.wrap (-16)) * 285870213051353865) / 288230376151711744 = 15 := by decide
  go_enter Tryz.func130, Tryz.ntmps130
  go_wp2
  go_ret
  exact ⟨rfl, rfl⟩
theorem tzW (w : World) (h : w.cell? ⟨5, 15, none⟩ = some (.int .u8 4)) : Calls Tryz.prog 119 #[.int .u64 16] w fun e w' => e = .returned (.int .i64 4) ∧ w = w' := by
  go_enter Tryz.func119, Tryz.ntmps119
  go_wp2_with (go_at_call 130; refine (tz64W _ h).mono ?_; rintro e w' ⟨rfl, rfl⟩)
  go_ret
  exact ⟨rfl, rfl⟩
/-- Digits by base 16, as few as it takes. -/
def hexF : Nat → Int → List Int
  | 0, U => [dg U]
  | f + 1, U => if U < 16 then [dg U] else hexF f (U / 16) ++ [dg (U % 16)]
def hexm (n : Int) : List Int := hexF 15 n
theorem hexF_small (f : Nat) {U : Int} (h : U < 16) : hexF f U = [dg U] := by cases f <;> simp [hexF, h]
theorem hexF_big (f : Nat) {U : Int} (h : ¬ U < 16) : hexF (f + 1) U = hexF f (U / 16) ++ [dg (U % 16)] := by simp [hexF, h]
theorem hex_div (f : Nat) {n : Int} (h : n < 16 ^ (f + 1)) : n / 16 < 16 ^ f := Int.ediv_lt_of_lt_mul (by decide) (by rwa [← Int.pow_succ])
theorem hexF_len : ∀ (f : Nat) (U : Int), 1 ≤ (hexF f U).length ∧ (hexF f U).length ≤ f + 1
  | 0, U => by simp [hexF]
  | f + 1, U => by
    have ih := hexF_len f (U / 16)
    by_cases h : U < 16
    · rw [hexF_small _ h]; simp
    · rw [hexF_big _ h]; simp; omega
theorem hexF_bd : ∀ (f : Nat) (U : Int), 0 ≤ U → U < 16 ^ (f + 1) → ∀ x ∈ hexF f U, 0 ≤ x ∧ x ≤ 255
  | 0, U, h0, h1, x, hx => by
    simp [hexF] at hx; subst hx; simp at h1; unfold dg; split <;> omega
  | f + 1, U, h0, h1, x, hx => by
    by_cases h : U < 16
    · rw [hexF_small _ h] at hx; simp at hx; subst hx; unfold dg; split <;> omega
    · rw [hexF_big _ h] at hx
      rcases List.mem_append.1 hx with hx | hx
      · exact hexF_bd f (U / 16) (by omega) (hex_div _ h1) x hx
      · simp at hx; subst hx; unfold dg; split <;> omega
theorem and15u (n : Int) (h₀ : 0 ≤ n) (h₁ : n < 18446744073709551616) : bits .and .u64 n 15 = n % 16 := bits_mask .u64 64 (by decide) wraps_u64 4 (by decide) n h₀ (by omega)
theorem digs_at (x : Int) (h0 : 0 ≤ x) (h1 : x < 16) (W : World) : (Instr.index 9 (.string ⟨#[48, 49, 50, 51, 52, 53, 54, 55, 56, 57, 97, 98, 99, 100, 101, 102, 103, 104, 105, 106, 107, 108, 109, 110, 111, 112, 113, 114, 115, 116, 117, 118, 119, 120, 121, 122]⟩) (.int .u64 x)).run Tryz.prog W = .ok (.int .u8 (dg x)) W := by
  have hx : x = 0 ∨ x = 1 ∨ x = 2 ∨ x = 3 ∨ x = 4 ∨ x = 5 ∨ x = 6 ∨ x = 7 ∨ x = 8 ∨ x = 9 ∨ x = 10 ∨ x = 11 ∨ x = 12 ∨ x = 13 ∨ x = 14 ∨ x = 15 := by omega
  rcases hx with rfl | rfl | rfl | rfl | rfl | rfl | rfl | rfl | rfl | rfl | rfl | rfl | rfl | rfl | rfl | rfl <;> rfl
/-- The array while it is filled from its end: the last j cells hold ds. -/
structure Filled (arr : Array Value) (j : Nat) (ds : List Int) : Prop where
  size : arr.size = 65
  len : ds.length = j
  le : j ≤ 16
  cells : ∀ t, t < j → arr[65 - j + t]? = some (.int .u8 (ds[t]?.getD 0))
theorem Filled.more {arr : Array Value} {j : Nat} {ds : List Int} (h : Filled arr j ds) (hj : j < 16) (x : Int) : Filled (arr.setIfInBounds (65 - j - 1) (.int .u8 x)) (j + 1) (x :: ds) := by
  refine ⟨by simp [h.size], by simp [h.len], by omega, fun t ht => ?_⟩
  cases t with
  | zero =>
    rw [show 65 - (j + 1) + 0 = 65 - j - 1 by omega, Array.getElem?_setIfInBounds_self_of_lt (by rw [h.size]; omega)]
    simp
  | succ t =>
    rw [show 65 - (j + 1) + (t + 1) = 65 - j + t by omega, Array.getElem?_setIfInBounds_ne (by omega), h.cells t (by omega)]
    simp
theorem fmtBits (n : Int) (h0 : 0 ≤ n) (h1 : n < 18446744073709551616) (w : World) (h : w.cell? ⟨5, 15, none⟩ = some (.int .u8 4)) :
    Calls Tryz.prog 101 #[.slice none 0 0, .int .u64 n, .int .i64 16, .bool false, .bool false] w fun e w' => e = .returned (.tuple #[.slice none 0 0, .string (strOfNums (hexm n))]) ∧ Below w.heap.size w w' := by
  have HB := hid (cell_keptG h)
  have hp : n < 16 ^ (15 + 1) := by have e : (16 : Int) ^ (15 + 1) = 18446744073709551616 := by decide
                                    rw [e]; exact h1
  have HP := hid hp
  clear hp
  go_enter Tryz.func101, Tryz.ntmps101
  go_wp2_with (first | (go_at_call 118; refine (pow2W _).mono ?_; rintro e w' ⟨rfl, rfl⟩) | (go_at_call 119; refine (tzW _ (HB.out _ (below_alloc _))).mono ?_; rintro e w' ⟨rfl, rfl⟩))
  go_loopw [1, 13] (fun u i wr => ∃ (U : Int) (f j : Nat) (arr : Array Value) (ds : List Int), u = .int .u64 U ∧ 0 ≤ U ∧ U < 18446744073709551616 ∧ j ≤ 15 ∧ i = .int .i64 (((65 - j : Nat)) : Int) ∧ wr = w.alloc (.cells arr 147) ∧ Hid (f + j = 15) ∧ Hid (U < 16 ^ (f + 1)) ∧ Hid (Filled arr j ds) ∧ Hid (hexF f U ++ ds = hexm n)) (fun u _ _ => (intOf u).toNat)
  case atStart => exact ⟨n, 15, 0, Tryz.zeroCells147, [], rfl, h0, h1, by omega, rfl, rfl, hid rfl, HP, hid ⟨by kernel_rfl, rfl, by omega, fun t ht => absurd ht (by omega)⟩, hid (by simp [hexm])⟩
  case round =>
    obtain ⟨U, f, j, arr, ds, rfl, hU0, hU1, hj, rfl, rfl, HFJ, HUP, HFL, HH⟩ := hrel
    have ha := and15u U hU0 hU1
    have hq : ∃ q : Nat, 65 - j = q + 1 ∧ 49 ≤ q ∧ q ≤ 64 := ⟨64 - j, by omega, by omega, by omega⟩
    obtain ⟨q, hq, hq1, hq2⟩ := hq
    have hc : arr[q]? ≠ none := by rw [ne_eq, Array.getElem?_eq_none_iff, HFL.out.size]; omega
    obtain ⟨c0, hc0⟩ := Option.ne_none_iff_exists'.1 hc
    have hcell : (w.alloc (.cells arr 147)).cell? ⟨w.heap.size, q, none⟩ = some c0 := by rw [World.cell?_alloc_new]; exact hc0
    have hqi : (((65 - j : Nat)) : Int) - 1 = (q : Int) := by omega
    rw [hq]
    by_cases hb : 16 ≤ U
    · have hdig := fun W => digs_at (U % 16) (by omega) (by omega) W
      clear hc
      go_wp2
      have hf : ∃ g, f = g + 1 := by
        cases f with
        | zero => have := HUP.out; simp at this; omega
        | succ g => exact ⟨g, rfl⟩
      obtain ⟨g, rfl⟩ := hf
      refine ⟨⟨U / 16, g, j + 1, _, dg (U % 16) :: ds, rfl, by omega, by omega, by have := HFJ.out; omega, by rw [show 65 - (j + 1) = q by omega], rfl, hid (by have := HFJ.out; omega), hid (hex_div _ HUP.out), hid ?_, hid ?_⟩, by simp [intOf]; omega⟩
      · have := HFL.out.more (by omega) (dg (U % 16))
        rwa [show 65 - j - 1 = q by omega] at this
      · rw [← HH.out, hexF_big _ (by omega)]; simp
    · have hdig := fun W => digs_at U (by omega) (by omega) W
      clear hc
      have hsl : ∀ W, (Instr.sliceAt 147 (.pointer (some ⟨w.heap.size, 0, none⟩)) (some (.int .i64 (q : Int))) none none).run Tryz.prog W = .ok (.slice (some ⟨w.heap.size, q, none⟩) (65 - q) (65 - q)) W := fun W => by
        have hal : Tryz.prog.arrayLen 147 = 65 := by kernel_rfl
        rw [run_sliceAt_array_l W 147 ⟨w.heap.size, 0, none⟩ (by kernel_rfl) .i64 (q : Int) (by omega) (by rw [hal]; omega), hal]
        go_simp
        omega
      have hfl := HFL.out.more (by omega) (dg U)
      rw [show 65 - j - 1 = q by omega] at hfl
      have hlen : (dg U :: ds).length = 65 - q := by rw [hfl.len]; omega
      have hds : hexm n = dg U :: ds := by rw [← HH.out, hexF_small _ (by omega)]; rfl
      have hbd := hexF_bd 15 n h0 HP.out
      have hrd : Reads (w.alloc (.cells (arr.setIfInBounds q (.int .u8 (dg U))) 147)) (some ⟨w.heap.size, q, none⟩) (65 - q) (65 - q) (hexm n) := by
        rw [hds]
        refine ⟨hlen, Nat.le_refl _, by omega, bd_get (by rw [← hds]; exact hbd), .inr ⟨w.heap.size, q, rfl, fun i hi => ?_⟩⟩
        rw [World.cell?_alloc_new]
        have := hfl.cells i (by omega)
        rw [show 65 - (j + 1) = q by omega] at this
        rw [this, List.getD_eq_getElem?_getD]
      have hcv := conv hrd
      have HE := hid (below_alloc (w := w) (.cells (arr.setIfInBounds q (.int .u8 (dg U))) 147))
      clear hfl hlen hds hbd hrd hc0 HB h
      go_wp2
      go_ret2
      exact ⟨rfl, HE.out⟩
theorem fmtU16 (n : Int) (h0 : 0 ≤ n) (h1 : n < 18446744073709551616) (w : World) (h : w.cell? ⟨5, 15, none⟩ = some (.int .u8 4)) :
    Calls Tryz.prog 71 #[.int .u64 n, .int .i64 16] w fun e w' => e = .returned (.string (strOfNums (hexm n))) ∧ Below w.heap.size w w' := by
  go_enter Tryz.func71, Tryz.ntmps71
  go_wp2_with (go_at_call 101; refine (fmtBits n h0 h1 _ h).mono ?_; rintro e w' ⟨rfl, hb⟩; replace hb := hid hb)
  go_ret
  exact ⟨rfl, hb.out⟩
theorem fmtU16P (n : Int) (h0 : 0 ≤ n) (h1 : n < 18446744073709551616) (w : World) (h : w.cell? ⟨5, 15, none⟩ = some (.int .u8 4)) :
    Calls Tryz.prog 36 #[.int .u64 n, .int .i64 16] w fun e w' => e = .returned (.string (strOfNums (hexm n))) ∧ Below w.heap.size w w' := by
  go_enter Tryz.func36, Tryz.ntmps36
  go_wp2_with (go_at_call 71; refine (fmtU16 n h0 h1 _ h).mono ?_; rintro e w' ⟨rfl, hb⟩; replace hb := hid hb)
  go_ret
  exact ⟨rfl, hb.out⟩
end Go.Proofs.YtcenkalhklpajaaGreatDoor
namespace Go.Proofs.YtcenkalhklpajaaGreatDoor
open Go.RowKit Go.Sort
set_option maxRecDepth 1000000
set_option linter.unusedVariables false
set_option maxHeartbeats 16000000

/-- Digits by base 16, read on. -/
def p16 : Int → List Int → Option Int
  | a, [] => some a
  | a, c :: r => if hx c < 0 then none else p16 (a * 16 + hx c) r
theorem low_hexF : ∀ c : Fin 256, ¬ (48 ≤ (c.val : Int) ∧ (c.val : Int) ≤ 57) → (97 ≤ bits .or .u8 (c.val : Int) 32 ∧ bits .or .u8 (c.val : Int) 32 ≤ 102 ∧ hx (c.val : Int) = bits .or .u8 (c.val : Int) 32 - 87) ∨ (¬ (97 ≤ bits .or .u8 (c.val : Int) 32 ∧ bits .or .u8 (c.val : Int) 32 ≤ 102) ∧ hx (c.val : Int) = -1) := by decide +kernel
theorem low_hex {c : Int} (h0 : 0 ≤ c) (h1 : c ≤ 255) (hd : ¬ (48 ≤ c ∧ c ≤ 57)) : (97 ≤ bits .or .u8 c 32 ∧ bits .or .u8 c 32 ≤ 102 ∧ hx c = bits .or .u8 c 32 - 87) ∨ (¬ (97 ≤ bits .or .u8 c 32 ∧ bits .or .u8 c 32 ≤ 102) ∧ hx c = -1) := by
  obtain ⟨m, rfl⟩ := Int.eq_ofNat_of_zero_le h0
  exact low_hexF ⟨m, by omega⟩ hd
theorem hx_digit {c : Int} (h : 48 ≤ c ∧ c ≤ 57) : hx c = c - 48 := by unfold hx; rw [if_pos h]
theorem pow16_le (k : Nat) (hk : k ≤ 15) : (16 : Int) ^ k ≤ 1152921504606846976 := by
  have hi : k = 0 ∨ k = 1 ∨ k = 2 ∨ k = 3 ∨ k = 4 ∨ k = 5 ∨ k = 6 ∨ k = 7 ∨ k = 8 ∨ k = 9 ∨ k = 10 ∨ k = 11 ∨ k = 12 ∨ k = 13 ∨ k = 14 ∨ k = 15 := by omega
  rcases hi with rfl | rfl | rfl | rfl | rfl | rfl | rfl | rfl | rfl | rfl | rfl | rfl | rfl | rfl | rfl | rfl <;> decide
/-- What ParseUint answers. -/
def got16 : Option Int → Value
  | some n => .tuple #[.int .u64 n, .nilIface]
  | none => .tuple #[.int .u64 0, .iface 149 (.int .i64 2)]
theorem parse16 (xs : List Int) (hb : ∀ x ∈ xs, 0 ≤ x ∧ x ≤ 255) (hne : xs.length ≠ 0) (hle : xs.length ≤ 16) (w : World) :
    Calls Tryz.prog 103 #[.string (strOfNums xs), .int .i64 16, .int .i64 64] w fun e w' => e = .returned (got16 (p16 0 xs)) ∧ w' = Lib.bytesWorld w 5 (strOfNums xs) := by
  have hemp : (strOfNums xs).toList.isEmpty = false := by
    rw [str_list]; cases xs with
    | nil => simp at hne
    | cons x r => rfl
  have hmv : IntKind.u64.wrap (IntKind.u64.wrap 18446744073709551616 - 1) = 18446744073709551615 := by
    rw [IntKind.wrap_u64, IntKind.wrap_u64]
    decide
  have hcv := Lib.run_convert_string_bytes (P := Tryz.prog) w 9 27 5 (strOfNums xs) (u := .string) Tryz.underlying9 Tryz.underlying27 Tryz.underlying5
  have hsz : (strOfNums xs).size = xs.length := strOfNums_size xs
  have hB : ∀ j, j < xs.length → (Lib.bytesWorld w 5 (strOfNums xs)).cell? ⟨w.heap.size, j, none⟩ = some (.int .u8 (xs[j]?.getD 0)) := fun j hj => by
    rw [Lib.bytesWorld_cell w 5 (strOfNums xs) j (by rw [hsz]; exact hj), strOfNums_data]
    have hx := hb (xs[j]) (List.getElem_mem hj)
    simp [hj]
    omega
  obtain ⟨W1, hW1⟩ : ∃ W1, W1 = Lib.bytesWorld w 5 (strOfNums xs) := ⟨_, rfl⟩
  rw [← hW1] at hcv hB ⊢
  rw [hsz] at hcv
  clear hW1 hsz
  obtain ⟨n0, hn0⟩ : ∃ n0, xs.length = n0 := ⟨_, rfl⟩
  rw [hn0] at hcv hB hle
  go_enter Tryz.func103, Tryz.ntmps103
  go_wp2
  go_loop [12, 13, 101] (fun vu vn vi => ∃ (k : Nat) (a : Int), vu = .bool false ∧ vn = .int .u64 a ∧ vi = .int .i64 k ∧ k ≤ n0 ∧ 0 ≤ a ∧ Hid (a < 16 ^ k) ∧ Hid (p16 a (xs.drop k) = p16 0 xs)) (fun _ _ vi => n0 - (intOf vi).toNat)
  case atStart => exact ⟨0, 0, rfl, rfl, rfl, by omega, by omega, hid (by decide), hid rfl⟩
  case round =>
    obtain ⟨k, a, rfl, rfl, rfl, hk, a0, HA, HP⟩ := hrel
    by_cases hkn : k < n0
    · have hc := hB k hkn
      have hbc := hb (xs[k]'(by omega)) (List.getElem_mem _)
      have hget : xs[k]?.getD 0 = xs[k]'(by omega) := by simp [show k < xs.length by omega]
      have hdrop : xs.drop k = xs[k]'(by omega) :: xs.drop (k + 1) := List.drop_eq_getElem_cons (by omega)
      have hpp := HP.out
      rw [hdrop] at hpp
      rw [hget] at hc
      generalize xs[k]'(by omega) = c at hc hbc hpp
      have icut : a < 1152921504606846976 := Int.lt_of_lt_of_le HA.out (pow16_le k (by omega))
      have hki : (k : Int) < (n0 : Int) := by omega
      obtain ⟨c0, c1⟩ := hbc
      have HHX := hid (fun d (h0 : 0 ≤ d) (h1 : d < 16) (he : hx c = d) => (show a * 16 + d < 16 ^ (k + 1) ∧ p16 (a * 16 + d) (xs.drop (k + 1)) = p16 0 xs from by
        have ha := HA.out
        refine ⟨?_, ?_⟩
        · rw [Int.pow_succ]; omega
        · rw [← hpp, p16, if_neg (by omega), he]))
      have HNO := hid (fun (he : hx c = -1) => (show none = p16 0 xs from by rw [← hpp, p16, if_pos (by omega)]))
      clear hget hdrop hpp HA HP hB
      by_cases hdig : 48 ≤ c ∧ c ≤ 57
      · have hh := HHX.out (c - 48) (by omega) (by omega) (hx_digit hdig)
        have HH := hid hh
        obtain ⟨hd0, hd1⟩ := hdig
        clear hh
        go_wp2
        exact ⟨⟨k + 1, a * 16 + (c - 48), rfl, (by first | rfl | (congr 1; omega)), (by first | rfl | (congr 1; omega)), by omega, by omega, hid HH.out.1, hid HH.out.2⟩, by simp [intOf]; omega⟩
      · have HLW : Hid (∀ W : World, Calls Tryz.prog 120 #[.int .u8 c] W fun e w' => e = .returned (.int .u8 (bits .or .u8 c 32)) ∧ W = w') := hid (fun W => (Tryz.internal_strconv_lower c W).mono fun e w' h => ⟨h.1, h.2.symm⟩)
        have hv0 := bits_lo_u8 .or c 32
        have hv1 := bits_hi_u8 .or c 32
        rcases low_hex c0 c1 hdig with ⟨hl0, hl1, hl2⟩ | ⟨hl, hl2⟩
        · have hh := HHX.out (bits .or .u8 c 32 - 87) (by omega) (by omega) hl2
          have HH := hid hh
          have h95 : (c == 95) = false := by
            rw [beq_eq_false_iff_ne]
            intro e
            subst e
            revert hl1
            decide
          clear hh hl2
          generalize bits .or .u8 c 32 = L at *
          have hdig2 : c < 48 ∨ 57 < c := by omega
          clear hdig HHX HNO
          rcases hdig2 with hdig | hdig
          all_goals
            go_wp2_with (go_at_call 120; refine (HLW.out _).mono ?_; rintro e w' ⟨rfl, rfl⟩)
            all_goals exact ⟨⟨k + 1, a * 16 + (L - 87), rfl, (by first | rfl | (congr 1; omega)), (by first | rfl | (congr 1; omega)), by omega, by omega, hid HH.out.1, hid HH.out.2⟩, by simp [intOf]; omega⟩
        · have HH := hid (HNO.out hl2)
          clear hl2
          have hc95 : c = 95 ∨ (c == 95) = false := by by_cases h : c = 95; exact .inl h; exact .inr (by simpa using h)
          generalize bits .or .u8 c 32 = L at *
          have hdig2 : c < 48 ∨ 57 < c := by omega
          have hl2 : L < 97 ∨ (97 ≤ L ∧ 103 ≤ L ∧ L ≤ 122) ∨ 122 < L := by omega
          clear hdig HHX HNO hl
          rcases hc95 with rfl | hc95 <;> rcases hdig2 with hdig | hdig <;> rcases hl2 with hl2 | ⟨hl2, hl3, hl4⟩ | hl2
          all_goals
            go_wp2_with (go_at_call 120; refine (HLW.out _).mono ?_; rintro e w' ⟨rfl, rfl⟩)
            all_goals go_ret2
            all_goals exact ⟨by rw [← HH.out]; rfl, rfl⟩
    · have hkk : k = n0 := by omega
      subst hkk
      have HH : Hid (some a = p16 0 xs) := hid (by rw [← HP.out, List.drop_eq_nil_of_le (by omega)]; rfl)
      go_wp2
      go_ret2
      exact ⟨by rw [← HH.out]; rfl, rfl⟩
end Go.Proofs.YtcenkalhklpajaaGreatDoor
namespace Go.Proofs.YtcenkalhklpajaaGreatDoor
open Go.RowKit Go.Sort
set_option maxRecDepth 1000000
set_option linter.unusedVariables false
set_option maxHeartbeats 8000000

/-- The error's variable can be read. -/
def Sentinel (w : World) (g : Nat) : Prop := ∃ te pe, w.cell? ⟨g, 0, none⟩ = some (.iface te pe)
theorem Sentinel.kept {w w' : World} {g : Nat} (h : Sentinel w g) (hb : Below w.heap.size w w') : Sentinel w' g := by
  obtain ⟨te, pe, h⟩ := h
  exact ⟨te, pe, cell_keptG h w' hb⟩
theorem parse16P (xs : List Int) (hb : ∀ x ∈ xs, 0 ≤ x ∧ x ≤ 255) (hne : xs.length ≠ 0) (hle : xs.length ≤ 16) (w : World) (hs : Sentinel w 2) :
    Calls Tryz.prog 73 #[.string (strOfNums xs), .int .i64 16, .int .i64 64] w fun e w' => (∃ n er, e = .returned (.tuple #[.int .u64 n, er]) ∧ ((p16 0 xs = some n ∧ er = .nilIface) ∨ (p16 0 xs = none ∧ ∃ t v, er = .iface t v))) ∧ Below w.heap.size w w' := by
  have HC := hid (parse16 xs hb hne hle w)
  have hbw := Lib.bytesWorld_below w 5 (strOfNums xs)
  have HS := hid (hs.kept hbw)
  have HB := hid hbw
  have hsz : (strOfNums xs).size ≤ 281474976710656 := by rw [strOfNums_size]; omega
  generalize Lib.bytesWorld w 5 (strOfNums xs) = W1 at HC HS HB
  clear hbw
  cases hp : p16 0 xs with
  | some n =>
    rw [hp] at HC
    simp only [got16] at HC
    go_enter Tryz.func73, Tryz.ntmps73
    go_wp2_with (go_at_call 103; refine HC.out.mono ?_; rintro e w' ⟨rfl, rfl⟩)
    go_ret2
    exact ⟨⟨n, _, rfl, .inl ⟨rfl, rfl⟩⟩, HB.out⟩
  | none =>
    rw [hp] at HC
    simp only [got16] at HC
    obtain ⟨te, pe, hv⟩ := HS.out
    have HT := hid (Tryz.strconv_toError_syntax ⟨#[80, 97, 114, 115, 101, 85, 105, 110, 116]⟩ (strOfNums xs) 16 64 (.iface te pe) W1 hsz hv (.inr ⟨te, pe, rfl⟩))
    clear hv
    go_enter Tryz.func73, Tryz.ntmps73
    go_wp2_with (first | (go_at_call 103; refine HC.out.mono ?_; rintro e w' ⟨rfl, rfl⟩) | (go_at_call 104; refine HT.out.mono ?_; rintro e w' ⟨N, rfl, _, _, hb2⟩; replace hb2 := hid hb2))
    go_ret2
    exact ⟨⟨0, _, rfl, .inr ⟨by trivial, _, _, rfl⟩⟩, below_trans HB.out hb2.out⟩
theorem str_u8s (xs : List Int) : (strOfNums xs).data.toList = xs.map fun n => UInt8.ofNat n.toNat := strOfNums_data xs
theorem nums_u8s (l : List UInt8) : (⟨l.toArray⟩ : ByteArray) = strOfNums (l.map fun b => (b.toNat : Int)) := by
  apply ByteArray.ext
  apply Array.ext'
  rw [str_u8s]
  simp [Function.comp_def]
theorem map_back {xs : List Int} (hb : ∀ x ∈ xs, 0 ≤ x ∧ x ≤ 255) : (xs.map fun n => UInt8.ofNat n.toNat).map (fun b => (b.toNat : Int)) = xs := by
  rw [List.map_map]
  conv => rhs; rw [← List.map_id xs]
  refine List.map_congr_left fun x hx => ?_
  have := hb x hx
  simp
  omega
/-- Cutting one sign off the front. -/
theorem cutW (xs : List Int) (sg : UInt8) (hb : ∀ x ∈ xs, 0 ≤ x ∧ x ≤ 255) (w : World) :
    Calls Tryz.prog 72 #[.string (strOfNums xs), .string ⟨#[sg]⟩] w fun e w' => e = .returned (.tuple #[.string (strOfNums (if xs.head? = some (sg.toNat : Int) then xs.drop 1 else xs)), .bool (decide (xs.head? = some (sg.toNat : Int)))]) ∧ w = w' := by
  refine (Tryz.strings_CutPrefix (strOfNums xs) ⟨#[sg]⟩ w).mono ?_
  rintro e w' ⟨rfl, rfl⟩
  refine ⟨?_, rfl⟩
  have hh : Lib.hasPrefix (strOfNums xs).data.toList [sg] = decide (xs.head? = some (sg.toNat : Int)) := by
    rw [str_u8s]
    cases xs with
    | nil => simp [Lib.hasPrefix]
    | cons x r =>
      have hx := hb x (by simp)
      have hs := sg.toNat_lt
      rw [Bool.eq_iff_iff]
      simp only [Lib.hasPrefix, List.map_cons, List.head?_cons, Option.some.injEq, decide_eq_true_eq, List.isPrefixOf, Bool.and_true, beq_iff_eq]
      constructor
      · intro e
        have := congrArg UInt8.toNat e
        simp only [UInt8.toNat_ofNat'] at this
        omega
      · intro e
        subst e
        simp
  have ht : (⟨(Lib.trimPrefix (strOfNums xs).data.toList [sg]).toArray⟩ : ByteArray) = strOfNums (if xs.head? = some (sg.toNat : Int) then xs.drop 1 else xs) := by
    rw [nums_u8s]
    unfold Lib.trimPrefix
    rw [hh, str_u8s]
    by_cases h : xs.head? = some (sg.toNat : Int)
    · simp only [h, decide_true, if_true, List.length_singleton]
      rw [← List.map_drop, map_back (fun x hx => hb x (List.mem_of_mem_drop hx))]
    · simp only [h, decide_false, if_false]
      rw [if_neg (by simp), map_back hb]
  show Ending.returned (.tuple #[.string ⟨(Lib.trimPrefix (strOfNums xs).data.toList [sg]).toArray⟩, .bool (Lib.hasPrefix (strOfNums xs).data.toList [sg])]) = _
  rw [ht, hh]
theorem trimW (xs : List Int) (sg : UInt8) (hb : ∀ x ∈ xs, 0 ≤ x ∧ x ≤ 255) (w : World) :
    Calls Tryz.prog 75 #[.string (strOfNums xs), .string ⟨#[sg]⟩] w fun e w' => e = .returned (.string (strOfNums (if xs.head? = some (sg.toNat : Int) then xs.drop 1 else xs))) ∧ w = w' := by
  refine (Tryz.strings_TrimPrefix (strOfNums xs) ⟨#[sg]⟩ w).mono ?_
  rintro e w' ⟨rfl, rfl⟩
  refine ⟨?_, rfl⟩
  have hh : Lib.hasPrefix (strOfNums xs).data.toList [sg] = decide (xs.head? = some (sg.toNat : Int)) := by
    rw [str_u8s]
    cases xs with
    | nil => simp [Lib.hasPrefix]
    | cons x r =>
      have hx := hb x (by simp)
      have hs := sg.toNat_lt
      rw [Bool.eq_iff_iff]
      simp only [Lib.hasPrefix, List.map_cons, List.head?_cons, Option.some.injEq, decide_eq_true_eq, List.isPrefixOf, Bool.and_true, beq_iff_eq]
      constructor
      · intro e
        have := congrArg UInt8.toNat e
        simp only [UInt8.toNat_ofNat'] at this
        omega
      · intro e
        subst e
        simp
  have ht : (⟨(Lib.trimPrefix (strOfNums xs).data.toList [sg]).toArray⟩ : ByteArray) = strOfNums (if xs.head? = some (sg.toNat : Int) then xs.drop 1 else xs) := by
    rw [nums_u8s]
    unfold Lib.trimPrefix
    rw [hh, str_u8s]
    by_cases h : xs.head? = some (sg.toNat : Int)
    · simp only [h, decide_true, if_true, List.length_singleton]
      rw [← List.map_drop, map_back (fun x hx => hb x (List.mem_of_mem_drop hx))]
    · simp only [h, decide_false, if_false]
      rw [if_neg (by simp), map_back hb]
  show Ending.returned (.string ⟨(Lib.trimPrefix (strOfNums xs).data.toList [sg]).toArray⟩) = _
  rw [ht]

/-- A float's bits, read: the number, the error. -/
def pbits (sg : Int) (size : Nat) (xs : List Int) : Int × Int := if xs.head? = some sg ∧ xs.length = size + 1 then (match p16 0 (xs.drop 1) with | some n => (n, 0) | none => (0, 11)) else (0, 11)
theorem ret_ui {a b c d : Int} (h1 : a = c) (h2 : b = d) : Ending.returned (.tuple #[.int .u64 a, .int .i64 b]) = .returned (.tuple #[.int .u64 c, .int .i64 d]) := by rw [h1, h2]
theorem parseBitsW (xs : List Int) (sg : UInt8) (size : Nat) (hz : size = 8 ∨ size = 16) (hb : ∀ x ∈ xs, 0 ≤ x ∧ x ≤ 255) (hl : xs.length ≤ 9223372036854775807) (w : World) (hs : Sentinel w 2) :
    Calls Tryz.prog 39 #[.string (strOfNums xs), .string ⟨#[sg]⟩, .int .i64 size] w fun e w' => e = .returned (.tuple #[.int .u64 (pbits sg.toNat size xs).1, .int .i64 (pbits sg.toNat size xs).2]) ∧ Below w.heap.size w w' := by
  have HC := hid (fun W => cutW xs sg hb W)
  have HG : ∀ g, pbits sg.toNat size xs = g → Hid (pbits sg.toNat size xs = g) := fun _ h => h
  by_cases hp : xs.head? = some (sg.toNat : Int)
  · rw [if_pos hp] at HC
    have hd : decide (xs.head? = some (sg.toNat : Int)) = true := by simpa using hp
    rw [hd] at HC
    have hlen : (strOfNums (xs.drop 1)).size = xs.length - 1 := by rw [strOfNums_size]; simp
    have h1 : 1 ≤ xs.length := by cases xs with
      | nil => simp at hp
      | cons x r => simp
    by_cases hle : xs.length = size + 1
    · have hln : xs.length - 1 = size := by omega
      rw [hln] at hlen
      have HQ := hid (fun (W : World) (h : Sentinel W 2) => parse16P (xs.drop 1) (fun x hx => hb x (List.mem_of_mem_drop hx)) (by simp; omega) (by simp; omega) W h)
      have HS := hid hs
      have HR : Hid (pbits sg.toNat size xs = (match p16 0 (xs.drop 1) with | some n => (n, 0) | none => (0, 11))) := hid (by unfold pbits; rw [if_pos ⟨hp, hle⟩])
      obtain ⟨ts, hts⟩ : ∃ ts, xs.drop 1 = ts := ⟨_, rfl⟩
      rw [hts] at HC hlen HQ HR
      clear hp hd hle h1 hln hs HG hts
      rcases hz with rfl | rfl
      all_goals
        go_enter Tryz.func39, Tryz.ntmps39
        go_wp2_with fail
        refine (HC.out _).mono ?_
        rintro e w' ⟨rfl, rfl⟩
        go_wp2_with fail
        refine (HQ.out _ HS.out).mono ?_
        rintro e w2 ⟨⟨n, er, rfl, hc⟩, hb2⟩
        replace hb2 := hid hb2
        rcases hc with ⟨hc, rfl⟩ | ⟨hc, t, v, rfl⟩
        all_goals
          replace hc := hid hc
          go_wp2
          go_ret2
          exact ⟨ret_ui (by rw [HR.out, hc.out]) (by rw [HR.out, hc.out]), hb2.out⟩
    · have hne : (((xs.length - 1 : Nat) : Int) != (size : Int)) = true := by simp; omega
      have HR := hid (show pbits sg.toNat size xs = (0, 11) by unfold pbits; rw [if_neg (fun h => hle h.2)])
      obtain ⟨ts, hts⟩ : ∃ ts, xs.drop 1 = ts := ⟨_, rfl⟩
      rw [hts] at HC hlen
      generalize xs.length - 1 = ln at *
      clear hp hd hle hs HG hts
      go_enter Tryz.func39, Tryz.ntmps39
      go_wp2_with (go_at_call 72; refine (HC.out _).mono ?_; rintro e w' ⟨rfl, rfl⟩)
      go_ret2
      exact ⟨ret_ui (by rw [HR.out]) (by rw [HR.out]), Below.refl _ _⟩
  · have hd : decide (xs.head? = some (sg.toNat : Int)) = false := by simpa using hp
    rw [hd] at HC
    have HR := hid (show pbits sg.toNat size xs = (0, 11) by unfold pbits; rw [if_neg (fun h => hp h.1)])
    generalize (if xs.head? = some (sg.toNat : Int) then xs.drop 1 else xs) = zs at HC
    clear hp hd hs HG
    go_enter Tryz.func39, Tryz.ntmps39
    go_wp2_with (go_at_call 72; refine (HC.out _).mono ?_; rintro e w' ⟨rfl, rfl⟩)
    go_ret2
    exact ⟨ret_ui (by rw [HR.out]) (by rw [HR.out]), Below.refl _ _⟩
end Go.Proofs.YtcenkalhklpajaaGreatDoor
namespace Go.Proofs.YtcenkalhklpajaaGreatDoor
open Go.RowKit Go.Sort
set_option maxRecDepth 1000000
set_option linter.unusedVariables false
set_option maxHeartbeats 8000000

/-- Digits by base 16, so many. -/
def hexD : Nat → Int → List Int
  | 0, _ => []
  | s + 1, n => hexD s (n / 16) ++ [dg (n % 16)]
theorem hexD_len : ∀ (s : Nat) (n : Int), (hexD s n).length = s
  | 0, _ => rfl
  | s + 1, n => by rw [hexD, List.length_append, hexD_len s]; rfl
theorem hexD_zero : ∀ (s : Nat), hexD s 0 = List.replicate s 48
  | 0 => rfl
  | s + 1 => by
    rw [hexD, show (0 : Int) / 16 = 0 by decide, hexD_zero s, show dg (0 % 16) = 48 by decide, List.replicate_succ']
theorem hexF_fuel : ∀ (f : Nat) (U : Int), 0 ≤ U → U < 16 ^ (f + 1) → hexF (f + 1) U = hexF f U
  | 0, U, h0, h1 => by
    have : U < 16 := by simpa using h1
    rw [hexF_small _ this, hexF_small _ this]
  | f + 1, U, h0, h1 => by
    by_cases h : U < 16
    · rw [hexF_small _ h, hexF_small _ h]
    · rw [hexF_big _ h, hexF_big _ h, hexF_fuel f (U / 16) (by omega) (hex_div _ h1)]
theorem hexF_D : ∀ (f s : Nat) (n : Int), 0 ≤ n → n < 16 ^ (f + 1) → f ≤ s → hexD (s + 1) n = List.replicate (s + 1 - (hexF f n).length) 48 ++ hexF f n
  | 0, s, n, h0, h1, _ => by
    have h : n < 16 := by simpa using h1
    rw [hexF_small _ h, hexD, show n / 16 = 0 by omega, hexD_zero, show n % 16 = n by omega]
    simp
  | f + 1, s, n, h0, h1, hs => by
    by_cases h : n < 16
    · rw [hexF_small _ h, hexD, show n / 16 = 0 by omega, hexD_zero, show n % 16 = n by omega]
      simp
    · obtain ⟨s, rfl⟩ : ∃ t, s = t + 1 := ⟨s - 1, by omega⟩
      rw [hexF_big _ h, hexD, hexF_D f s (n / 16) (by omega) (hex_div _ h1) (by omega), List.append_assoc]
      have := hexF_len f (n / 16)
      rw [List.length_append, List.length_singleton, show s + 1 + 1 - ((hexF f (n / 16)).length + 1) = s + 1 - (hexF f (n / 16)).length by omega]
theorem pow16_mono (a : Nat) : ∀ b : Nat, a ≤ b → (16 : Int) ^ a ≤ 16 ^ b
  | 0, h => by rw [show a = 0 by omega]; decide
  | b + 1, h => by
    by_cases e : a = b + 1
    · rw [e]; exact Int.le_refl _
    · have := pow16_mono a b (by omega)
      have hp : (0 : Int) < 16 ^ b := Int.pow_pos (by decide)
      rw [Int.pow_succ]; omega
theorem hexF_down : ∀ (g f : Nat) (n : Int), 0 ≤ n → n < 16 ^ (f + 1) → hexF (f + g) n = hexF f n
  | 0, f, n, _, _ => rfl
  | g + 1, f, n, h0, h1 => by
    have hp : (16 : Int) ^ (f + 1) ≤ 16 ^ (f + g + 1) := pow16_mono _ _ (by omega)
    rw [show f + (g + 1) = (f + g) + 1 by omega, hexF_fuel (f + g) n h0 (by omega), hexF_down g f n h0 h1]
theorem hex_pad (s : Nat) (hs : s ≤ 15) (n : Int) (h0 : 0 ≤ n) (h1 : n < 16 ^ (s + 1)) : List.replicate (s + 1 - (hexm n).length) 48 ++ hexm n = hexD (s + 1) n := by
  have e : hexm n = hexF s n := by unfold hexm; rw [show 15 = s + (15 - s) by omega, hexF_down (15 - s) s n h0 h1]
  rw [e, hexF_D s s n h0 h1 (Nat.le_refl _)]
theorem hexD_bd : ∀ (s : Nat) (n : Int), ∀ x ∈ hexD s n, 0 ≤ x ∧ x ≤ 255
  | 0, _, x, hx => by simp [hexD] at hx
  | s + 1, n, x, hx => by
    rw [hexD] at hx
    rcases List.mem_append.1 hx with hx | hx
    · exact hexD_bd s (n / 16) x hx
    · simp at hx; subst hx; unfold dg; split <;> omega
theorem str_app (xs ys : List Int) : strOfNums xs ++ strOfNums ys = strOfNums (xs ++ ys) := by
  apply ByteArray.ext
  apply Array.ext'
  simp [strOfNums]
theorem bitsTextW (sg : Int) (s : Nat) (hs : s = 7 ∨ s = 15) (n : Int) (h0 : 0 ≤ n) (h1 : n < 16 ^ (s + 1)) (w : World) (h : w.cell? ⟨5, 15, none⟩ = some (.int .u8 4)) :
    Calls Tryz.prog 32 #[.string (strOfNums [sg]), .int .u64 n, .int .i64 (s + 1 : Nat)] w fun e w' => e = .returned (.string (strOfNums (sg :: hexD (s + 1) n))) ∧ Below w.heap.size w w' := by
  have hn : n < 18446744073709551616 := by
    have : (16 : Int) ^ (s + 1) ≤ 18446744073709551616 := by rcases hs with rfl | rfl <;> decide
    omega
  have hl := hexF_len 15 n
  have hls : (hexm n).length ≤ s + 1 := by
    have e := congrArg List.length (hex_pad s (by omega) n h0 h1)
    rw [hexD_len] at e
    simp at e
    omega
  have HF := hid (fmtU16P n h0 hn w h)
  have hsz : (strOfNums (hexm n)).size = (hexm n).length := strOfNums_size _
  obtain ⟨ln, hln⟩ : ∃ ln, (hexm n).length = ln := ⟨_, rfl⟩
  rw [hln] at hsz hls
  have hl1 : ln ≤ 16 := by rw [← hln]; exact hl.2
  have HR := hid (fun W => (Tryz.strings_Repeat ⟨#[48]⟩ (s + 1 - ln) W (by omega) (by show 1 * _ ≤ _; omega)))
  have hrep : (⟨(Lib.repeatL (⟨#[48]⟩ : ByteArray).data.toList (s + 1 - ln)).toArray⟩ : ByteArray) = strOfNums (List.replicate (s + 1 - ln) 48) := by
    rw [show ∀ c, Lib.repeatL (⟨#[48]⟩ : ByteArray).data.toList c = List.replicate c 48 from fun c => by induction c with | zero => rfl | succ c ih => rw [Lib.repeatL, ih]; rfl]
    apply ByteArray.ext
    apply Array.ext'
    simp [strOfNums]
  rw [hrep] at HR
  have hsub : ((s + 1 : Nat) : Int) - (ln : Int) = ((s + 1 - ln : Nat) : Int) := by omega
  have H := hid (hex_pad s (by omega) n h0 h1)
  rw [hln] at H
  have hsub2 : ((s : Int) + 1 - (ln : Int)) = ((s + 1 - ln : Nat) : Int) := by omega
  have HR2 : Hid (∀ W : World, Calls Tryz.prog 68 #[.string ⟨#[48]⟩, .int .i64 ((s : Int) + 1 - (ln : Int))] W fun e w' => e = .returned (.string (strOfNums (List.replicate (s + 1 - ln) 48))) ∧ Below W.heap.size W w') := hid (fun W => by rw [hsub2]; exact HR.out W)
  have z1 : (strOfNums [sg]).size = 1 := strOfNums_size _
  have z2 : (strOfNums (List.replicate (s + 1 - ln) 48)).size = s + 1 - ln := by rw [strOfNums_size]; simp
  have z3 := str_app [sg] (List.replicate (s + 1 - ln) 48)
  have z4 : (strOfNums ([sg] ++ List.replicate (s + 1 - ln) 48)).size = 1 + (s + 1 - ln) := by rw [strOfNums_size]; simp; omega
  have z5 := str_app ([sg] ++ List.replicate (s + 1 - ln) 48) (hexm n)
  have HE : Hid (([sg] ++ List.replicate (s + 1 - ln) 48) ++ hexm n = sg :: hexD (s + 1) n) := hid (by rw [← H.out]; simp)
  generalize hz : [sg] ++ List.replicate (s + 1 - ln) 48 = zz at *
  clear hrep hl hls h hln HR hsub hsub2 hz H
  obtain ⟨q, z2', hqb, z4'⟩ : ∃ q, (strOfNums (List.replicate (s + 1 - ln) 48)).size = q ∧ q ≤ 16 ∧ (strOfNums zz).size = 1 + q := ⟨_, z2, by omega, z4⟩
  clear z2 z4
  go_enter Tryz.func32, Tryz.ntmps32
  go_wp2_with fail
  refine HF.out.mono ?_
  rintro e w2 ⟨rfl, hb2⟩
  replace hb2 := hid hb2
  go_wp2_with fail
  refine (HR2.out _).mono ?_
  rintro e w3 ⟨rfl, hb3⟩
  replace hb3 := hid hb3
  go_wp2
  all_goals first | omega | skip
  go_ret
  exact ⟨congrArg (fun l => Ending.returned (.string (strOfNums l))) HE.out, below_trans hb2.out hb3.out⟩
end Go.Proofs.YtcenkalhklpajaaGreatDoor
namespace Go.Proofs.YtcenkalhklpajaaGreatDoor
open Go.RowKit Go.Sort
set_option maxRecDepth 1000000
set_option linter.unusedVariables false
set_option maxHeartbeats 8000000

def isDig (c : Int) : Bool := decide (48 ≤ c ∧ c ≤ 57)
def digs (xs : List Int) : Bool := decide (xs ≠ []) && xs.all isDig
def dval : Int → List Int → Int
  | a, [] => a
  | a, c :: r => dval (a * 10 + (c - 48)) r
theorem dval_ge : ∀ (xs : List Int) (a : Int), 0 ≤ a → xs.all isDig = true → a ≤ dval a xs
  | [], a, _, _ => Int.le_refl _
  | c :: r, a, ha, h => by
    simp only [List.all_cons, Bool.and_eq_true, isDig, decide_eq_true_eq] at h
    have := dval_ge r (a * 10 + (c - 48)) (by omega) h.2
    show a ≤ dval (a * 10 + (c - 48)) r
    omega
theorem uint_dval : ∀ (xs : List Int) (acc : Nat), xs.all isDig = true → acc < 18446744073709551616 → Lib.parseUint10 acc (xs.map fun n => UInt8.ofNat n.toNat) = if dval acc xs < 18446744073709551616 then .ok (dval acc xs).toNat else .range
  | [], acc, _, h => by
    rw [List.map_nil, Lib.parseUint10, dval, if_pos (by omega)]
    simp
  | c :: r, acc, hd, h => by
    simp only [List.all_cons, Bool.and_eq_true] at hd
    obtain ⟨hc, hr⟩ := hd
    have hc2 : 48 ≤ c ∧ c ≤ 57 := by simpa [isDig] using hc
    have hn : (UInt8.ofNat c.toNat).toNat = c.toNat := by simp only [UInt8.toNat_ofNat']; omega
    rw [List.map_cons, Lib.parseUint10, hn, if_pos (by omega)]
    have hge := dval_ge r ((acc : Int) * 10 + (c - 48)) (by omega) hr
    by_cases h1 : 1844674407370955162 ≤ acc
    · rw [if_pos h1]
      show _ = if dval ((acc : Int) * 10 + (c - 48)) r < 18446744073709551616 then _ else _
      rw [if_neg (by omega)]
    · rw [if_neg h1]
      by_cases h2 : 18446744073709551616 ≤ acc * 10 + (c.toNat - 48)
      · rw [if_pos h2]
        show _ = if dval ((acc : Int) * 10 + (c - 48)) r < 18446744073709551616 then _ else _
        rw [if_neg (by omega)]
      · rw [if_neg h2, uint_dval r (acc * 10 + (c.toNat - 48)) hr (by omega)]
        have e : ((acc * 10 + (c.toNat - 48) : Nat) : Int) = (acc : Int) * 10 + (c - 48) := by omega
        rw [e]
        rfl
theorem digs_parts {xs : List Int} (h : digs xs = true) : xs ≠ [] ∧ xs.all isDig = true := by
  unfold digs at h
  rw [Bool.and_eq_true] at h
  exact ⟨by simpa using h.1, h.2⟩
theorem parseU_digs {xs : List Int} (h : digs xs = true) : Lib.parseUintB 64 (strOfNums xs).data.toList = if dval 0 xs < 18446744073709551616 then .ok (dval 0 xs).toNat else .range := by
  obtain ⟨h1, h2⟩ := digs_parts h
  rw [Lib.parseUintB_64, str_u8s]
  unfold Lib.parseMag
  rw [if_neg (by simpa using h1)]
  exact uint_dval xs 0 h2 (by decide)
theorem dval_nonneg {xs : List Int} (h : digs xs = true) : 0 ≤ dval 0 xs := dval_ge xs 0 (by decide) (digs_parts h).2
theorem parseI_plain {xs : List Int} (h : digs xs = true) : Lib.parseIntB 64 (strOfNums xs).data.toList = if dval 0 xs < 9223372036854775808 then .ok (dval 0 xs) else .range := by
  obtain ⟨h1, h2⟩ := digs_parts h
  have hu := parseU_digs h
  have hn := dval_nonneg h
  cases xs with
  | nil => exact absurd rfl h1
  | cons c r =>
    simp only [List.all_cons, Bool.and_eq_true] at h2
    have hc2 : 48 ≤ c ∧ c ≤ 57 := by simpa [isDig] using h2.1
    have hc : (UInt8.ofNat c.toNat).toNat = c.toNat := by simp only [UInt8.toNat_ofNat']; omega
    rw [str_u8s] at hu ⊢
    rw [List.map_cons] at hu ⊢
    unfold Lib.parseIntB
    simp only [hc]
    rw [if_neg (by omega), hu]
    generalize dval 0 (c :: r) = v at *
    by_cases hv : v < 18446744073709551616
    · rw [if_pos hv]
      simp only
      by_cases hv2 : v < 9223372036854775808
      · rw [if_pos hv2, if_neg (by omega), if_neg (by omega), if_neg (by omega)]
        congr 1
        omega
      · rw [if_neg hv2, if_pos (by omega)]
    · rw [if_neg hv, if_neg (by omega)]
theorem parseI_minus {xs : List Int} (h : digs xs = true) : Lib.parseIntB 64 (strOfNums (45 :: xs)).data.toList = if dval 0 xs ≤ 9223372036854775808 then .ok (-(dval 0 xs)) else .range := by
  have hu := parseU_digs h
  have hn := dval_nonneg h
  rw [str_u8s] at hu ⊢
  rw [List.map_cons]
  unfold Lib.parseIntB
  have hc : (UInt8.ofNat (45 : Int).toNat).toNat = 45 := by decide
  simp only [hc]
  rw [if_pos (by simp), hu]
  generalize dval 0 xs = v at *
  by_cases hv : v < 18446744073709551616
  · rw [if_pos hv]
    simp only
    by_cases hv2 : v ≤ 9223372036854775808
    · rw [if_pos hv2, if_neg (by simp), if_neg (by omega), if_pos (by simp)]
      congr 1
      omega
    · rw [if_neg hv2, if_neg (by simp), if_pos ⟨trivial, by rw [show (2 : Nat) ^ (64 - 1) = 9223372036854775808 by decide]; omega⟩]
  · rw [if_neg hv, if_neg (by omega)]

/-- allDigits. -/
theorem all_take {xs : List Int} {k : Nat} (h : k < xs.length) : (xs.take (k + 1)).all isDig = ((xs.take k).all isDig && isDig (xs[k]?.getD 0)) := by
  rw [List.take_add_one, List.all_append]
  simp [h]
theorem allDigitsW (xs : List Int) (hb : ∀ x ∈ xs, 0 ≤ x ∧ x ≤ 255) (hl : xs.length ≤ 9223372036854775807) (w : World) :
    Calls Tryz.prog 76 #[.string (strOfNums xs)] w fun e w' => e = .returned (.bool (digs xs)) ∧ w = w' := by
  have hsz : (strOfNums xs).size = xs.length := strOfNums_size xs
  have HI := hid (fun i h (k : IntKind) W => index_str hb i h k W)
  obtain ⟨n0, hn⟩ : ∃ n0, xs.length = n0 := ⟨_, rfl⟩
  rw [hn] at hsz hl HI
  go_enter Tryz.func76, Tryz.ntmps76
  go_wp2
  go_loop [6] (fun c => ∃ k : Nat, k ≤ n0 ∧ c = .int .i64 k ∧ Hid ((xs.take k).all isDig = true)) (fun c => n0 - (intOf c).toNat)
  case atStart => exact ⟨0, by omega, rfl, hid rfl⟩
  case round =>
    obtain ⟨k, hk, rfl, HK⟩ := hrel
    by_cases hkn : k < n0
    · have hi := fun W => HI.out k hkn .i64 W
      have hx := hb (xs[k]'(by omega)) (List.getElem_mem _)
      have hget : xs[k]?.getD 0 = xs[k]'(by omega) := by simp [show k < xs.length by omega]
      rw [← hget] at hx
      have HT := hid (all_take (xs := xs) (k := k) (by omega))
      have hki : (k : Int) < (n0 : Int) := by omega
      have HBAD : Hid (isDig (xs[k]?.getD 0) = false → digs xs = false) := hid (fun h => by
        unfold digs
        have : xs.all isDig = false := by
          rw [List.all_eq_false]
          refine ⟨xs[k]?.getD 0, ?_, by simp [h]⟩
          rw [hget]; exact List.getElem_mem _
        rw [this]; simp)
      clear hget
      generalize xs[k]?.getD 0 = c at *
      by_cases h1 : c < 48
      · have H := hid (HBAD.out (by unfold isDig; simp; omega))
        clear HBAD
        go_wp2
        try rw [Exit.noGoto_ret]
        go_ret
        exact ⟨ret_bool H.out.symm, rfl⟩
      · by_cases h2 : 57 < c
        · have H := hid (HBAD.out (by unfold isDig; simp; omega))
          clear HBAD
          go_wp2
          try rw [Exit.noGoto_ret]
          go_ret
          exact ⟨ret_bool H.out.symm, rfl⟩
        · have H : Hid ((List.take (k + 1) xs).all isDig = true) := hid (by rw [HT.out, HK.out]; show isDig c = true; unfold isDig; simp; omega)
          clear HBAD HT
          go_wp2
          exact ⟨⟨k + 1, by omega, by go_num, hid H.out⟩, by simp [intOf]; omega⟩
    · have hkk : k = n0 := by omega
      subst hkk
      have H : Hid (decide (0 < k) = digs xs) := hid (by
        have := HK.out
        rw [List.take_of_length_le (by omega)] at this
        unfold digs
        rw [this, Bool.and_true, decide_eq_decide]
        constructor
        · intro h e; subst e; simp at hn; omega
        · intro h; cases xs with
          | nil => exact absurd rfl h
          | cons x r => simp at hn; omega)
      go_wp2
      go_ret
      exact ⟨ret_bool H.out, rfl⟩

/-- A whole number, read: it need not fit its kind, but in 64 bits. -/
def pwhole (k : Int) (xs : List Int) : Int × Int :=
  if kneg k = true ∧ xs.head? = some 45 then (if digs (xs.drop 1) = false then (0, 11) else if dval 0 (xs.drop 1) ≤ 9223372036854775808 then (uns (-(dval 0 (xs.drop 1))), 0) else (0, 7))
  else if digs xs = false then (0, 11) else if dval 0 xs < (if kneg k = true then 9223372036854775808 else 18446744073709551616) then (dval 0 xs, 0) else (0, 7)
/-- What the library's ParseInt or ParseUint says: the number and that there is no error; or an error. -/
def Said (n : Option Int) (v : Int) (er : Value) : Prop := (n = some v ∧ er = .nilIface) ∨ (n = none ∧ ∃ t p, er = .iface t p)
theorem var_cell {w : World} {g : Nat} (h : Sentinel w g) {name : String} (hv : ∀ v, w.cell? ⟨g, 0, none⟩ = some v → w.var? Tryz.prog name = some #[v]) : ∃ tp p, w.var? Tryz.prog name = some #[.iface tp p] := by
  obtain ⟨te, pe, h⟩ := h
  exact ⟨te, pe, hv _ h⟩
def endI : Option Int → Lib.NumEnd Int
  | some n => .ok n
  | none => .range
def endU : Option Int → Lib.NumEnd Nat
  | some n => .ok n.toNat
  | none => .range
def endE : Option Int → Int × Int
  | some n => (uns n, 0)
  | none => (0, 7)
theorem intP (zs : List Int) (v : Option Int) (hl : zs.length ≤ 281474976710656) (h : Lib.parseIntB 64 (strOfNums zs).data.toList = endI v) (w : World) (hs : Sentinel w 3) :
    Calls Tryz.prog 77 #[.string (strOfNums zs), .int .i64 10, .int .i64 64] w fun e w' => (∃ n er, e = .returned (.tuple #[.int .i64 n, er]) ∧ Said v n er) ∧ Below w.heap.size w w' := by
  have hsz : (strOfNums zs).size = zs.length := strOfNums_size zs
  obtain ⟨te, pe, hv⟩ := hs
  cases v with
  | some n =>
    refine (Tryz.strconv_ParseInt_10_at64_ok (strOfNums zs) (by omega) n h w).mono ?_
    rintro e w' ⟨rfl, hw⟩
    refine ⟨⟨n, _, rfl, .inl ⟨rfl, rfl⟩⟩, ?_⟩
    rcases hw with rfl | ⟨t, rfl⟩
    · exact Below.refl _ _
    · exact Lib.bytesWorld_below _ _ _
  | none =>
    refine (Tryz.strconv_ParseInt_10_at64_range (strOfNums zs) (by omega) h (.iface te pe) w hv (.inr ⟨te, pe, rfl⟩)).mono ?_
    rintro e w' ⟨N, rfl, _, _, hb⟩
    exact ⟨⟨_, _, rfl, .inr ⟨rfl, _, _, rfl⟩⟩, hb⟩
theorem uintP (zs : List Int) (v : Option Int) (hl : zs.length ≤ 281474976710656) (hv0 : ∀ n, v = some n → 0 ≤ n) (h : Lib.parseUintB 64 (strOfNums zs).data.toList = endU v) (w : World) (hs : Sentinel w 3) :
    Calls Tryz.prog 73 #[.string (strOfNums zs), .int .i64 10, .int .i64 64] w fun e w' => (∃ n er, e = .returned (.tuple #[.int .u64 n, er]) ∧ Said v n er) ∧ Below w.heap.size w w' := by
  have hsz : (strOfNums zs).size = zs.length := strOfNums_size zs
  obtain ⟨te, pe, hv⟩ := hs
  cases v with
  | some n =>
    have hn := hv0 n rfl
    refine (Tryz.strconv_ParseUint_10_at64_ok (strOfNums zs) (by omega) n.toNat h w).mono ?_
    rintro e w' ⟨rfl, hw⟩
    refine ⟨⟨_, _, rfl, .inl ⟨by rw [Int.toNat_of_nonneg hn], rfl⟩⟩, ?_⟩
    rcases hw with rfl | rfl
    · exact Below.refl _ _
    · exact Lib.bytesWorld_below _ _ _
  | none =>
    refine (Tryz.strconv_ParseUint_10_at64_range (strOfNums zs) (by omega) h (.iface te pe) w hv (.inr ⟨te, pe, rfl⟩)).mono ?_
    rintro e w' ⟨N, rfl, _, _, hb⟩
    exact ⟨⟨_, _, rfl, .inr ⟨rfl, _, _, rfl⟩⟩, hb⟩

theorem parseWholeW (k : Int) (xs : List Int) (hb : ∀ x ∈ xs, 0 ≤ x ∧ x ≤ 255) (hl : xs.length ≤ 281474976710656) (w : World) (hs : Sentinel w 3) :
    Calls Tryz.prog 41 #[.int .i64 k, .string (strOfNums xs)] w fun e w' => e = .returned (.tuple #[.int .u64 (pwhole k xs).1, .int .i64 (pwhole k xs).2]) ∧ Below w.heap.size w w' := by
  have HN := hid (fun W => negW k W)
  have HS := hid hs
  clear hs
  cases hk : kneg k with
  | false =>
    rw [hk] at HN
    have HD := hid (fun W => allDigitsW xs hb (by omega) W)
    have hpw : pwhole k xs = if digs xs = false then (0, 11) else if dval 0 xs < 18446744073709551616 then (dval 0 xs, 0) else (0, 7) := by unfold pwhole; simp [hk]
    cases hd : digs xs with
    | false =>
      rw [hd, if_pos rfl] at hpw
      rw [hd] at HD
      have HP := hid hpw
      clear hpw hd hk
      go_enter Tryz.func41, Tryz.ntmps41
      go_wp2_with (first | (go_at_call 34; refine (HN.out _).mono ?_; rintro e w' ⟨rfl, rfl⟩) | (go_at_call 76; refine (HD.out _).mono ?_; rintro e w' ⟨rfl, rfl⟩))
      go_ret2
      exact ⟨ret_ui (by rw [HP.out]) (by rw [HP.out]), Below.refl _ _⟩
    | true =>
      rw [hd, if_neg (by simp)] at hpw
      rw [hd] at HD
      have hn0 := dval_nonneg hd
      have HU := hid (fun (W : World) (h : Sentinel W 3) => uintP xs (if dval 0 xs < 18446744073709551616 then some (dval 0 xs) else none) hl (fun n h => by split at h <;> simp at h; omega) (by rw [parseU_digs hd]; split <;> rfl) W h)
      have HP := hid hpw
      clear hpw hd hk
      go_enter Tryz.func41, Tryz.ntmps41
      go_wp2_with (first | (go_at_call 34; refine (HN.out _).mono ?_; rintro e w' ⟨rfl, rfl⟩) | (go_at_call 76; refine (HD.out _).mono ?_; rintro e w' ⟨rfl, rfl⟩))
      refine (HU.out _ HS.out).mono ?_
      rintro e w2 ⟨⟨n, er, rfl, hc⟩, hb2⟩
      replace hb2 := hid hb2
      rcases hc with ⟨hc, rfl⟩ | ⟨hc, t, p, rfl⟩
      · have HC : Hid (pwhole k xs = (n, 0)) := hid (by rw [HP.out]; split at hc <;> simp at hc; rename_i h; rw [if_pos h, hc])
        clear hc
        go_wp2
        go_ret2
        exact ⟨ret_ui (by rw [HC.out]) (by rw [HC.out]), hb2.out⟩
      · have HC : Hid (pwhole k xs = (0, 7)) := hid (by rw [HP.out]; split at hc <;> simp at hc; rename_i h; rw [if_neg h])
        clear hc
        go_wp2
        go_ret2
        exact ⟨ret_ui (by rw [HC.out]) (by rw [HC.out]), hb2.out⟩
  | true =>
    rw [hk] at HN
    have HT := hid (fun W => trimW xs 45 hb W)
    -- the digits, and what ParseInt says of the whole
    obtain ⟨ds, hds, hdb, hdl, hpw⟩ : ∃ ds, (if xs.head? = some ((45 : UInt8).toNat : Int) then xs.drop 1 else xs) = ds ∧ (∀ x ∈ ds, 0 ≤ x ∧ x ≤ 255) ∧ ds.length ≤ xs.length ∧ ((digs ds = false ∧ pwhole k xs = (0, 11)) ∨ (digs ds = true ∧ ∃ v : Option Int, (Lib.parseIntB 64 (strOfNums xs).data.toList = endI v) ∧ pwhole k xs = endE v)) := by
      by_cases hm : xs.head? = some 45
      · obtain ⟨r, rfl⟩ : ∃ r, xs = 45 :: r := by cases xs with
          | nil => simp at hm
          | cons x r => simp at hm; exact ⟨r, by rw [hm]⟩
        refine ⟨r, by simp, fun x hx => hb x (by simp [hx]), by simp, ?_⟩
        cases hd : digs r with
        | false => exact .inl ⟨rfl, by unfold pwhole; simp [hk, hd]⟩
        | true =>
          refine .inr ⟨rfl, if dval 0 r ≤ 9223372036854775808 then some (-(dval 0 r)) else none, ?_, ?_⟩
          · rw [parseI_minus hd]; split <;> rfl
          · unfold pwhole
            rw [if_pos ⟨hk, rfl⟩, List.drop_succ_cons, List.drop_zero, hd, if_neg (by simp)]
            split <;> rfl
      · refine ⟨xs, by rw [show ((45 : UInt8).toNat : Int) = 45 from rfl, if_neg hm], hb, Nat.le_refl _, ?_⟩
        cases hd : digs xs with
        | false => exact .inl ⟨rfl, by unfold pwhole; simp [hk, hd, hm]⟩
        | true =>
          have hn0 := dval_nonneg hd
          refine .inr ⟨rfl, if dval 0 xs < 9223372036854775808 then some (dval 0 xs) else none, ?_, ?_⟩
          · rw [parseI_plain hd]; split <;> rfl
          · unfold pwhole
            rw [if_neg (by simp [hm]), hd, if_neg (by simp), if_pos hk]
            by_cases hv : dval 0 xs < 9223372036854775808
            · rw [if_pos hv, if_pos hv]
              show _ = (uns (dval 0 xs), (0 : Int))
              unfold uns
              congr 1
              omega
            · rw [if_neg hv, if_neg hv]; rfl
    rw [hds] at HT
    have HD := hid (fun W => allDigitsW ds hdb (by omega) W)
    rcases hpw with ⟨hd, hpw⟩ | ⟨hd, v, hv, hpw⟩
    · rw [hd] at HD
      have HP := hid hpw
      clear hpw hd hk hds hdb hdl
      go_enter Tryz.func41, Tryz.ntmps41
      go_wp2_with (first | (go_at_call 34; refine (HN.out _).mono ?_; rintro e w' ⟨rfl, rfl⟩) | (go_at_call 75; refine (HT.out _).mono ?_; rintro e w' ⟨rfl, rfl⟩) | (go_at_call 76; refine (HD.out _).mono ?_; rintro e w' ⟨rfl, rfl⟩))
      go_ret2
      exact ⟨ret_ui (by rw [HP.out]) (by rw [HP.out]), Below.refl _ _⟩
    · rw [hd] at HD
      have HU := hid (fun (W : World) (h : Sentinel W 3) => intP xs v hl hv W h)
      have HP := hid hpw
      clear hpw hd hk hds hdb hdl hv
      go_enter Tryz.func41, Tryz.ntmps41
      go_wp2_with (first | (go_at_call 34; refine (HN.out _).mono ?_; rintro e w' ⟨rfl, rfl⟩) | (go_at_call 75; refine (HT.out _).mono ?_; rintro e w' ⟨rfl, rfl⟩) | (go_at_call 76; refine (HD.out _).mono ?_; rintro e w' ⟨rfl, rfl⟩))
      refine (HU.out _ HS.out).mono ?_
      rintro e w2 ⟨⟨n, er, rfl, hc⟩, hb2⟩
      replace hb2 := hid hb2
      rcases hc with ⟨hc, rfl⟩ | ⟨hc, t, p, rfl⟩
      · have HC : Hid (pwhole k xs = (uns n, 0)) := hid (by rw [HP.out, hc]; rfl)
        have hu := uns_conv n
        clear hc
        go_wp2
        go_ret2
        exact ⟨ret_ui (by rw [HC.out]) (by rw [HC.out]), hb2.out⟩
      · have HC : Hid (pwhole k xs = (0, 7)) := hid (by rw [HP.out, hc]; rfl)
        clear hc
        go_wp2
        go_ret2
        exact ⟨ret_ui (by rw [HC.out]) (by rw [HC.out]), hb2.out⟩
end Go.Proofs.YtcenkalhklpajaaGreatDoor
