/-
  The reader's small calls: the next byte, what is left, what was seen; the sets of signs.
-/
import Derived.Test.YtlkdcdmdkncjoaaDoorYB
namespace Go.Proofs.YtlkdcdmdkncjoaaDoor
open Go.RowKit
set_option maxRecDepth 1000000
set_option maxHeartbeats 1000000
set_option linter.unusedVariables false

section
variable (p : Nat) (xs : List Int) (fr : Nat) (bl bc : Int) (i : Nat) (kept : Value) (w : World)
theorem peekW (hb : ∀ x ∈ xs, 0 ≤ x ∧ x ≤ 255) (hi : i ≤ xs.length) (hl : xs.length ≤ 65536) (h : Rd w p xs fr bl bc i kept) : Calls Tryd.prog 22 #[.pointer (some ⟨p, 0, none⟩)] w fun e w' => e = .returned (.int .u8 (bt xs i)) ∧ Below w.heap.size w w' := by
  have HE := hid (endedW p xs fr bl bc i kept w h)
  by_cases he : i = xs.length
  · have HB : Hid (bt xs i = 0) := hid (bt_end (by omega))
    rw [show decide (i = xs.length) = true by simpa using he] at HE
    clear he h
    go_enter Tryd.func22, Tryd.ntmps22
    go_wp2_with (go_at_call 23; refine HE.out.mono ?_; rintro e w1 ⟨rfl, hb1⟩; replace hb1 := hid hb1)
    go_ret
    exact ⟨ret_int HB.out.symm, hb1.out⟩
  · rw [show decide (i = xs.length) = false by simpa using he] at HE
    have hlt : i < xs.length := by omega
    have hix := bt_index hb i hlt .i64
    have HR := hid h
    have hs : (strOfNums xs).size = xs.length := strOfNums_size xs
    clear he h hb
    go_enter Tryd.func22, Tryd.ntmps22
    go_wp2_with (go_at_call 23; refine HE.out.mono ?_; rintro e w1 ⟨rfl, hb1⟩; replace hb1 := hid hb1)
    obtain ⟨c0, _, c2, _⟩ := (HR.out.kept hb1.out).cells
    go_quiet (fail)
    go_wp2
    go_ret
    exact ⟨rfl, below_trans hb1.out (below_drewN _ _)⟩
theorem restW (hi : i ≤ xs.length) (hl : xs.length ≤ 65536) (h : Rd w p xs fr bl bc i kept) : Calls Tryd.prog 38 #[.pointer (some ⟨p, 0, none⟩)] w fun e w' => e = .returned (.string (strOfNums (xs.drop i))) ∧ Below w.heap.size w w' := by
  obtain ⟨c0, _, c2, _⟩ := h.cells
  have hs : (strOfNums xs).size = xs.length := strOfNums_size xs
  have hcut : (strOfNums xs).extract i xs.length = strOfNums (xs.drop i) := by rw [str_cut, List.take_of_length_le (Nat.le_refl _)]
  have hi1 : (i : Int) ≤ (xs.length : Int) := by omega
  clear h
  go_enter Tryd.func38, Tryd.ntmps38
  go_wp2
  go_quiet (fail)
  go_wp2
  go_ret
  exact ⟨rfl, below_drewN _ _⟩
theorem seenW (hf : fr ≤ i) (hi : i ≤ xs.length) (hl : xs.length ≤ 65536) (h : Rd w p xs fr bl bc i kept) : Calls Tryd.prog 35 #[.pointer (some ⟨p, 0, none⟩)] w fun e w' => e = .returned (.string (strOfNums (cut xs fr i))) ∧ Below w.heap.size w w' := by
  obtain ⟨c0, c1, c2, _⟩ := h.cells
  have hs : (strOfNums xs).size = xs.length := strOfNums_size xs
  have hcut : (strOfNums xs).extract fr i = strOfNums (cut xs fr i) := str_cut xs fr i
  have hi1 : (i : Int) ≤ (xs.length : Int) := by omega
  have hi2 : (fr : Int) ≤ (i : Int) := by omega
  clear h
  go_enter Tryd.func35, Tryd.ntmps35
  go_wp2
  go_quiet (fail)
  go_wp2
  go_ret
  exact ⟨rfl, below_drewN _ _⟩
end
theorem cloneW (s : ByteArray) (w : World) (hlim : s.size ≤ 281474976710656) : Calls Tryd.prog 34 #[.string s] w fun e w' => e = .returned (.string s) ∧ Below w.heap.size w w' := by
  have H := hid (Tryd.stringslite_Clone s w hlim)
  go_enter Tryd.func34, Tryd.ntmps34
  go_wp2_with (go_at_call 43; refine H.out.mono ?_; rintro e w1 ⟨rfl, hb1⟩; replace hb1 := hid hb1)
  go_ret
  exact ⟨rfl, hb1.out⟩
theorem isOneOfW (s : ByteArray) (c : Int) (b : Bool) (hb : b = decide (0 ≤ Lib.indexByte s.data.toList c.toNat.toUInt8)) (w : World) : Calls Tryd.prog 25 #[.string s, .int .u8 c] w fun e w' => e = .returned (.bool b) ∧ w = w' := by
  subst hb
  have H := hid (Tryd.strings_IndexByte s c w)
  generalize Lib.indexByte s.data.toList c.toNat.toUInt8 = n at *
  go_enter Tryd.func25, Tryd.ntmps25
  go_wp2_with (go_at_call 36; refine H.out.mono ?_; rintro e w1 ⟨rfl, rfl⟩)
  go_ret
  exact ⟨ret_bool (by simp), rfl⟩
theorem byFin {P : Int → Prop} (h : ∀ c : Fin 256, P (c.val : Int)) {c : Int} (h0 : 0 ≤ c) (h1 : c ≤ 255) : P c := by
  obtain ⟨m, rfl⟩ := Int.eq_ofNat_of_zero_le h0
  exact h ⟨m, by omega⟩
section
variable (c : Int) (h0 : 0 ≤ c) (h1 : c ≤ 255) (w : World)
include h0 h1
theorem blankW : Calls Tryd.prog 25 #[.string ⟨#[32, 9, 13, 10]⟩, .int .u8 c] w fun e w' => e = .returned (.bool (isBl c)) ∧ w = w' :=
  isOneOfW _ c _ (byFin (P := fun c => isBl c = decide (0 ≤ Lib.indexByte [32, 9, 13, 10] c.toNat.toUInt8)) (by decide +kernel) h0 h1) w
theorem tenW : Calls Tryd.prog 25 #[.string ⟨#[48, 49, 50, 51, 52, 53, 54, 55, 56, 57]⟩, .int .u8 c] w fun e w' => e = .returned (.bool (digB c)) ∧ w = w' :=
  isOneOfW _ c _ (byFin (P := fun c => digB c = decide (0 ≤ Lib.indexByte [48, 49, 50, 51, 52, 53, 54, 55, 56, 57] c.toNat.toUInt8)) (by decide +kernel) h0 h1) w
theorem sixteenW : Calls Tryd.prog 25 #[.string ⟨#[48, 49, 50, 51, 52, 53, 54, 55, 56, 57, 97, 98, 99, 100, 101, 102, 65, 66, 67, 68, 69, 70]⟩, .int .u8 c] w fun e w' => e = .returned (.bool (hexB c)) ∧ w = w' :=
  isOneOfW _ c _ (byFin (P := fun c => hexB c = decide (0 ≤ Lib.indexByte [48, 49, 50, 51, 52, 53, 54, 55, 56, 57, 97, 98, 99, 100, 101, 102, 65, 66, 67, 68, 69, 70] c.toNat.toUInt8)) (by decide +kernel) h0 h1) w
theorem signsW : Calls Tryd.prog 25 #[.string ⟨#[123, 125, 91, 93, 40, 41, 60, 62, 61, 59, 44, 46, 45, 58, 63]⟩, .int .u8 c] w fun e w' => e = .returned (.bool (sgnB c)) ∧ w = w' :=
  isOneOfW _ c _ (byFin (P := fun c => sgnB c = decide (0 ≤ Lib.indexByte [123, 125, 91, 93, 40, 41, 60, 62, 61, 59, 44, 46, 45, 58, 63] c.toNat.toUInt8)) (by decide +kernel) h0 h1) w
omit h0 h1 in
theorem beginsW : Calls Tryd.prog 28 #[.int .u8 c] w fun e w' => e = .returned (.bool (letB c)) ∧ w = w' := by
  have hc : (97 ≤ c ∧ c ≤ 122) ∨ (97 ≤ c ∧ ¬ c ≤ 122) ∨ (¬ 97 ≤ c ∧ ¬ 65 ≤ c) ∨ (¬ 97 ≤ c ∧ 65 ≤ c ∧ c ≤ 90) ∨ (¬ 97 ≤ c ∧ 65 ≤ c ∧ ¬ c ≤ 90 ∧ c = 95) ∨ (¬ 97 ≤ c ∧ 65 ≤ c ∧ ¬ c ≤ 90 ∧ c ≠ 95) := by omega
  rcases hc with ⟨a1, a2⟩ | ⟨a1, a2⟩ | ⟨a1, a2⟩ | ⟨a1, a2, a3⟩ | ⟨a1, a2, a3, rfl⟩ | ⟨a1, a2, a3, a4⟩
  · have H : Hid (letB c = true) := hid (by unfold letB; simp; omega)
    go_enter Tryd.func28, Tryd.ntmps28
    go_wp2
    go_ret
    exact ⟨ret_bool H.out.symm, rfl⟩
  · have H : Hid (letB c = false) := hid (by unfold letB; simp; omega)
    have hz : (c == 95) = false := by simp; omega
    have a3 : 65 ≤ c := by omega
    have a4 : ¬ c ≤ 90 := by omega
    go_enter Tryd.func28, Tryd.ntmps28
    go_wp2
    go_ret
    exact ⟨ret_bool H.out.symm, rfl⟩
  · have H : Hid (letB c = false) := hid (by unfold letB; simp; omega)
    have hz : (c == 95) = false := by simp; omega
    go_enter Tryd.func28, Tryd.ntmps28
    go_wp2
    go_ret
    exact ⟨ret_bool H.out.symm, rfl⟩
  · have H : Hid (letB c = true) := hid (by unfold letB; simp; omega)
    go_enter Tryd.func28, Tryd.ntmps28
    go_wp2
    go_ret
    exact ⟨ret_bool H.out.symm, rfl⟩
  · go_enter Tryd.func28, Tryd.ntmps28
    go_wp2
    go_ret
    exact ⟨rfl, rfl⟩
  · have H : Hid (letB c = false) := hid (by unfold letB; simp; omega)
    have a5 : (c == 95) = false := by simpa using a4
    clear a4
    go_enter Tryd.func28, Tryd.ntmps28
    go_wp2
    go_ret
    exact ⟨ret_bool H.out.symm, rfl⟩
theorem inNameW : Calls Tryd.prog 40 #[.int .u8 c] w fun e w' => e = .returned (.bool (namB c)) ∧ w = w' := by
  have H1 := hid (beginsW c w)
  have H2 := hid (tenW c h0 h1 w)
  have H : Hid (namB c = (letB c || digB c)) := hid rfl
  generalize namB c = n at *
  generalize digB c = d at *
  cases hl : letB c with
  | true =>
    rw [hl] at H1 H
    go_enter Tryd.func40, Tryd.ntmps40
    go_wp2_with (first | (go_at_call 28; refine H1.out.mono ?_; rintro e w1 ⟨rfl, rfl⟩))
    go_ret
    exact ⟨ret_bool (by rw [H.out]; rfl), rfl⟩
  | false =>
    rw [hl] at H1 H
    go_enter Tryd.func40, Tryd.ntmps40
    go_wp2_with (first | (go_at_call 28; refine H1.out.mono ?_; rintro e w1 ⟨rfl, rfl⟩) | (go_at_call 25; refine H2.out.mono ?_; rintro e w1 ⟨rfl, rfl⟩))
    go_ret
    exact ⟨ret_bool (by rw [H.out]; rfl), rfl⟩
end
end Go.Proofs.YtlkdcdmdkncjoaaDoor
