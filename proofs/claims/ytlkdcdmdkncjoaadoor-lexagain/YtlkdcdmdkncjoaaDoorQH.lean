/-
  Walks over the program's reading of a part of a quoted text: digit, getDigits, getSign, getPart.
-/
import Derived.Test.YtlkdcdmdkncjoaaDoorQG
namespace Go.Proofs.YtlkdcdmdkncjoaaDoor
open Go.RowKit
set_option maxRecDepth 1000000

theorem ret_two {a b : Int} {c d : Bool} (h1 : a = b) (h2 : c = d) : Ending.returned (.tuple #[.int .u8 a, .bool c]) = .returned (.tuple #[.int .u8 b, .bool d]) := by rw [h1, h2]
theorem ret_part {g : Int × Nat} {a : Int} {n : Int} (h : g.1 = a) (h2 : (g.2 : Int) = n) : Ending.returned (.tuple #[.int .u8 a, .int .i64 n]) = .returned (.tuple #[.int .u8 g.1, .int .i64 g.2]) := by rw [h, h2]

theorem hx_range (c : Int) : -1 ≤ hx c ∧ hx c < 16 := by unfold hx; (repeat' split) <;> omega
theorem digitW (c : Int) (w : World) (h0 : 0 ≤ c) (h1 : c ≤ 255) : Calls Tryd.prog 61 #[.int .u8 c] w fun e w' => e = .returned (.tuple #[.int .u8 (max (hx c) 0), .bool (decide (0 ≤ hx c))]) ∧ w = w' := by
  by_cases d1 : 48 ≤ c ∧ c ≤ 57
  · have e : hx c = c - 48 := by unfold hx; rw [if_pos d1]
    have H : Hid (c - 48 = max (hx c) 0 ∧ true = decide (0 ≤ hx c)) := hid (by rw [e]; simp; omega)
    obtain ⟨x1, x2⟩ := d1
    clear e
    go_enter Tryd.func61, Tryd.ntmps61
    go_wp2
    go_ret2
    exact ⟨ret_two H.out.1 H.out.2, rfl⟩
  by_cases d2 : 97 ≤ c ∧ c ≤ 102
  · have e : hx c = c - 87 := by unfold hx; rw [if_neg d1, if_pos d2]
    have H : Hid (c - 97 + 10 = max (hx c) 0 ∧ true = decide (0 ≤ hx c)) := hid (by rw [e]; simp; omega)
    obtain ⟨x1, x2⟩ := d2
    clear e d1
    go_enter Tryd.func61, Tryd.ntmps61
    go_wp2
    go_ret2
    exact ⟨ret_two H.out.1 H.out.2, rfl⟩
  by_cases d3 : 65 ≤ c ∧ c ≤ 70
  · have e : hx c = c - 55 := by unfold hx; rw [if_neg d1, if_neg d2, if_pos d3]
    have H : Hid (c - 65 + 10 = max (hx c) 0 ∧ true = decide (0 ≤ hx c)) := hid (by rw [e]; simp; omega)
    obtain ⟨x1, x2⟩ := d3
    clear e d1 d2
    go_enter Tryd.func61, Tryd.ntmps61
    go_wp2
    go_ret2
    exact ⟨ret_two H.out.1 H.out.2, rfl⟩
  · have e : hx c = -1 := by unfold hx; rw [if_neg d1, if_neg d2, if_neg d3]
    have H : Hid (0 = max (hx c) 0 ∧ false = decide (0 ≤ hx c)) := hid (by rw [e]; decide)
    clear e
    go_enter Tryd.func61, Tryd.ntmps61
    go_wp2
    all_goals first
      | omega
      | (go_ret2; exact ⟨ret_two H.out.1 H.out.2, rfl⟩)

/-- A byte of a string. -/
theorem index_str {l : List Int} (hb : ∀ x ∈ l, 0 ≤ x ∧ x ≤ 255) (i : Nat) (h : i < l.length) (k : IntKind) (W : World) : (Instr.index 9 (.string (strOfNums l)) (.int k (i : Int))).run Tryd.prog W = .ok (.int .u8 (l[i]?.getD 0)) W := by
  have hs : i < (strOfNums l).size := by rw [strOfNums_size]; exact h
  rw [run_index_string W 9 _ k i Tryd.underlying9, dif_pos ⟨by omega, by omega⟩]
  simp only [Int.toNat_natCast]
  have e2 : (strOfNums l)[i]'hs = UInt8.ofNat (l[i]).toNat := by
    show (strOfNums l).data[i] = _
    simp [strOfNums]
  have := hb l[i] (List.getElem_mem h)
  rw [e2]
  congr 2
  simp [h]
  omega
theorem or_digit (H L : Int) (h0 : 0 ≤ H) (h1 : H < 16) (l0 : 0 ≤ L) (l1 : L < 16) : bits .or .u8 (H * 16) L = H * 16 + L := by
  obtain ⟨h, rfl⟩ := Int.eq_ofNat_of_zero_le h0
  obtain ⟨l, rfl⟩ := Int.eq_ofNat_of_zero_le l0
  have key : ∀ h l : Fin 16, bits .or .u8 ((h.val : Int) * 16) (l.val : Int) = (h.val : Int) * 16 + l.val := by decide
  exact key ⟨h, by omega⟩ ⟨l, by omega⟩

theorem dgP_short {l : List Int} (h : l.length < 4) : dgP (l.drop 2) = (0, 0) := by
  match l with
  | [] => rfl
  | [_] => rfl
  | [_, _] => rfl
  | [_, _, _] => rfl
  | _ :: _ :: _ :: _ :: _ => simp at h; omega
theorem dgP_at {l : List Int} (h : ¬ l.length < 4) : dgP (l.drop 2) = if hx (l[2]?.getD 0) < 0 ∨ hx (l[3]?.getD 0) < 0 then (0, 0) else (hx (l[2]?.getD 0) * 16 + hx (l[3]?.getD 0), 4) := by
  match l with
  | [] => simp at h
  | [_] => simp at h
  | [_, _] => simp at h
  | [_, _, _] => simp at h
  | _ :: _ :: _ :: _ :: _ => rfl

set_option maxHeartbeats 1000000 in
theorem getDigitsW (l : List Int) (w : World) (hb : ∀ x ∈ l, 0 ≤ x ∧ x ≤ 255) (hl : l.length ≤ 9223372036854775807) :
    Calls Tryd.prog 59 #[.string (strOfNums l)] w fun e w' => e = .returned (.tuple #[.int .u8 (dgP (l.drop 2)).1, .int .i64 (dgP (l.drop 2)).2]) ∧ w = w' := by
  have hs := strOfNums_size l
  by_cases h4 : l.length < 4
  · have H := hid (dgP_short h4)
    go_enter Tryd.func59, Tryd.ntmps59
    go_wp2
    go_ret2
    exact ⟨by rw [H.out]; rfl, rfl⟩
  · have H := hid (dgP_at h4)
    have i2 : ∀ (k : IntKind) (W : World), (Instr.index 9 (.string (strOfNums l)) (.int k 2)).run Tryd.prog W = .ok (.int .u8 (l[2]?.getD 0)) W := fun k W => index_str hb 2 (by omega) k W
    have i3 : ∀ (k : IntKind) (W : World), (Instr.index 9 (.string (strOfNums l)) (.int k 3)).run Tryd.prog W = .ok (.int .u8 (l[3]?.getD 0)) W := fun k W => index_str hb 3 (by omega) k W
    have b2 : (0 : Int) ≤ l[2]?.getD 0 ∧ l[2]?.getD 0 ≤ 255 := by have := bd_get hb 2; rwa [List.getD_eq_getElem?_getD] at this
    have b3 : (0 : Int) ≤ l[3]?.getD 0 ∧ l[3]?.getD 0 ≤ 255 := by have := bd_get hb 3; rwa [List.getD_eq_getElem?_getD] at this
    obtain ⟨x, hx2⟩ : ∃ x, l[2]?.getD 0 = x := ⟨_, rfl⟩
    obtain ⟨y, hy3⟩ : ∃ y, l[3]?.getD 0 = y := ⟨_, rfl⟩
    rw [hx2] at i2 b2 H
    rw [hy3] at i3 b3 H
    clear hx2 hy3
    have rx := hx_range x
    have ry := hx_range y
    have HX := hid b2
    have HY := hid b3
    clear hb b2 b3
    by_cases dx : hx x < 0
    · have e : decide (0 ≤ hx x) = false := by simp; omega
      have H2 : Hid (dgP (l.drop 2) = (0, 0)) := hid (by rw [H.out, if_pos (.inl dx)])
      clear H
      go_enter Tryd.func59, Tryd.ntmps59
      go_wp2_with (first
        | (go_at_call_of 61 x; refine (digitW x _ HX.out.1 HX.out.2).mono ?_; rintro e w' ⟨rfl, rfl⟩)
        | (go_at_call_of 61 y; refine (digitW y _ HY.out.1 HY.out.2).mono ?_; rintro e w' ⟨rfl, rfl⟩))
      go_ret2
      exact ⟨by rw [H2.out]; rfl, rfl⟩
    by_cases dy : hx y < 0
    · have e : decide (0 ≤ hx y) = false := by simp; omega
      have e' : decide (0 ≤ hx x) = true := by simp; omega
      have H2 : Hid (dgP (l.drop 2) = (0, 0)) := hid (by rw [H.out, if_pos (.inr dy)])
      clear H
      go_enter Tryd.func59, Tryd.ntmps59
      go_wp2_with (first
        | (go_at_call_of 61 x; refine (digitW x _ HX.out.1 HX.out.2).mono ?_; rintro e w' ⟨rfl, rfl⟩)
        | (go_at_call_of 61 y; refine (digitW y _ HY.out.1 HY.out.2).mono ?_; rintro e w' ⟨rfl, rfl⟩))
      go_ret2
      exact ⟨by rw [H2.out]; rfl, rfl⟩
    · have e : decide (0 ≤ hx y) = true := by simp; omega
      have e' : decide (0 ≤ hx x) = true := by simp; omega
      have m1 : max (hx x) 0 = hx x := by omega
      have m2 : max (hx y) 0 = hx y := by omega
      have ho := or_digit (hx x) (hx y) (by omega) (by omega) (by omega) (by omega)
      have H2 : Hid (dgP (l.drop 2) = (hx x * 16 + hx y, 4)) := hid (by rw [H.out, if_neg (by omega)])
      clear H
      go_enter Tryd.func59, Tryd.ntmps59
      go_wp2_with (first
        | (go_at_call_of 61 x; refine (digitW x _ HX.out.1 HX.out.2).mono ?_; rintro e w' ⟨rfl, rfl⟩)
        | (go_at_call_of 61 y; refine (digitW y _ HY.out.1 HY.out.2).mono ?_; rintro e w' ⟨rfl, rfl⟩))
      go_ret2
      exact ⟨by rw [H2.out]; rfl, rfl⟩

theorem sgP_short {l : List Int} (h : l.length < 2) : sgP (l.drop 1) = (0, 0) := by
  match l with
  | [] => rfl
  | [_] => rfl
  | _ :: _ :: _ => simp at h; omega
theorem sgP_at {l : List Int} (h : ¬ l.length < 2) : sgP (l.drop 1) = sgP (l[1]?.getD 0 :: l.drop 2) := by
  match l with
  | [] => simp at h
  | [_] => simp at h
  | _ :: _ :: _ => rfl
theorem pt_at {l : List Int} (h : 0 < l.length) : qpart l = qpart (l[0]?.getD 0 :: l.drop 1) := by
  match l with
  | [] => simp at h
  | _ :: _ => rfl

set_option maxHeartbeats 1000000 in
theorem getSignW (l : List Int) (w : World) (hb : ∀ x ∈ l, 0 ≤ x ∧ x ≤ 255) (hl : l.length ≤ 9223372036854775807) :
    Calls Tryd.prog 56 #[.string (strOfNums l)] w fun e w' => e = .returned (.tuple #[.int .u8 (sgP (l.drop 1)).1, .int .i64 (sgP (l.drop 1)).2]) ∧ w = w' := by
  have hs := strOfNums_size l
  by_cases h2 : l.length < 2
  · have H := hid (sgP_short h2)
    go_enter Tryd.func56, Tryd.ntmps56
    go_wp2
    go_ret2
    exact ⟨by rw [H.out]; rfl, rfl⟩
  have H := hid (sgP_at h2)
  have i1 : ∀ (k : IntKind) (W : World), (Instr.index 9 (.string (strOfNums l)) (.int k 1)).run Tryd.prog W = .ok (.int .u8 (l[1]?.getD 0)) W := fun k W => index_str hb 1 (by omega) k W
  obtain ⟨d, hd⟩ : ∃ d, l[1]?.getD 0 = d := ⟨_, rfl⟩
  rw [hd] at i1 H
  clear hd
  have HB := hid hb
  clear hb
  by_cases c34 : d = 34
  · subst c34
    have H2 : Hid (sgP (l.drop 1) = (34, 2)) := hid (by rw [H.out]; rfl)
    clear H
    go_enter Tryd.func56, Tryd.ntmps56
    go_wp2
    go_ret2
    exact ⟨by rw [H2.out]; rfl, rfl⟩
  by_cases c92 : d = 92
  · subst c92
    have H2 : Hid (sgP (l.drop 1) = (92, 2)) := hid (by rw [H.out]; rfl)
    clear H
    go_enter Tryd.func56, Tryd.ntmps56
    go_wp2
    go_ret2
    exact ⟨by rw [H2.out]; rfl, rfl⟩
  by_cases c110 : d = 110
  · subst c110
    have H2 : Hid (sgP (l.drop 1) = (10, 2)) := hid (by rw [H.out]; rfl)
    clear H
    go_enter Tryd.func56, Tryd.ntmps56
    go_wp2
    go_ret2
    exact ⟨by rw [H2.out]; rfl, rfl⟩
  by_cases c116 : d = 116
  · subst c116
    have H2 : Hid (sgP (l.drop 1) = (9, 2)) := hid (by rw [H.out]; rfl)
    clear H
    go_enter Tryd.func56, Tryd.ntmps56
    go_wp2
    go_ret2
    exact ⟨by rw [H2.out]; rfl, rfl⟩
  by_cases c114 : d = 114
  · subst c114
    have H2 : Hid (sgP (l.drop 1) = (13, 2)) := hid (by rw [H.out]; rfl)
    clear H
    go_enter Tryd.func56, Tryd.ntmps56
    go_wp2
    go_ret2
    exact ⟨by rw [H2.out]; rfl, rfl⟩
  by_cases c120 : d = 120
  · subst c120
    have H2 : Hid (sgP (l.drop 1) = dgP (l.drop 2)) := hid (by rw [H.out]; rfl)
    clear H
    go_enter Tryd.func56, Tryd.ntmps56
    go_wp2_with (go_at_call 59; refine (getDigitsW l _ HB.out hl).mono ?_; rintro e w' ⟨rfl, rfl⟩)
    go_ret2
    exact ⟨by rw [H2.out]; rfl, rfl⟩
  have H2 : Hid (sgP (l.drop 1) = (0, 0)) := hid (by rw [H.out, sgP, if_neg (by omega), if_neg c110, if_neg c116, if_neg c114, if_neg c120])
  have e1 : (d == 34) = false := by simpa using c34
  have e2 : (d == 92) = false := by simpa using c92
  have e3 : (d == 110) = false := by simpa using c110
  have e4 : (d == 116) = false := by simpa using c116
  have e5 : (d == 114) = false := by simpa using c114
  have e6 : (d == 120) = false := by simpa using c120
  clear H c34 c92 c110 c116 c114 c120
  go_enter Tryd.func56, Tryd.ntmps56
  go_wp2
  go_ret2
  exact ⟨by rw [H2.out]; rfl, rfl⟩

set_option maxHeartbeats 1000000 in
theorem getPartW (l : List Int) (w : World) (hb : ∀ x ∈ l, 0 ≤ x ∧ x ≤ 255) (hl : l.length ≤ 9223372036854775807) (h0 : 0 < l.length) :
    Calls Tryd.prog 48 #[.string (strOfNums l)] w fun e w' => e = .returned (.tuple #[.int .u8 (qpart l).1, .int .i64 (qpart l).2]) ∧ w = w' := by
  have hs := strOfNums_size l
  have H := hid (pt_at h0)
  have i1 : ∀ (k : IntKind) (W : World), (Instr.index 9 (.string (strOfNums l)) (.int k 0)).run Tryd.prog W = .ok (.int .u8 (l[0]?.getD 0)) W := fun k W => index_str hb 0 (by omega) k W
  obtain ⟨d, hd⟩ : ∃ d, l[0]?.getD 0 = d := ⟨_, rfl⟩
  rw [hd] at i1 H
  clear hd
  have HB := hid hb
  clear hb
  by_cases c34 : d = 34
  · subst c34
    have H2 : Hid (qpart l = (0, 0)) := hid (by rw [H.out]; rfl)
    clear H
    go_enter Tryd.func48, Tryd.ntmps48
    go_wp2
    go_ret2
    exact ⟨by rw [H2.out]; rfl, rfl⟩
  by_cases c10 : d = 10
  · subst c10
    have H2 : Hid (qpart l = (0, 0)) := hid (by rw [H.out]; rfl)
    clear H
    go_enter Tryd.func48, Tryd.ntmps48
    go_wp2
    go_ret2
    exact ⟨by rw [H2.out]; rfl, rfl⟩
  by_cases c92 : d = 92
  · subst c92
    have H2 : Hid (qpart l = sgP (l.drop 1)) := hid (by rw [H.out]; rfl)
    clear H
    go_enter Tryd.func48, Tryd.ntmps48
    go_wp2_with (go_at_call 56; refine (getSignW l _ HB.out hl).mono ?_; rintro e w' ⟨rfl, rfl⟩)
    go_ret2
    exact ⟨by rw [H2.out, List.drop_one]; rfl, rfl⟩
  have H2 : Hid (qpart l = (d, 1)) := hid (by rw [H.out, qpart, if_neg (by omega), if_neg c92])
  have e1 : (d == 34) = false := by simpa using c34
  have e2 : (d == 10) = false := by simpa using c10
  have e3 : (d == 92) = false := by simpa using c92
  clear H c34 c10 c92
  go_enter Tryd.func48, Tryd.ntmps48
  go_wp2
  go_ret2
  exact ⟨by rw [H2.out]; rfl, rfl⟩
end Go.Proofs.YtlkdcdmdkncjoaaDoor
