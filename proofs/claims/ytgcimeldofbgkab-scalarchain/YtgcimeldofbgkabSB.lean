/-
  Walks over what is told of a kind alone, the program's and the document's.
-/
import Derived.Test.YtgcimeldofbgkabSA
import Derived.WalkKit
import Derived.WalkSpells
import Derived.WalkLawsBesides
import Derived.Outline
import Derived.Below
namespace Go.Proofs.Ytgcimeldofbgkab
open Go.RowKit
set_option maxRecDepth 1000000

theorem ret_ii {a b c d : Int} (h1 : a = c) (h2 : b = d) : Ending.returned (.tuple #[.int .i64 a, .int .i64 b]) = .returned (.tuple #[.int .i64 c, .int .i64 d]) := by rw [h1, h2]
theorem ret_si {a c : ByteArray} {b d : Int} (h1 : a = c) (h2 : b = d) : Ending.returned (.tuple #[.string a, .int .i64 b]) = .returned (.tuple #[.string c, .int .i64 d]) := by rw [h1, h2]
theorem kwire_no {k : Int} (h : k < 1 ∨ 17 < k) : kwire k = -1 := by unfold kwire; rw [if_neg (by omega), if_neg (by omega), if_neg (by omega), if_neg (by omega)]
theorem kwireE_no {k : Int} (h : k < 1 ∨ 17 < k) : kwireE k = 18 := by unfold kwireE; rw [if_neg (by omega)]
theorem knum_no {k : Int} (h : k < 1 ∨ 17 < k) : knum k = false := by unfold knum; simp; omega
theorem kkey_no {k : Int} (h : k < 1 ∨ 17 < k) : kkey k = false := by unfold kkey; simp; omega
theorem kneg_no {k : Int} (h : k < 1 ∨ 17 < k) : kneg k = false := by unfold kneg; simp; omega
theorem kname_no {k : Int} (h : k < 1 ∨ 17 < k) : kname k = ⟨#[]⟩ := by unfold kname; repeat rw [if_neg (by omega)]
theorem knameE_no {k : Int} (h : k < 1 ∨ 17 < k) : knameE k = 18 := by unfold knameE; rw [if_neg (by omega)]

set_option maxHeartbeats 1000000
theorem wireKW (k : Int) (w : World) : Calls Try.prog 42 #[.int .i64 k] w fun e w' => e = .returned (.tuple #[.int .i64 (max (kwire k) 0), .int .i64 (kwireE k)]) ∧ w = w' := by
  rcases kinds k with rfl | rfl | rfl | rfl | rfl | rfl | rfl | rfl | rfl | rfl | rfl | rfl | rfl | rfl | rfl | rfl | rfl | h | h
  iterate 17 (next => go_enter Try.func42, Try.ntmps42; go_wp2; go_ret2; exact ⟨rfl, rfl⟩)
  · obtain ⟨e1, e2, e3, e4, e5, e6, e7, e8, e9, e10, e11, e12, e13, e14, e15, e16, e17⟩ := noKind (.inl h)
    have H : Hid (Ending.returned (.tuple #[.int .i64 0, .int .i64 18]) = .returned (.tuple #[.int .i64 (max (kwire k) 0), .int .i64 (kwireE k)])) := hid (ret_ii (by rw [kwire_no (.inl h)]; rfl) (kwireE_no (.inl h)).symm)
    clear h
    go_enter Try.func42, Try.ntmps42
    go_wp2
    go_ret2
    exact ⟨H.out, rfl⟩
  · obtain ⟨e1, e2, e3, e4, e5, e6, e7, e8, e9, e10, e11, e12, e13, e14, e15, e16, e17⟩ := noKind (.inr h)
    have H : Hid (Ending.returned (.tuple #[.int .i64 0, .int .i64 18]) = .returned (.tuple #[.int .i64 (max (kwire k) 0), .int .i64 (kwireE k)])) := hid (ret_ii (by rw [kwire_no (.inr h)]; rfl) (kwireE_no (.inr h)).symm)
    clear h
    go_enter Try.func42, Try.ntmps42
    go_wp2
    go_ret2
    exact ⟨H.out, rfl⟩
theorem negW (k : Int) (w : World) : Calls Try.prog 15 #[.int .i64 k] w fun e w' => e = .returned (.bool (kneg k)) ∧ w = w' := by
  rcases kinds k with rfl | rfl | rfl | rfl | rfl | rfl | rfl | rfl | rfl | rfl | rfl | rfl | rfl | rfl | rfl | rfl | rfl | h | h
  iterate 17 (next => go_enter Try.func15, Try.ntmps15; go_wp2; go_ret; exact ⟨rfl, rfl⟩)
  · obtain ⟨e1, e2, e3, e4, e5, e6, e7, e8, e9, e10, e11, e12, e13, e14, e15, e16, e17⟩ := noKind (.inl h)
    have H : Hid (Ending.returned (.bool false) = .returned (.bool (kneg k))) := hid (ret_bool (kneg_no (.inl h)).symm)
    clear h
    go_enter Try.func15, Try.ntmps15
    go_wp2
    go_ret
    exact ⟨H.out, rfl⟩
  · obtain ⟨e1, e2, e3, e4, e5, e6, e7, e8, e9, e10, e11, e12, e13, e14, e15, e16, e17⟩ := noKind (.inr h)
    have H : Hid (Ending.returned (.bool false) = .returned (.bool (kneg k))) := hid (ret_bool (kneg_no (.inr h)).symm)
    clear h
    go_enter Try.func15, Try.ntmps15
    go_wp2
    go_ret
    exact ⟨H.out, rfl⟩
/-- Numeric asks Wire. -/
theorem numericW (k : Int) (w : World) : Calls Try.prog 27 #[.int .i64 k] w fun e w' => e = .returned (.bool (knum k)) ∧ w = w' := by
  have HB : Hid ((decide (kwireE k = 0) && !decide (max (kwire k) 0 = 2)) = knum k) := hid (by
    rcases kinds k with rfl | rfl | rfl | rfl | rfl | rfl | rfl | rfl | rfl | rfl | rfl | rfl | rfl | rfl | rfl | rfl | rfl | h | h
    iterate 17 (next => rfl)
    · rw [kwireE_no (.inl h), knum_no (.inl h)]; rfl
    · rw [kwireE_no (.inr h), knum_no (.inr h)]; rfl)
  have hw := wireKW k w
  generalize kwireE k = we at HB hw
  generalize max (kwire k) 0 = wk at HB hw
  have HW := hid hw
  clear hw
  by_cases h : we = 0
  · subst h
    go_enter Try.func27, Try.ntmps27
    go_wp2_with (go_at_call 42; refine HW.out.mono ?_; rintro e w' ⟨rfl, rfl⟩)
    go_ret
    exact ⟨ret_bool (by rw [← HB.out]; simp; rfl), rfl⟩
  · have h' : (we == 0) = false := by simpa using h
    have H : Hid (false = knum k) := hid (by rw [← HB.out]; simp [h])
    clear h
    go_enter Try.func27, Try.ntmps27
    go_wp2_with (go_at_call 42; refine HW.out.mono ?_; rintro e w' ⟨rfl, rfl⟩)
    go_ret
    exact ⟨ret_bool H.out, rfl⟩
theorem isKeyW (k : Int) (w : World) : Calls Try.prog 12 #[.int .i64 k] w fun e w' => e = .returned (.bool (kkey k)) ∧ w = w' := by
  have HN : Hid (∀ (k : Int) (w : World), Calls Try.prog 27 #[.int .i64 k] w fun e w' => e = .returned (.bool (knum k)) ∧ w = w') := hid numericW
  rcases kinds k with rfl | rfl | rfl | rfl | rfl | rfl | rfl | rfl | rfl | rfl | rfl | rfl | rfl | rfl | rfl | rfl | rfl | h | h
  iterate 17 (next => go_enter Try.func12, Try.ntmps12; go_wp2_with (go_at_call 27; refine (HN.out _ _).mono ?_; rintro e w' ⟨rfl, rfl⟩); go_ret; exact ⟨rfl, rfl⟩)
  · obtain ⟨e1, e2, e3, e4, e5, e6, e7, e8, e9, e10, e11, e12, e13, e14, e15, e16, e17⟩ := noKind (.inl h)
    have H : Hid (knum k = kkey k) := hid (by rw [knum_no (.inl h), kkey_no (.inl h)])
    clear h
    go_enter Try.func12, Try.ntmps12
    go_wp2_with (go_at_call 27; refine (HN.out _ _).mono ?_; rintro e w' ⟨rfl, rfl⟩)
    go_ret
    exact ⟨ret_bool H.out, rfl⟩
  · obtain ⟨e1, e2, e3, e4, e5, e6, e7, e8, e9, e10, e11, e12, e13, e14, e15, e16, e17⟩ := noKind (.inr h)
    have H : Hid (knum k = kkey k) := hid (by rw [knum_no (.inr h), kkey_no (.inr h)])
    clear h
    go_enter Try.func12, Try.ntmps12
    go_wp2_with (go_at_call 27; refine (HN.out _ _).mono ?_; rintro e w' ⟨rfl, rfl⟩)
    go_ret
    exact ⟨ret_bool H.out, rfl⟩

theorem singleW (k : Int) (w : World) : Calls Try.prog 24 #[.int .i64 k] w fun e w' => e = .returned (.bool (kone k)) ∧ w = w' := by
  by_cases h1 : 1 ≤ k
  · have H : Hid (decide (k ≤ 16) = kone k) := hid (by unfold kone; simp [h1])
    go_enter Try.func24, Try.ntmps24
    go_wp2
    go_ret
    exact ⟨ret_bool H.out, rfl⟩
  · have H : Hid (false = kone k) := hid (by unfold kone; simp [h1])
    go_enter Try.func24, Try.ntmps24
    go_wp2
    go_ret
    exact ⟨ret_bool H.out, rfl⟩
end Go.Proofs.Ytgcimeldofbgkab
