/-
  Names and their kinds: the program's walk and the document's.
-/
import Derived.Test.YtgcimeldofbgkaaSB
import Derived.Test.YtgcimeldofbgkaaQC
import Derived.Lib.Strings
namespace Go.Proofs.Ytgcimeldofbgkaa
open Go.RowKit
set_option maxRecDepth 1000000
set_option maxHeartbeats 4000000

theorem ba_eq (a b : ByteArray) : (a.toList == b.toList) = decide (a = b) := by
  rw [Bool.eq_iff_iff]
  simp only [beq_iff_eq, decide_eq_true_eq]
  constructor
  · intro h
    apply ByteArray.ext
    apply Array.ext'
    rwa [Lib.toList_data, Lib.toList_data] at h
  · intro h; rw [h]
def kfind (t : ByteArray) : Nat → Int → Int
  | 0, _ => 0
  | f + 1, i => if kname i = t then i else kfind t f (i + 1)
def kindS (t : ByteArray) : Int := kfind t 15 1
theorem kfind_hit {t : ByteArray} {f : Nat} {i : Int} (h : kname i = t) : kfind t (f + 1) i = i := by unfold kfind; rw [if_pos h]
theorem kfind_miss {t : ByteArray} {f : Nat} {i : Int} (h : kname i ≠ t) : kfind t (f + 1) i = kfind t f (i + 1) := by rw [kfind, if_neg h]
def kindE (t : ByteArray) : Int := if kindS t = 0 then 12 else 0
theorem kindW (t : ByteArray) (w : World) : Calls Try.prog 8 #[.string t] w fun e w' => e = .returned (.tuple #[.int .i64 (kindS t), .int .i64 (kindE t)]) ∧ w = w' := by
  go_enter Try.func8, Try.ntmps8
  go_wp2
  go_loop [4] (fun k => ∃ (i : Int) (f : Nat), 1 ≤ i ∧ i ≤ 16 ∧ (f : Int) = 16 - i ∧ k = .int .i64 i ∧ Hid (kfind t f i = kindS t)) (fun k => (16 - intOf k).toNat)
  case atStart => exact ⟨1, 15, by omega, by omega, by omega, rfl, hid rfl⟩
  case round =>
    obtain ⟨i, f, h1, h2, h3, rfl, HK⟩ := hrel
    by_cases h15 : i ≤ 15
    · obtain ⟨f, rfl⟩ : ∃ g, f = g + 1 := ⟨f - 1, by omega⟩
      have HN := hid (fun W => nameW i W)
      by_cases he : kname i = t
      · have hb : ((kname i).toList == t.toList) = true := by rw [ba_eq]; simpa using he
        have H : Hid (i = kindS t) := hid (by rw [← HK.out, kfind_hit he])
        clear he
        go_wp2_with (go_at_call 7; refine (HN.out _).mono ?_; rintro e w' ⟨rfl, rfl⟩)
        try rw [Exit.noGoto_ret]
        go_ret2
        exact ⟨ret_ii H.out (by unfold kindE; rw [← H.out, if_neg (by omega)]), rfl⟩
      · have hb : ((kname i).toList == t.toList) = false := by rw [ba_eq]; simpa using he
        have H := hid (HK.out.symm.trans (kfind_miss he)).symm
        clear he
        go_wp2_with (go_at_call 7; refine (HN.out _).mono ?_; rintro e w' ⟨rfl, rfl⟩)
        exact ⟨⟨i + 1, f, by omega, by omega, by omega, by go_num, hid H.out⟩, by simp [intOf]; omega⟩
    · have hf : f = 0 := by omega
      subst hf
      have hi : i = 16 := by omega
      subst hi
      have H : Hid (0 = kindS t) := hid HK.out
      go_wp2
      go_ret2
      exact ⟨ret_ii H.out (by unfold kindE; rw [← H.out]; rfl), rfl⟩
theorem namesR (w : World) : Calls Try.prog 17 #[] w fun e w' => e = .returned (.agg #[.string (kname 0), .string (kname 1), .string (kname 2), .string (kname 3), .string (kname 4), .string (kname 5), .string (kname 6), .string (kname 7), .string (kname 8), .string (kname 9), .string (kname 10), .string (kname 11), .string (kname 12), .string (kname 13), .string (kname 14), .string (kname 15)]) ∧ Below w.heap.size w w' := by
  go_enter Try.func17, Try.ntmps17
  go_wp2
  exact bodyPost_ret (v := .agg #[.string ⟨#[]⟩, .string ⟨#[98, 111, 111, 108]⟩, .string ⟨#[105, 110, 116, 51, 50]⟩, .string ⟨#[105, 110, 116, 54, 52]⟩, .string ⟨#[117, 105, 110, 116, 51, 50]⟩, .string ⟨#[117, 105, 110, 116, 54, 52]⟩, .string ⟨#[115, 105, 110, 116, 51, 50]⟩, .string ⟨#[115, 105, 110, 116, 54, 52]⟩, .string ⟨#[102, 105, 120, 101, 100, 51, 50]⟩, .string ⟨#[102, 105, 120, 101, 100, 54, 52]⟩, .string ⟨#[115, 102, 105, 120, 101, 100, 51, 50]⟩, .string ⟨#[115, 102, 105, 120, 101, 100, 54, 52]⟩, .string ⟨#[102, 108, 111, 97, 116]⟩, .string ⟨#[100, 111, 117, 98, 108, 101]⟩, .string ⟨#[115, 116, 114, 105, 110, 103]⟩, .string ⟨#[98, 121, 116, 101, 115]⟩]) (by simp [results, Try.results17, go_sem]) rfl ⟨rfl, below_alloc _⟩
theorem kindR (t : ByteArray) (w : World) : Calls Try.prog 18 #[.string t] w fun e w' => e = .returned (.int .i64 (kindS t)) ∧ Below w.heap.size w w' := by
  go_enter Try.func18, Try.ntmps18
  go_wp2_with fail
  refine (namesR _).mono ?_
  rintro e w1 ⟨rfl, hb⟩
  have HB := hid hb
  clear hb
  go_wp2
  go_loop [4] (fun k => ∃ (i : Int) (f : Nat), 1 ≤ i ∧ i ≤ 16 ∧ (f : Int) = 16 - i ∧ k = .int .i64 i ∧ Hid (kfind t f i = kindS t)) (fun k => (16 - intOf k).toNat)
  case atStart => exact ⟨1, 15, by omega, by omega, by omega, rfl, hid rfl⟩
  case round =>
    obtain ⟨i, f, h1, h2, h3, rfl, HK⟩ := hrel
    by_cases h15 : i ≤ 15
    · obtain ⟨f, rfl⟩ : ∃ g, f = g + 1 := ⟨f - 1, by omega⟩
      have hi : i = 1 ∨ i = 2 ∨ i = 3 ∨ i = 4 ∨ i = 5 ∨ i = 6 ∨ i = 7 ∨ i = 8 ∨ i = 9 ∨ i = 10 ∨ i = 11 ∨ i = 12 ∨ i = 13 ∨ i = 14 ∨ i = 15 := by omega
      by_cases he : kname i = t
      · have hb : ((kname i).toList == t.toList) = true := by rw [ba_eq]; simpa using he
        have H : Hid (i = kindS t) := hid (by rw [← HK.out, kfind_hit he])
        clear he HK
        rcases hi with rfl | rfl | rfl | rfl | rfl | rfl | rfl | rfl | rfl | rfl | rfl | rfl | rfl | rfl | rfl
        all_goals
          go_wp2
          try rw [Exit.noGoto_ret]
          go_ret
          exact ⟨ret_int H.out, below_trans HB.out (below_alloc _)⟩
      · have hb : ((kname i).toList == t.toList) = false := by rw [ba_eq]; simpa using he
        have H := hid (HK.out.symm.trans (kfind_miss he)).symm
        clear he HK
        rcases hi with rfl | rfl | rfl | rfl | rfl | rfl | rfl | rfl | rfl | rfl | rfl | rfl | rfl | rfl | rfl
        all_goals
          go_wp2
          exact ⟨⟨_, f, by omega, by omega, by omega, by go_num, hid H.out⟩, by simp [intOf]⟩
    · have hf : f = 0 := by omega
      subst hf
      have hi : i = 16 := by omega
      subst hi
      have H : Hid (0 = kindS t) := hid HK.out
      go_wp2
      go_ret
      exact ⟨ret_int H.out, below_trans HB.out (below_alloc _)⟩
end Go.Proofs.Ytgcimeldofbgkaa
