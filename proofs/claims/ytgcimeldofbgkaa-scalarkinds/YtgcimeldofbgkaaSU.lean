/-
  P3.1, P3.3: the law's walk.
-/
import Derived.Test.YtgcimeldofbgkaaSO
import Derived.Test.YtgcimeldofbgkaaST
import Derived.Deep.RegionWith
namespace Go.Proofs.Ytgcimeldofbgkaa
open Go.RowKit
set_option maxRecDepth 1000000
set_option maxHeartbeats 8000000

theorem kindS_range : ∀ (t : ByteArray) (f : Nat) (i : Int), 1 ≤ i → kfind t f i = 0 ∨ (i ≤ kfind t f i ∧ kname (kfind t f i) = t)
  | t, 0, i, _ => .inl rfl
  | t, f + 1, i, h => by
    by_cases he : kname i = t
    · rw [kfind_hit he]; exact .inr ⟨by omega, he⟩
    · rw [kfind_miss he]
      rcases kindS_range t f (i + 1) (by omega) with h0 | ⟨h1, h2⟩
      · exact .inl h0
      · exact .inr ⟨by omega, h2⟩
theorem index_names {k : Int} (h1 : 1 ≤ k) (h2 : k ≤ 15) (W : World) : (Instr.index 37 (.agg #[.string (kname 0), .string (kname 1), .string (kname 2), .string (kname 3), .string (kname 4), .string (kname 5), .string (kname 6), .string (kname 7), .string (kname 8), .string (kname 9), .string (kname 10), .string (kname 11), .string (kname 12), .string (kname 13), .string (kname 14), .string (kname 15)]) (.int .i64 k)).run Try.prog W = .ok (.string (kname k)) W := by
  have hi : k = 1 ∨ k = 2 ∨ k = 3 ∨ k = 4 ∨ k = 5 ∨ k = 6 ∨ k = 7 ∨ k = 8 ∨ k = 9 ∨ k = 10 ∨ k = 11 ∨ k = 12 ∨ k = 13 ∨ k = 14 ∨ k = 15 := by omega
  rcases hi with rfl | rfl | rfl | rfl | rfl | rfl | rfl | rfl | rfl | rfl | rfl | rfl | rfl | rfl | rfl
  all_goals rfl
section
variable (k n : Int) (t : ByteArray) (a am : Option Addr) (len cap lm cm : Nat) (w : World)
theorem kindsWith (wk we ne K KE kw : Int) (x : ByteArray) (b1 b2 b3 : Bool)
    (HW : ∀ W : World, Calls Try.prog 6 #[.int .i64 k] W fun e w' => e = .returned (.tuple #[.int .i64 wk, .int .i64 we]) ∧ W = w')
    (HN : ∀ W : World, Calls Try.prog 7 #[.int .i64 k] W fun e w' => e = .returned (.tuple #[.string x, .int .i64 ne]) ∧ W = w')
    (HK : ∀ W : World, Calls Try.prog 8 #[.string t] W fun e w' => e = .returned (.tuple #[.int .i64 K, .int .i64 KE]) ∧ W = w')
    (HU : ∀ W : World, Calls Try.prog 10 #[.int .i64 k] W fun e w' => e = .returned (.bool b1) ∧ W = w')
    (HUR : ∀ W : World, Calls Try.prog 11 #[.int .i64 k] W fun e w' => e = .returned (.bool b1) ∧ W = w')
    (HI : ∀ W : World, Calls Try.prog 12 #[.int .i64 k] W fun e w' => e = .returned (.bool b2) ∧ W = w')
    (HIR : ∀ W : World, Calls Try.prog 13 #[.int .i64 k] W fun e w' => e = .returned (.bool b2) ∧ W = w')
    (HF : ∀ W : World, Calls Try.prog 14 #[.int .i64 k, .agg #[.int .u64 n, .slice a len cap, .slice am lm cm]] W fun e w' => e = .returned (.bool b3) ∧ Below W.heap.size W w')
    (HFR : ∀ W : World, Calls Try.prog 15 #[.int .i64 k, .agg #[.int .u64 n, .slice a len cap, .slice am lm cm]] W fun e w' => e = .returned (.bool b3) ∧ Below W.heap.size W w')
    (HWR : ∀ W : World, Calls Try.prog 16 #[.int .i64 k] W fun e w' => e = .returned (.int .i64 kw) ∧ W = w')
    (HKR : ∀ W : World, Calls Try.prog 18 #[.string t] W fun e w' => e = .returned (.int .i64 K) ∧ Below W.heap.size W w')
    (hw : (kw < 0 ∧ we = 18 ∧ wk = 0) ∨ (0 ≤ kw ∧ we = 0 ∧ wk = kw)) (hn : ((k < 1 ∨ 15 < k) ∧ ne = 18 ∧ x = ⟨#[]⟩) ∨ (1 ≤ k ∧ k ≤ 15 ∧ ne = 0 ∧ x = kname k)) (hK : (K = 0 ∧ KE = 12) ∨ (K ≠ 0 ∧ KE = 0)) :
    Calls Try.prog 3 #[.int .i64 k, .string t, .agg #[.int .u64 n, .slice a len cap, .slice am lm cm]] w fun e w' => e = .returned (.bool true) ∧ Below w.heap.size w w' := by
  replace HW := hid HW; replace HN := hid HN; replace HK := hid HK; replace HU := hid HU; replace HUR := hid HUR; replace HI := hid HI; replace HIR := hid HIR; replace HF := hid HF; replace HFR := hid HFR; replace HWR := hid HWR; replace HKR := hid HKR
  have hb1 : (b1 != b1) = false := by simp
  have hb2 : (b2 != b2) = false := by simp
  have hb3 : (b3 != b3) = false := by simp
  have hn2 : (k < 1 ∧ ne = 18 ∧ x = ⟨#[]⟩) ∨ (¬ k < 1 ∧ 15 < k ∧ ne = 18 ∧ x = ⟨#[]⟩) ∨ (¬ k < 1 ∧ ¬ 15 < k ∧ ne = 0 ∧ x = kname k) := by
    rcases hn with ⟨h | h, h2, h3⟩ | ⟨h, h2, h3, h4⟩
    · exact .inl ⟨h, h2, h3⟩
    · by_cases hk : k < 1
      · exact .inl ⟨hk, h2, h3⟩
      · exact .inr (.inl ⟨hk, h, h2, h3⟩)
    · exact .inr (.inr ⟨by omega, by omega, h3, h4⟩)
  clear hn
  go_enter Try.func3, Try.ntmps3
  go_wp2_with fail
  refine (HW.out _).mono ?_
  rintro e w' ⟨rfl, rfl⟩
  go_wp2_with fail
  refine (HN.out _).mono ?_
  rintro e w' ⟨rfl, rfl⟩
  go_wp2_with fail
  refine (HK.out _).mono ?_
  rintro e w' ⟨rfl, rfl⟩
  go_wp2_with fail
  go_region_with (first | (go_at_call 9; refine (awake3 _).mono ?_; rintro e w2 ⟨rfl, hb⟩; obtain ⟨d0, d1, d2⟩ := vcells (below_trans (below_drew _) hb); have HB := hid (below_trans ((below_alloc _).drew) hb); clear hb) | (go_at_call 10; refine (HU.out _).mono ?_; rintro e w' ⟨rfl, rfl⟩) | (go_at_call 11; refine (HUR.out _).mono ?_; rintro e w' ⟨rfl, rfl⟩) | (go_at_call 12; refine (HI.out _).mono ?_; rintro e w' ⟨rfl, rfl⟩) | (go_at_call 13; refine (HIR.out _).mono ?_; rintro e w' ⟨rfl, rfl⟩) | (go_at_call 14; refine (HF.out _).mono ?_; rintro e w3 ⟨rfl, hb⟩; replace d0 := cell_kept hb d0; replace d1 := cell_kept hb d1; replace d2 := cell_kept hb d2; replace HB := hid (below_trans HB.out hb); clear hb) | (go_at_call 15; refine (HFR.out _).mono ?_; rintro e w4 ⟨rfl, hb⟩; replace d0 := cell_kept hb d0; replace d1 := cell_kept hb d1; replace d2 := cell_kept hb d2; replace HB := hid (below_trans HB.out hb); clear hb))
  all_goals
    rcases hK with ⟨rfl, rfl⟩ | ⟨hK0, rfl⟩
    next =>
      rcases hw with ⟨h1, rfl, rfl⟩ | ⟨h1, rfl, rfl⟩
      all_goals
        rcases hn2 with ⟨h2, rfl, rfl⟩ | ⟨h2, h3, rfl, rfl⟩ | ⟨h2, h3, rfl, rfl⟩
        next =>
          go_wp2_with fail
          refine (HWR.out _).mono ?_
          rintro e w' ⟨rfl, rfl⟩
          go_wp2_with fail
          refine (HKR.out _).mono ?_
          rintro e w6 ⟨rfl, hb⟩
          replace HB := hid (below_trans HB.out hb)
          clear hb
          go_wp2
          go_ret
          exact ⟨rfl, HB.out⟩
        next =>
          go_wp2_with fail
          refine (HWR.out _).mono ?_
          rintro e w' ⟨rfl, rfl⟩
          go_wp2_with fail
          refine (HKR.out _).mono ?_
          rintro e w6 ⟨rfl, hb⟩
          replace HB := hid (below_trans HB.out hb)
          clear hb
          go_wp2
          go_ret
          exact ⟨rfl, HB.out⟩
        next =>
          have hin := fun W => index_names (k := k) (by omega) (by omega) W
          have hsame : ((kname k).toList != (kname k).toList) = false := by simp
          go_wp2_with fail
          refine (HWR.out _).mono ?_
          rintro e w' ⟨rfl, rfl⟩
          go_wp2_with fail
          refine (namesR _).mono ?_
          rintro e w5 ⟨rfl, hb⟩
          replace HB := hid (below_trans HB.out hb)
          clear hb d0 d1 d2
          go_wp2_with fail
          refine (HKR.out _).mono ?_
          rintro e w6 ⟨rfl, hb⟩
          replace HB := hid (below_trans HB.out hb)
          clear hb
          go_wp2
          go_ret
          exact ⟨rfl, HB.out⟩
    next =>
      have hK1 : (K == 0) = false := by simpa using hK0
      have hK2 : (K == K) = true := by simp
      clear hK0
      rcases hw with ⟨h1, rfl, rfl⟩ | ⟨h1, rfl, rfl⟩
      all_goals
        rcases hn2 with ⟨h2, rfl, rfl⟩ | ⟨h2, h3, rfl, rfl⟩ | ⟨h2, h3, rfl, rfl⟩
        next =>
          go_wp2_with fail
          refine (HWR.out _).mono ?_
          rintro e w' ⟨rfl, rfl⟩
          go_wp2_with fail
          refine (HKR.out _).mono ?_
          rintro e w6 ⟨rfl, hb⟩
          replace HB := hid (below_trans HB.out hb)
          clear hb
          go_wp2
          go_ret
          exact ⟨rfl, HB.out⟩
        next =>
          go_wp2_with fail
          refine (HWR.out _).mono ?_
          rintro e w' ⟨rfl, rfl⟩
          go_wp2_with fail
          refine (HKR.out _).mono ?_
          rintro e w6 ⟨rfl, hb⟩
          replace HB := hid (below_trans HB.out hb)
          clear hb
          go_wp2
          go_ret
          exact ⟨rfl, HB.out⟩
        next =>
          have hin := fun W => index_names (k := k) (by omega) (by omega) W
          have hsame : ((kname k).toList != (kname k).toList) = false := by simp
          go_wp2_with fail
          refine (HWR.out _).mono ?_
          rintro e w' ⟨rfl, rfl⟩
          go_wp2_with fail
          refine (namesR _).mono ?_
          rintro e w5 ⟨rfl, hb⟩
          replace HB := hid (below_trans HB.out hb)
          clear hb d0 d1 d2
          go_wp2_with fail
          refine (HKR.out _).mono ?_
          rintro e w6 ⟨rfl, hb⟩
          replace HB := hid (below_trans HB.out hb)
          clear hb
          go_wp2
          go_ret
          exact ⟨rfl, HB.out⟩
theorem scalarKindsW (h0 : 0 ≤ n) (h1 : n < 18446744073709551616) (hl : len ≤ 9223372036854775807) (hm : lm ≤ 9223372036854775807) :
    Calls Try.prog 3 #[.int .i64 k, .string t, .agg #[.int .u64 n, .slice a len cap, .slice am lm cm]] w fun e w' => e = .returned (.bool true) ∧ Below w.heap.size w w' := by
  refine kindsWith k n t a am len cap lm cm w _ _ _ _ _ _ _ _ _ _ (fun W => wireKW k W) (fun W => nameW k W) (fun W => kindW t W) (fun W => numericW k W) (fun W => numericR k W) (fun W => isKeyW k W) (fun W => isKeyR k W) (fun W => fitsW k n a am len cap lm cm W h0 h1 hl hm) (fun W => fitsR k n a am len cap lm cm W h0 h1 hl hm) (fun W => wireKR k W) (fun W => kindR t W) ?_ ?_ ?_
  · rcases kinds k with rfl | rfl | rfl | rfl | rfl | rfl | rfl | rfl | rfl | rfl | rfl | rfl | rfl | rfl | rfl | rfl | rfl | h | h
    iterate 17 (next => exact .inr ⟨by decide, by decide, by decide⟩)
    · rw [kwire_no (.inl h), kwireE_no (.inl h)]; exact .inl ⟨by decide, rfl, rfl⟩
    · rw [kwire_no (.inr h), kwireE_no (.inr h)]; exact .inl ⟨by decide, rfl, rfl⟩
  · by_cases hk : 1 ≤ k ∧ k ≤ 15
    · exact .inr ⟨hk.1, hk.2, by unfold knameE; rw [if_pos hk], rfl⟩
    · refine .inl ⟨by omega, by unfold knameE; rw [if_neg hk], ?_⟩
      unfold kname
      repeat rw [if_neg (by omega)]
  · unfold kindE
    by_cases h : kindS t = 0
    · exact .inl ⟨h, by rw [if_pos h]⟩
    · exact .inr ⟨h, by rw [if_neg h]⟩
end
end Go.Proofs.Ytgcimeldofbgkaa
