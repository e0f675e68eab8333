/-
  Walks over the functions that read a varint, the program's and the document's.
-/
import Derived.Test.YtgcimeldofbgkaaWA
import Derived.WalkMore
namespace Go.Proofs.Ytgcimeldofbgkaa
open Go.RowKit

theorem ret_gv {g : Int × Int × Int} {a b c : Int} (h : g = (a, b, c)) : Ending.returned (.tuple #[.int .u64 a, .int .i64 b, .int .i64 c]) = .returned (.tuple #[.int .u64 g.1, .int .i64 g.2.1, .int .i64 g.2.2]) := by rw [h]

theorem getvOut (a : Option Addr) (len cap : Nat) (p : Int) (w : World) (hl : len ≤ 9223372036854775807) (hp : p < 0 ∨ (len : Int) < p) :
    Calls Try.prog 60 #[.slice a len cap, .int .i64 p] w fun e w' => e = .returned (.tuple #[.int .u64 0, .int .i64 0, .int .i64 18]) ∧ w' = w := by
  have H : Hid (p < 0 ∨ (len : Int) < p) := hp
  clear hp
  go_enter Try.func60, Try.ntmps60
  go_wp2; go_step3; go_wp2_with (go_at_call 69; refine (outsideYes _ _ _ _ _ hl H.out).mono ?_; rintro e w' ⟨rfl, rfl⟩)
  try rw [Exit.noGoto_ret]
  go_ret3
  exact ⟨rfl, rfl⟩

theorem getvEnd (a : Option Addr) (len cap : Nat) (w : World) (ha : a = none → cap = 0) (hlc : len ≤ cap) (hm : cap ≤ 9223372036854775807) :
    Calls Try.prog 60 #[.slice a len cap, .int .i64 len] w fun e w' => e = .returned (.tuple #[.int .u64 0, .int .i64 0, .int .i64 3]) ∧ w' = w := by
  have h0 : len - len = 0 := by omega
  cases a with
  | none =>
    have := ha rfl
    subst this
    obtain rfl : len = 0 := by omega
    clear ha
    go_enter Try.func60, Try.ntmps60
    go_wp2; go_step3; go_wp2_with (go_at_call 69; refine (outsideNo _ _ _ _ _ (by omega) (by omega) (by omega)).mono ?_; rintro e w' ⟨rfl, rfl⟩); go_step3; go_wp2
    refine wp_loop_rounds 1 ?_
    rw [rounds_succ]
    go_wp2
    try rw [Exit.noGoto_ret]
    go_ret3
    exact ⟨rfl, rfl⟩
  | some x =>
    clear ha
    obtain ⟨b, off, spot⟩ := x
    go_enter Try.func60, Try.ntmps60
    go_wp2; go_step3; go_wp2_with (go_at_call 69; refine (outsideNo _ _ _ _ _ (by omega) (by omega) (by omega)).mono ?_; rintro e w' ⟨rfl, rfl⟩); go_step3; go_wp2
    all_goals
      refine wp_loop_rounds 1 ?_
      rw [rounds_succ]
      go_wp2
      try rw [Exit.noGoto_ret]
      go_ret3
      exact ⟨rfl, rfl⟩

set_option maxHeartbeats 400000 in
theorem getvIn (b off len cap p : Nat) (xs : List Int) (w : World) (hl : xs.length = len) (hlc : len ≤ cap) (hm : cap ≤ 9223372036854775807) (hp : p < len)
    (hc : ∀ i, i < len → w.cell? ⟨b, off + i, none⟩ = some (.int .u8 (xs.getD i 0))) (hr : ∀ i, 0 ≤ xs.getD i 0 ∧ xs.getD i 0 ≤ 255) :
    Calls Try.prog 60 #[.slice (some ⟨b, off, none⟩) len cap, .int .i64 p] w fun e w' =>
      e = .returned (.tuple #[.int .u64 (gv xs p).1, .int .i64 (gv xs p).2.1, .int .i64 (gv xs p).2.2]) ∧ w' = w := by
  go_enter Try.func60, Try.ntmps60
  go_wp2; go_step3; go_wp2_with (go_at_call 69; refine (outsideNo _ _ _ _ _ (by omega) (by omega) (by omega)).mono ?_; rintro e w' ⟨rfl, rfl⟩); go_step3; go_wp2
  go_loop [4, 5, 6, 7, 8, 16] (fun n nx e i c r => ∃ (k : Nat) (X : Int), k ≤ 9 ∧ k ≤ len - p ∧ 0 ≤ X ∧ X < 2 ^ (7 * k) ∧ r = .int .i64 k ∧ n = .int .u64 X ∧ nx = .int .i64 0 ∧ e = .int .i64 3 ∧ gv xs p = gvF (xs.drop (p + k)) k X p) (fun _ _ _ _ _ r => len - p - (intOf r).toNat)
  case atStart => exact ⟨0, 0, by omega, by omega, by omega, by simp, rfl, rfl, rfl, rfl, by simp [gv]⟩
  case round =>
    obtain ⟨k, X, hk9, hk, hX0, hX, rfl, rfl, rfl, rfl, hg⟩ := hrel
    have HG : Hid (gv xs p = gvF (xs.drop (p + k)) k X p) := hg
    clear hg
    have hrk : 0 ≤ xs[p + k]?.getD 0 ∧ xs[p + k]?.getD 0 ≤ 255 := by have := hr (p + k); rwa [List.getD_eq_getElem?_getD] at this
    have hck : k < len - p → w.cell? ⟨b, off + p + k, none⟩ = some (.int .u8 (xs.getD (p + k) 0)) := fun h => by rw [Nat.add_assoc]; exact hc (p + k) (by omega)
    clear hr hc
    go_wp2
    · -- the tenth byte is too great
      have hlt : k < len - p := by assumption
      try rw [Exit.noGoto_ret]
      go_ret3
      exact ⟨ret_gv (by rw [HG.out, g_bad (by omega) ‹_› ‹_›]), rfl⟩
    · -- the tenth byte
      have hlt : k < len - p := by assumption
      have h9 : (k : Int) = 9 := by assumption
      have hc1 : xs[p + k]?.getD 0 ≤ 1 := by assumption
      try rw [Exit.noGoto_ret]
      go_ret3
      refine ⟨ret_gv ?_, rfl⟩
      rw [HG.out, g_last (by omega) (fun _ => hc1) hrk.1 (by omega), step_val k hk9 X _ hX0 hX hrk.1 hrk.2 (fun _ => hc1)]
      have : k = 9 := by omega
      subst this
      rfl
    · -- a last byte
      have hlt : k < len - p := by assumption
      have h9 : ¬ (k : Int) = 9 := by assumption
      have hc1 : xs[p + k]?.getD 0 < 128 := by assumption
      try rw [Exit.noGoto_ret]
      go_ret3
      refine ⟨ret_gv ?_, rfl⟩
      rw [HG.out, g_last (by omega) (fun h => absurd h h9) hrk.1 (by omega), step_val k hk9 X _ hX0 hX hrk.1 hrk.2 (fun h => by omega)]
    · -- one that goes on
      have hlt : k < len - p := by assumption
      have h9 : ¬ (k : Int) = 9 := by assumption
      have hc1 : 128 ≤ xs[p + k]?.getD 0 := by assumption
      have hp2 : (0 : Int) < 2 ^ (7 * k) := Int.pow_pos (by decide)
      have hs := step_val k hk9 X _ hX0 hX hrk.1 hrk.2 (fun h => by omega)
      have hm0 : 0 ≤ xs[p + k]?.getD 0 % 128 * 2 ^ (7 * k) := Int.mul_nonneg (by omega) (Int.le_of_lt hp2)
      have HS : Hid (bits .or .u64 X (IntKind.u64.wrap (IntKind.u64.wrap (bits .and .u8 (xs[p + k]?.getD 0) 127) * 2 ^ (7 * k))) = X + xs[p + k]?.getD 0 % 128 * 2 ^ (7 * k)) := hs
      clear hs
      refine ⟨⟨k + 1, X + xs[p + k]?.getD 0 % 128 * 2 ^ (7 * k), by omega, by omega, by omega, step_lt k X _ hX (by omega), by go_num, by rw [HS.out], rfl, rfl, by rw [HG.out, g_more (by omega) h9 hc1 hrk.2]⟩, by simp [intOf]; omega⟩
    · -- the end
      have hge : ¬ k < len - p := by assumption
      try rw [Exit.noGoto_ret]
      go_ret3
      exact ⟨ret_gv (by rw [HG.out, g_end (by omega)]), rfl⟩

/-- The program's GetVarint at a place of a slice that can be read. -/
theorem getvW (a : Option Addr) (len cap p : Nat) (xs : List Int) (w : World) (h : Reads w a len cap xs) (hp : p ≤ len) :
    Calls Try.prog 60 #[.slice a len cap, .int .i64 p] w fun e w' =>
      e = .returned (.tuple #[.int .u64 (gv xs p).1, .int .i64 (gv xs p).2.1, .int .i64 (gv xs p).2.2]) ∧ w = w' := by
  by_cases hpl : p = len
  · subst hpl
    rw [gv_end xs p (by rw [h.length]; exact Nat.le_refl _)]
    refine (getvEnd a p cap w (fun e => ?_) h.le h.max).mono fun e w' h => ⟨h.1, h.2.symm⟩
    rcases h.cells with ⟨_, h2⟩ | ⟨b, off, rfl, _⟩
    · exact h2 e
    · cases e
  · rcases h.cells with ⟨h0, _⟩ | ⟨b, off, rfl, hc⟩
    · omega
    · exact (getvIn b off len cap p xs w h.length h.le h.max (by omega) hc h.bd).mono fun e w' h => ⟨h.1, h.2.symm⟩

set_option maxHeartbeats 400000 in
theorem getvRefIn (b off len cap p : Nat) (xs : List Int) (w : World) (hl : xs.length = len) (hlc : len ≤ cap) (hm : cap ≤ 9223372036854775807) (hp : p < len)
    (hc : ∀ i, i < len → w.cell? ⟨b, off + i, none⟩ = some (.int .u8 (xs.getD i 0))) (hr : ∀ i, 0 ≤ xs.getD i 0 ∧ xs.getD i 0 ≤ 255) :
    Calls Try.prog 45 #[.slice (some ⟨b, off, none⟩) len cap, .int .i64 p] w fun e w' =>
      e = .returned (.tuple #[.int .u64 (gv xs p).1, .int .i64 (gv xs p).2.1, .int .i64 (gv xs p).2.2]) ∧ w' = w := by
  go_enter Try.func45, Try.ntmps45
  go_wp2
  go_loop [7, 8, 9] (fun n k0 c => ∃ (k : Nat) (X : Int), k ≤ 9 ∧ k ≤ len - p ∧ 0 ≤ X ∧ X < 2 ^ (7 * k) ∧ k0 = .int .i64 k ∧ n = .int .u64 X ∧ gv xs p = gvF (xs.drop (p + k)) k X p) (fun _ k0 _ => len - p - (intOf k0).toNat)
  case atStart => exact ⟨0, 0, by omega, by omega, by omega, by simp, rfl, rfl, by simp [gv]⟩
  case round =>
    obtain ⟨k, X, hk9, hk, hX0, hX, rfl, rfl, hg⟩ := hrel
    have HG : Hid (gv xs p = gvF (xs.drop (p + k)) k X p) := hg
    clear hg
    have hrk : 0 ≤ xs[p + k]?.getD 0 ∧ xs[p + k]?.getD 0 ≤ 255 := by have := hr (p + k); rwa [List.getD_eq_getElem?_getD] at this
    have hck : (p : Int) + k < len → w.cell? ⟨b, off + (p + k), none⟩ = some (.int .u8 (xs.getD (p + k) 0)) := fun h => hc (p + k) (by omega)
    clear hr hc
    go_wp2
    · have hge : (len : Int) ≤ (p : Int) + k := by assumption
      go_ret3
      exact ⟨ret_gv (by rw [HG.out, g_end (by omega)]), rfl⟩
    · have hlt : (p : Int) + k < len := by assumption
      go_ret3
      exact ⟨ret_gv (by rw [HG.out, g_bad (by omega) ‹_› ‹_›]), rfl⟩
    · have hlt : (p : Int) + k < len := by assumption
      have h9 : (k : Int) = 9 := by assumption
      have hc1 : xs[p + k]?.getD 0 ≤ 1 := by assumption
      go_ret3
      refine ⟨ret_gv ?_, rfl⟩
      obtain rfl : k = 9 := by omega
      rw [HG.out, g_last (by omega) (fun _ => hc1) hrk.1 (by omega)]
      have h3 := (or_step 9 (by omega) X (xs[p + 9]?.getD 0 % 128) hX0 hX (by omega) (by omega) (fun _ => by omega)).2.2
      have e2 : (2 : Int) ^ (7 * 9) = 9223372036854775808 := by decide
      rw [e2] at h3 ⊢
      rw [h3]
      rfl
    · have hlt : (p : Int) + k < len := by assumption
      have h9 : ¬ (k : Int) = 9 := by assumption
      have hc1 : xs[p + k]?.getD 0 < 128 := by assumption
      go_ret3
      refine ⟨ret_gv ?_, rfl⟩
      rw [HG.out, g_last (by omega) (fun h => absurd h h9) hrk.1 (by omega), step_ref k hk9 X _ hX0 hX hrk.1 hrk.2 (fun h => by omega)]
    · have hlt : (p : Int) + k < len := by assumption
      have h9 : ¬ (k : Int) = 9 := by assumption
      have hc1 : 128 ≤ xs[p + k]?.getD 0 := by assumption
      have hp2 : (0 : Int) < 2 ^ (7 * k) := Int.pow_pos (by decide)
      have hs := step_ref k hk9 X _ hX0 hX hrk.1 hrk.2 (fun h => by omega)
      have hm0 : 0 ≤ xs[p + k]?.getD 0 % 128 * 2 ^ (7 * k) := Int.mul_nonneg (by omega) (Int.le_of_lt hp2)
      have HS : Hid (bits .or .u64 X (IntKind.u64.wrap (xs[p + k]?.getD 0 % 128 * 2 ^ (7 * k))) = X + xs[p + k]?.getD 0 % 128 * 2 ^ (7 * k)) := hs
      clear hs
      refine ⟨⟨k + 1, X + xs[p + k]?.getD 0 % 128 * 2 ^ (7 * k), by omega, by omega, by omega, step_lt k X _ hX (by omega), by go_num, by rw [HS.out], by rw [HG.out, g_more (by omega) h9 hc1 hrk.2]⟩, by simp [intOf]; omega⟩

theorem getvRefEnd (a : Option Addr) (len cap : Nat) (w : World) (hm : len ≤ 9223372036854775807) :
    Calls Try.prog 45 #[.slice a len cap, .int .i64 len] w fun e w' => e = .returned (.tuple #[.int .u64 0, .int .i64 0, .int .i64 3]) ∧ w' = w := by
  go_enter Try.func45, Try.ntmps45
  go_wp2
  refine wp_loop_rounds 1 ?_
  rw [rounds_succ]
  go_wp2
  go_ret3
  exact ⟨rfl, rfl⟩

/-- The document's GetVarint likewise. -/
theorem getvR (a : Option Addr) (len cap p : Nat) (xs : List Int) (w : World) (h : Reads w a len cap xs) (hp : p ≤ len) :
    Calls Try.prog 45 #[.slice a len cap, .int .i64 p] w fun e w' =>
      e = .returned (.tuple #[.int .u64 (gv xs p).1, .int .i64 (gv xs p).2.1, .int .i64 (gv xs p).2.2]) ∧ w = w' := by
  by_cases hpl : p = len
  · subst hpl
    rw [gv_end xs p (by rw [h.length]; exact Nat.le_refl _)]
    exact (getvRefEnd a p cap w (Nat.le_trans h.le h.max)).mono fun e w' h => ⟨h.1, h.2.symm⟩
  · rcases h.cells with ⟨h0, _⟩ | ⟨b, off, rfl, hc⟩
    · omega
    · exact (getvRefIn b off len cap p xs w h.length h.le h.max (by omega) hc h.bd).mono fun e w' h => ⟨h.1, h.2.symm⟩
end Go.Proofs.Ytgcimeldofbgkaa
