/-
  Walks over writing fixed words, the program's and the document's.
-/
import Derived.Test.YtgcimeldofbgkabWI
namespace Go.Proofs.Ytgcimeldofbgkab
open Go.RowKit
set_option maxRecDepth 1000000

set_option maxHeartbeats 400000 in
theorem addWordW (base : Nat) (v : Value) (m : Nat) (xs : List Value) (n : Int) (size : Nat) (w : World) (hown : w.ownsRow base 5 1 v m xs) (hb : base ≤ w.heap.size) (_h0 : 0 ≤ n) (_h1 : n < 18446744073709551616) (h8 : size ≤ 8) (hm : m + 8 ≤ 140737488355328) :
    Calls Try.prog 35 #[v, .int .u64 n, .int .i64 size] w fun e w' => ∃ v', e = .returned v' ∧ w'.ownsRow base 5 1 v' (m + (pw size n).length) (xs ++ (pw size n).map (Value.int .u8)) ∧ Below base w w' := by
  obtain ⟨i0, hi, hz0, hz1, hz2⟩ := info_parts Try.info5
  go_enter Try.func35, Try.ntmps35
  go_wp2
  go_loopw [0, 9] (fun o r wr => ∃ k : Nat, k ≤ size ∧ r = .int .i64 k ∧ wr.ownsRow base 5 1 o (m + k) (xs ++ (pw k n).map (Value.int .u8)) ∧ Below base w wr) (fun _ r _ => size - (intOf r).toNat)
  case atStart => exact ⟨0, by omega, rfl, by simpa [pw] using hown, Below.refl _ _⟩
  case round =>
    obtain ⟨k, hk, rfl, ho, hbw⟩ := hrel
    have hsz := hbw.size
    clear hown
    by_cases hlt : k < size
    · go_wp2_with (first | (at_builtin; refine wpList_append_own _ rfl _ _ 23 rfl base 5 i0 (.int .u8 0) 1 1 Try.underlying23 hi hz0 hz1 hz2 rfl (by decide) _ _ _ rfl (ho.alloc _) ⟨wr.heap.size, 0, none⟩ 1 1 [.int .u8 (IntKind.u8.wrap (n / 2 ^ (8 * k)))] rfl rfl (cell_one_new _ _ _) (fun x hx => by simp at hx; subst hx; rfl) (by unfold maxLen; omega) (by omega) (by simp; omega) ?_; intro v' w3 hown' hgrow3 hnil3))
      refine ⟨⟨k + 1, by omega, by go_num, ?_, Below.grown (hbw.alloc (by omega) _) hgrow3 (by simp; omega) (fun k hk => (ho.lt k hk).1)⟩, by simp [intOf]; omega⟩
      rw [pw_succ, ← byte_of]
      exact own_more hown'
    · obtain rfl : k = size := by omega
      go_wp2
      go_ret
      exact ⟨_, rfl, by rw [pw_length]; exact ho, hbw⟩

theorem putFix64W (n : Int) (w : World) (h0 : 0 ≤ n) (h1 : n < 18446744073709551616) :
    Calls Try.prog 22 #[.int .u64 n] w fun e w' => ∃ a cap, e = .returned (.slice a (pw 8 n).length cap) ∧ Reads w' a (pw 8 n).length cap (pw 8 n) ∧ Below w.heap.size w w' := by
  obtain ⟨i0, hi, hz0, hz1, hz2⟩ := info_parts Try.info5
  obtain ⟨w1, hrun, hown, hgr⟩ := run_makeSlice_owned (P := Try.prog) w w.heap.size 23 5 i0 (.int .u8 0) 1 Try.underlying23 hi hz0 hz1 .i64 .i64 8 (by omega) (by rw [hz2]; omega) (by unfold maxLen; omega) (Nat.le_refl _)
  have hsz := hgr.size
  have hbw : Below w.heap.size w w1 := Below.grown (Below.refl _ _) hgr (Nat.le_refl _) (fun k hk => by cases hk)
  have hrun8 : (Instr.makeSlice 23 (.int .i64 0) (.int .i64 8)).run Try.prog w = .ok (.slice (some ⟨w.heap.size, 0, none⟩) 0 8) w1 := hrun
  clear hrun
  go_enter Try.func22, Try.ntmps22
  go_wp2_with fail
  refine (addWordW w.heap.size _ 0 [] n 8 _ hown (by omega) h0 h1 (by omega) (by omega)).mono ?_
  rintro e w2 ⟨v', rfl, ho', hb'⟩
  go_wp2
  go_ret
  rw [List.nil_append, Nat.zero_add] at ho'
  obtain ⟨a, cap, rfl, hr⟩ := own_reads ho' (pw_bd 8 n)
  exact ⟨a, cap, rfl, hr, hbw.trans hb'⟩

theorem putFix32W (n : Int) (w : World) (h0 : 0 ≤ n) (h1 : n < 4294967296) :
    Calls Try.prog 21 #[.int .u32 n] w fun e w' => ∃ a cap, e = .returned (.slice a (pw 4 n).length cap) ∧ Reads w' a (pw 4 n).length cap (pw 4 n) ∧ Below w.heap.size w w' := by
  obtain ⟨i0, hi, hz0, hz1, hz2⟩ := info_parts Try.info5
  obtain ⟨w1, hrun, hown, hgr⟩ := run_makeSlice_owned (P := Try.prog) w w.heap.size 23 5 i0 (.int .u8 0) 1 Try.underlying23 hi hz0 hz1 .i64 .i64 4 (by omega) (by rw [hz2]; omega) (by unfold maxLen; omega) (Nat.le_refl _)
  have hsz := hgr.size
  have hbw : Below w.heap.size w w1 := Below.grown (Below.refl _ _) hgr (Nat.le_refl _) (fun k hk => by cases hk)
  have hrun4 : (Instr.makeSlice 23 (.int .i64 0) (.int .i64 4)).run Try.prog w = .ok (.slice (some ⟨w.heap.size, 0, none⟩) 0 4) w1 := hrun
  clear hrun
  go_enter Try.func21, Try.ntmps21
  go_wp2_with fail
  refine (addWordW w.heap.size _ 0 [] n 4 _ hown (by omega) h0 (by omega) (by omega) (by omega)).mono ?_
  rintro e w2 ⟨v', rfl, ho', hb'⟩
  go_wp2
  go_ret
  rw [List.nil_append, Nat.zero_add] at ho'
  obtain ⟨a, cap, rfl, hr⟩ := own_reads ho' (pw_bd 4 n)
  exact ⟨a, cap, rfl, hr, hbw.trans hb'⟩

end Go.Proofs.Ytgcimeldofbgkab
