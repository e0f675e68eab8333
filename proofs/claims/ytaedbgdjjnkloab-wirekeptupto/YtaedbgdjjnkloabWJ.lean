/-
  Walks over writing fixed words, the program's and the document's.
-/
import Derived.Test.YtaedbgdjjnkloabWI
namespace Go.Proofs.Ytaedbgdjjnkloab
open Go.RowKit

theorem byte_of (n : Int) : IntKind.u8.wrap n = n % 256 := by simp [IntKind.wrap, IntKind.bits, IntKind.signed]

set_option maxHeartbeats 400000 in
theorem addWordW (base : Nat) (v : Value) (m : Nat) (xs : List Value) (n : Int) (size : Nat) (w : World) (hown : w.ownsRow base 5 1 v m xs) (hb : base ≤ w.heap.size) (_h0 : 0 ≤ n) (_h1 : n < 18446744073709551616) (h8 : size ≤ 8) (hm : m + 8 ≤ 140737488355328) :
    Calls Try.prog 24 #[v, .int .u64 n, .int .i64 size] w fun e w' => ∃ v', e = .returned v' ∧ w'.ownsRow base 5 1 v' (m + (pw size n).length) (xs ++ (pw size n).map (Value.int .u8)) ∧ Below base w w' := by
  obtain ⟨i0, hi, hz0, hz1, hz2⟩ := info_parts Try.info5
  go_enter Try.func24, Try.ntmps24
  go_wp2
  go_loopw [0, 9] (fun o r wr => ∃ k : Nat, k ≤ size ∧ r = .int .i64 k ∧ wr.ownsRow base 5 1 o (m + k) (xs ++ (pw k n).map (Value.int .u8)) ∧ Below base w wr) (fun _ r _ => size - (intOf r).toNat)
  case atStart => exact ⟨0, by omega, rfl, by simpa [pw] using hown, Below.refl _ _⟩
  case round =>
    obtain ⟨k, hk, rfl, ho, hbw⟩ := hrel
    have hsz := hbw.size
    clear hown
    by_cases hlt : k < size
    · go_wp2_with (first | (at_builtin; refine wpList_append_own _ rfl _ _ 23 rfl base 5 i0 (.int .u8 0) 1 1 Try.underlying23 hi hz0 hz1 hz2 rfl (by decide) _ _ _ rfl (ho.alloc _) ⟨wr.heap.size, 0, none⟩ 1 1 [.int .u8 (IntKind.u8.wrap (n / 2 ^ (8 * k)))] rfl rfl (cell_one_new _ _ _) (fun x hx => by simp at hx; subst hx; rfl) (by unfold maxLen; omega) (by omega) (by simp; omega) ?_; intro v' w3 hown' hgrow3 hnil3))
      refine ⟨⟨k + 1, by omega, by go_num, ?_, Below.grown (hbw.alloc (by omega) _) hgrow3 (by simp; omega) (fun k hk => (ho.lt k hk).1)⟩, by simp [intOf]; omega⟩
      rw [pw_succ, ← byte_of]
      exact own_more hown'
    · obtain rfl : k = size := by omega
      go_wp2
      go_ret
      exact ⟨_, rfl, by rw [pw_length]; exact ho, hbw⟩

end Go.Proofs.Ytaedbgdjjnkloab
