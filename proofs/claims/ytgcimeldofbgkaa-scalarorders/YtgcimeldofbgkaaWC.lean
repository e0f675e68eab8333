/-
  Walks over 'same' and over the functions that write a varint, the program's and the document's.
-/
import Derived.Test.YtgcimeldofbgkaaWB
import Derived.Laws.BytesArg
import Derived.Laws.MakeOwn
import Derived.OwnWalk
namespace Go.Proofs.Ytgcimeldofbgkaa
open Go.RowKit
set_option maxRecDepth 1000000

theorem own_last {w : World} {base m j : Nat} {v : Value} {xs : List Value} {pre all : List Int} {N : Int} (h : w.ownsRow base 5 1 v (m + j + 1) (xs ++ pre.map (Value.int .u8) ++ [.int .u8 N])) (hj : pre.length = j) (e : all = pre ++ [N]) :
    w.ownsRow base 5 1 v (m + all.length) (xs ++ all.map (Value.int .u8)) := by
  subst hj e
  simpa [Nat.add_assoc] using h
theorem own_more {w : World} {base m j : Nat} {v : Value} {xs : List Value} {pre : List Int} {N : Int} (h : w.ownsRow base 5 1 v (m + j + 1) (xs ++ pre.map (Value.int .u8) ++ [.int .u8 N])) :
    w.ownsRow base 5 1 v (m + (j + 1)) (xs ++ (pre ++ [N]).map (Value.int .u8)) := by
  simpa [Nat.add_assoc] using h
theorem pv_more {f : Nat} {N : Int} (h : N < 128 ^ (f + 1)) (hge : ¬ N < 128) : ∃ g, f = g + 1 ∧ N / 128 < 128 ^ (g + 1) ∧ pvF f N = (N % 128 + 128) :: pvF g (N / 128) := by
  cases f with
  | zero => simp at h; omega
  | succ g => exact ⟨g, rfl, div_lt _ h, pvF_big g hge⟩
set_option maxHeartbeats 400000 in
theorem addvW (base : Nat) (v : Value) (m : Nat) (xs : List Value) (n : Int) (w : World) (hown : w.ownsRow base 5 1 v m xs) (hb : base ≤ w.heap.size) (h0 : 0 ≤ n) (h1 : n < 18446744073709551616) (hm : m + 10 ≤ 140737488355328) :
    Calls Try.prog 56 #[v, .int .u64 n] w fun e w' => ∃ v', e = .returned v' ∧ w'.ownsRow base 5 1 v' (m + (pv n).length) (xs ++ (pv n).map (Value.int .u8)) ∧ Below base w w' := by
  obtain ⟨i0, hi, hz0, hz1, hz2⟩ := info_parts Try.info5
  have H9 : Hid (n < 128 ^ (9 + 1)) := lt_ten h1
  go_enter Try.func56, Try.ntmps56
  go_wp2
  go_loopw [0, 1] (fun o nn wr => ∃ (f j : Nat) (N : Int) (pre : List Int), 0 ≤ N ∧ N < 18446744073709551616 ∧ Hid (N < 128 ^ (f + 1)) ∧ pre.length = j ∧ j + f ≤ 9 ∧ nn = .int .u64 N ∧ wr.ownsRow base 5 1 o (m + j) (xs ++ pre.map (Value.int .u8)) ∧ Below base w wr ∧ Hid (pv n = pre ++ pvF f N)) (fun _ nn _ => (intOf nn).toNat)
  case atStart => exact ⟨9, 0, n, [], h0, h1, H9, rfl, by omega, rfl, by simpa using hown, Below.refl _ _, rfl⟩
  case round =>
    obtain ⟨f, j, N, pre, hN0, hN, HN, hj, hjf, rfl, ho, hbw, HP⟩ := hrel
    have hsz := hbw.size
    have hd := digit N hN0 hN
    clear hown
    by_cases hlt : N < 128
    · go_wp2_with (first
        | (at_builtin; refine wpList_append_own _ rfl _ _ 23 rfl base 5 i0 (.int .u8 0) 1 1 Try.underlying23 hi hz0 hz1 hz2 rfl (by decide) _ _ _ rfl (ho.alloc _) ⟨wr.heap.size, 0, none⟩ 1 1 [.int .u8 N] rfl rfl (cell_one_new _ _ _) (fun x hx => by simp at hx; subst hx; rfl) (by unfold maxLen; omega) (by omega) (by simp; omega) ?_; intro v' w3 hown' hgrow3 hnil3))
      go_ret
      exact ⟨v', rfl, own_last hown' hj (by rw [HP.out, pvF_small _ hlt]), Below.grown (hbw.alloc (by omega) _) hgrow3 (by simp; omega) (fun k hk => (ho.lt k hk).1)⟩
    · go_wp2_with (first
        | (at_builtin; refine wpList_append_own _ rfl _ _ 23 rfl base 5 i0 (.int .u8 0) 1 1 Try.underlying23 hi hz0 hz1 hz2 rfl (by decide) _ _ _ rfl (ho.alloc _) ⟨wr.heap.size, 0, none⟩ 1 1 [.int .u8 (N % 128 + 128)] rfl rfl (cell_one_new _ _ _) (fun x hx => by simp at hx; subst hx; rfl) (by unfold maxLen; omega) (by omega) (by simp; omega) ?_; intro v' w3 hown' hgrow3 hnil3))
      obtain ⟨g, rfl, hg, e⟩ := pv_more HN.out hlt
      exact ⟨⟨g, j + 1, N / 128, pre ++ [N % 128 + 128], by omega, by omega, hg, by simp [hj], by omega, rfl, own_more hown', Below.grown (hbw.alloc (by omega) _) hgrow3 (by simp; omega) (fun k hk => (ho.lt k hk).1), by show _ = _; rw [HP.out, e]; simp⟩, by simp [intOf]; omega⟩

set_option maxHeartbeats 400000 in
theorem putvW (n : Int) (w : World) (h0 : 0 ≤ n) (h1 : n < 18446744073709551616) :
    Calls Try.prog 31 #[.int .u64 n] w fun e w' => ∃ v', e = .returned v' ∧ w'.ownsRow w.heap.size 5 1 v' (pv n).length ((pv n).map (Value.int .u8)) ∧ Below w.heap.size w w' := by
  obtain ⟨i0, hi, hz0, hz1, hz2⟩ := info_parts Try.info5
  have hl := (pv_len n).2
  obtain ⟨w1, hrun, hown, hgr⟩ := run_makeSlice_owned (P := Try.prog) w w.heap.size 23 5 i0 (.int .u8 0) 1 Try.underlying23 hi hz0 hz1 .i64 .i64 (pv n).length (by omega) (by rw [hz2]; omega) (by unfold maxLen; omega) (Nat.le_refl _)
  have hsz := hgr.size
  have hbw : Below w.heap.size w w1 := Below.grown (Below.refl _ _) hgr (Nat.le_refl _) (fun k hk => by cases hk)
  go_enter Try.func31, Try.ntmps31
  go_wp2_with (first
    | (go_at_call 57; refine (sizeW _ _ h0 h1).mono ?_; rintro e w' ⟨rfl, rfl⟩)
    | (go_at_call 56; go_must (refine (addvW w.heap.size _ 0 [] _ _ hown (by omega) h0 h1 (by omega)).mono ?_); rintro e w' ⟨v', rfl, ho', hb'⟩))
  go_ret
  exact ⟨v', rfl, by simpa using ho', hbw.trans hb'⟩

set_option maxHeartbeats 400000 in
theorem putvR (n : Int) (w : World) (h0 : 0 ≤ n) (h1 : n < 18446744073709551616) :
    Calls Try.prog 40 #[.int .u64 n] w fun e w' => ∃ v', e = .returned v' ∧ w'.ownsRow w.heap.size 5 1 v' (pv n).length ((pv n).map (Value.int .u8)) ∧ Below w.heap.size w w' := by
  obtain ⟨i0, hi, hz0, hz1, hz2⟩ := info_parts Try.info5
  have H9 : Hid (n < 128 ^ (9 + 1)) := lt_ten h1
  go_enter Try.func40, Try.ntmps40
  go_wp2
  go_loopw [0, 3] (fun nn o wr => ∃ (f j : Nat) (N : Int) (pre : List Int), 0 ≤ N ∧ N < 18446744073709551616 ∧ Hid (N < 128 ^ (f + 1)) ∧ pre.length = j ∧ j + f ≤ 9 ∧ nn = .int .u64 N ∧ wr.ownsRow w.heap.size 5 1 o (0 + j) ([] ++ pre.map (Value.int .u8)) ∧ Below w.heap.size w wr ∧ Hid (pv n = pre ++ pvF f N)) (fun nn _ _ => (intOf nn).toNat)
  case atStart => exact ⟨9, 0, n, [], h0, h1, H9, rfl, by omega, rfl, World.ownsRow_nil _ _ _ _, Below.refl _ _, rfl⟩
  case round =>
    obtain ⟨f, j, N, pre, hN0, hN, HN, hj, hjf, rfl, ho, hbw, HP⟩ := hrel
    have hsz := hbw.size
    by_cases hlt : N < 128
    · go_wp2_with (first
        | (at_builtin; refine wpList_append_own _ rfl _ _ 23 rfl w.heap.size 5 i0 (.int .u8 0) 1 1 Try.underlying23 hi hz0 hz1 hz2 rfl (by decide) _ _ _ rfl (ho.alloc _) ⟨wr.heap.size, 0, none⟩ 1 1 [.int .u8 N] rfl rfl (cell_one_new _ _ _) (fun x hx => by simp at hx; subst hx; rfl) (by unfold maxLen; omega) (by omega) (by simp; omega) ?_; intro v' w3 hown' hgrow3 hnil3))
      go_ret
      refine ⟨v', rfl, ?_, Below.grown (hbw.alloc (by omega) _) hgrow3 (by simp; omega) (fun k hk => (ho.lt k hk).1)⟩
      have := own_last (all := pv n) hown' hj (by rw [HP.out, pvF_small _ hlt])
      simpa using this
    · go_wp2_with (first
        | (at_builtin; refine wpList_append_own _ rfl _ _ 23 rfl w.heap.size 5 i0 (.int .u8 0) 1 1 Try.underlying23 hi hz0 hz1 hz2 rfl (by decide) _ _ _ rfl (ho.alloc _) ⟨wr.heap.size, 0, none⟩ 1 1 [.int .u8 (N % 128 + 128)] rfl rfl (cell_one_new _ _ _) (fun x hx => by simp at hx; subst hx; rfl) (by unfold maxLen; omega) (by omega) (by simp; omega) ?_; intro v' w3 hown' hgrow3 hnil3))
      obtain ⟨g, rfl, hg, e⟩ := pv_more HN.out hlt
      exact ⟨⟨g, j + 1, N / 128, pre ++ [N % 128 + 128], by omega, by omega, hg, by simp [hj], by omega, rfl, own_more hown', Below.grown (hbw.alloc (by omega) _) hgrow3 (by simp; omega) (fun k hk => (ho.lt k hk).1), by show _ = _; rw [HP.out, e]; simp⟩, by simp [intOf]; omega⟩
end Go.Proofs.Ytgcimeldofbgkaa
