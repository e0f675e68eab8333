/-
  Walks over writing chunks, the program's and the document's.
-/
import Derived.Test.YtgcimeldofbgkaaWJ
import Derived.Laws.AppendOwnNone
namespace Go.Proofs.Ytgcimeldofbgkaa
open Go.RowKit
set_option maxRecDepth 1000000

theorem own_cat {w : World} {base m n l : Nat} {v : Value} {xs : List Value} {ps ys : List Int} (h : w.ownsRow base 5 1 v (m + n + l) (xs ++ ps.map (Value.int .u8) ++ ys.map (Value.int .u8))) (hn : ps.length = n) (hl : ys.length = l) :
    w.ownsRow base 5 1 v (m + (ps ++ ys).length) (xs ++ (ps ++ ys).map (Value.int .u8)) := by
  subst hn hl
  simpa [Nat.add_assoc] using h

set_option maxHeartbeats 400000 in
theorem addChunkW (base : Nat) (v : Value) (m : Nat) (xs : List Value) (a : Option Addr) (len cap : Nat) (ys : List Int) (w : World) (hown : w.ownsRow base 5 1 v m xs) (hb : base ≤ w.heap.size) (hsrc : ∀ w', Below base w w' → Reads w' a len cap ys) (hm : m + 10 + len ≤ 140737488355328) :
    Calls Try.prog 59 #[v, .slice a len cap] w fun e w' => ∃ v', e = .returned v' ∧ w'.ownsRow base 5 1 v' (m + (pc ys).length) (xs ++ (pc ys).map (Value.int .u8)) ∧ Below base w w' := by
  obtain ⟨i0, hi, hz0, hz1, hz2⟩ := info_parts Try.info5
  have hlen := (hsrc w (Below.refl _ _)).length
  have hpl := (pv_len (len : Int)).2
  have HP : Hid (pc ys = pv (len : Int) ++ ys) := by show _ = _; rw [pc, hlen]
  have HL := hid hlen
  have HS := hid hsrc
  have HO := hid hown
  clear hsrc hown hlen
  go_enter Try.func59, Try.ntmps59
  go_wp2_with fail
  refine (addvW base v m xs (len : Int) _ HO.out hb (by omega) (by omega) (by omega)).mono ?_
  rintro e w1 ⟨v1, rfl, ho1, hb1⟩
  have hr1 := HS.out w1 hb1
  have hsz := hb1.size
  cases a with
  | none =>
    obtain ⟨rfl, rfl, rfl⟩ := reads_none hr1
    clear hr1
    go_wp2_with (first | (at_builtin; refine wpList_append_own_none rfl _ _ 23 rfl base 5 i0 1 Try.underlying23 hi _ _ _ rfl ho1 rfl ?_))
    go_ret
    exact ⟨v1, rfl, by rw [HP.out, List.append_nil]; exact ho1, hb1⟩
  | some x =>
    have hc1 := hid (reads_src hr1)
    clear hr1
    go_wp2_with (first | (at_builtin; refine wpList_append_own _ rfl _ _ 23 rfl base 5 i0 (.int .u8 0) 1 1 Try.underlying23 hi hz0 hz1 hz2 rfl (by decide) _ _ _ rfl ho1 x len cap (ys.map (Value.int .u8)) rfl (by rw [List.length_map, HL.out, Nat.mul_one]) hc1.out (one_u8 ys) (by unfold maxLen; omega) (by omega) (by omega) ?_; intro v' w3 hown' hgrow3 hnil3))
    go_ret
    exact ⟨v', rfl, by rw [HP.out]; exact own_cat hown' rfl HL.out, Below.grown hb1 hgrow3 (by omega) (fun k hk => (ho1.lt k hk).1)⟩

set_option maxHeartbeats 400000 in
theorem putChunkW (a : Option Addr) (len cap : Nat) (ys : List Int) (w : World) (hr : Reads w a len cap ys) (hm : 10 + len ≤ 140737488355328) :
    Calls Try.prog 35 #[.slice a len cap] w fun e w' => ∃ b c, e = .returned (.slice b (pc ys).length c) ∧ Reads w' b (pc ys).length c (pc ys) ∧ Below w.heap.size w w' := by
  obtain ⟨i0, hi, hz0, hz1, hz2⟩ := info_parts Try.info5
  have hpl := (pv_len (len : Int)).2
  obtain ⟨w1, hrun, hown, hgr⟩ := run_make_own (P := Try.prog) w w.heap.size 23 5 i0 (.int .u8 0) 1 Try.underlying23 hi hz0 hz1 .i64 .i64 ((pv (len : Int)).length + len) (by rw [hz2]; omega) (by unfold maxLen; omega) (Nat.le_refl _)
  have hsz := hgr.size
  have hbw : Below w.heap.size w w1 := Below.grown (Below.refl _ _) hgr (Nat.le_refl _) (fun k hk => by cases hk)
  rw [Int.natCast_add] at hrun
  have HR := hid hr
  have hlen := hr.length
  have HB := hid (show ∀ x ∈ pc ys, 0 ≤ x ∧ x ≤ 255 by
    intro x hx
    rcases List.mem_append.1 hx with h | h
    · exact pv_bd (by omega) (by omega) x h
    · exact bd_mem hr.bd x h)
  clear hr hlen
  go_enter Try.func35, Try.ntmps35
  go_wp2_with fail
  refine (sizeW _ _ (by omega) (by omega)).mono ?_
  rintro e w' ⟨rfl, rfl⟩
  go_wp2_with fail
  refine (addChunkW w.heap.size _ 0 [] a len cap ys _ hown (by omega) (fun w' h => reads_kept HR.out (hbw.trans h)) (by omega)).mono ?_
  rintro e w2 ⟨v', rfl, ho', hb'⟩
  go_wp2
  go_ret
  rw [List.nil_append, Nat.zero_add] at ho'
  obtain ⟨b, c, rfl, hr2⟩ := own_reads ho' HB.out
  exact ⟨b, c, rfl, hr2, hbw.trans hb'⟩

set_option maxHeartbeats 400000 in
theorem putChunkR (a : Option Addr) (len cap : Nat) (ys : List Int) (w : World) (hr : Reads w a len cap ys) (hm : 10 + len ≤ 140737488355328) :
    Calls Try.prog 43 #[.slice a len cap] w fun e w' => ∃ v', e = .returned v' ∧ w'.ownsRow w.heap.size 5 1 v' (pc ys).length ((pc ys).map (Value.int .u8)) ∧ Below w.heap.size w w' := by
  obtain ⟨i0, hi, hz0, hz1, hz2⟩ := info_parts Try.info5
  have hlen := hr.length
  have hpl := (pv_len (len : Int)).2
  have HP : Hid (pc ys = pv (len : Int) ++ ys) := by show _ = _; rw [pc, hlen]
  have HL := hid hlen
  have HR := hid hr
  clear hr hlen
  go_enter Try.func43, Try.ntmps43
  go_wp2_with fail
  refine (putvR (len : Int) _ (by omega) (by omega)).mono ?_
  rintro e w1 ⟨v1, rfl, ho1, hb1⟩
  have hr1 := reads_kept HR.out hb1
  have hsz := hb1.size
  cases a with
  | none =>
    obtain ⟨rfl, rfl, rfl⟩ := reads_none hr1
    clear hr1
    go_wp2_with (first | (at_builtin; refine wpList_append_own_none rfl _ _ 23 rfl w.heap.size 5 i0 1 Try.underlying23 hi _ _ _ rfl ho1 rfl ?_))
    go_ret
    exact ⟨v1, rfl, by rw [HP.out, List.append_nil]; exact ho1, hb1⟩
  | some x =>
    have hc1 := hid (reads_src hr1)
    clear hr1
    go_wp2_with (first | (at_builtin; refine wpList_append_own _ rfl _ _ 23 rfl w.heap.size 5 i0 (.int .u8 0) 1 1 Try.underlying23 hi hz0 hz1 hz2 rfl (by decide) _ _ _ rfl ho1 x len cap (ys.map (Value.int .u8)) rfl (by rw [List.length_map, HL.out, Nat.mul_one]) hc1.out (one_u8 ys) (by unfold maxLen; omega) (by omega) (by omega) ?_; intro v' w3 hown' hgrow3 hnil3))
    go_ret
    refine ⟨v', rfl, ?_, Below.grown hb1 hgrow3 (by omega) (fun k hk => (ho1.lt k hk).1)⟩
    have h4 := own_cat (m := 0) (xs := []) (ps := pv (len : Int)) (ys := ys) (by simpa using hown') rfl HL.out
    rw [HP.out]
    simpa using h4
end Go.Proofs.Ytgcimeldofbgkaa
