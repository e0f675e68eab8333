/-
  The law's own look: one below 0.
-/
import Derived.Test.YtgcimeldofbgkaaSM
import Derived.Deep.RegionWith
namespace Go.Proofs.Ytgcimeldofbgkaa
open Go.RowKit
set_option maxRecDepth 1000000
set_option maxHeartbeats 2000000

theorem wrote_is {w w' : World} {g : List Int × Int} {e : Ending} {ys : List Int} {er : Int} (h : Wrote w g e w') (hg : g = (ys, er)) : ∃ a c, e = .returned (.tuple #[.slice a ys.length c, .int .i64 er]) ∧ Reads w' a ys.length c ys ∧ Below w.heap.size w w' := by subst hg; exact h
theorem gave_is {w w' : World} {g : GotV} {e : Ending} {n nx er : Int} {ys : List Int} (h : Gave w g e w') (hg : g = ⟨n, ys, nx, er⟩) : ∃ a c, e = .returned (.tuple #[.agg #[.int .u64 n, .slice a ys.length c, .slice none 0 0], .int .i64 nx, .int .i64 er]) ∧ Reads w' a ys.length c ys ∧ Below w.heap.size w w' := by subst hg; exact h
theorem callPut6 (W : World) : Calls Try.prog 19 #[.int .i64 6, .agg #[.int .u64 18446744073709551615, .slice none 0 0, .slice none 0 0]] W fun e w' => ∃ a c, e = .returned (.tuple #[.slice a 1 c, .int .i64 0]) ∧ Reads w' a 1 c [1] ∧ Below W.heap.size W w' :=
  (putKW 6 18446744073709551615 none none 0 0 0 0 W [] (by decide) (by decide) (reads_nil W) (by decide) (by decide)).mono fun _ _ h => wrote_is h (ys := [1]) (er := 0) (by decide)
theorem callGet10 (W : World) : Calls Try.prog 20 #[.int .i64 10, .slice (some ⟨W.heap.size, 0, none⟩) 4 4, .int .i64 0] (W.alloc (.cells #[.int .u8 255, .int .u8 255, .int .u8 255, .int .u8 255] 5)) fun e w' => ∃ a c, e = .returned (.tuple #[.agg #[.int .u64 18446744073709551615, .slice a 0 c, .slice none 0 0], .int .i64 4, .int .i64 0]) ∧ Reads w' a 0 c [] ∧ Below W.heap.size W w' := by
  refine (getKW 10 (some ⟨W.heap.size, 0, none⟩) 4 4 0 [255, 255, 255, 255] _ (reads_new W [255, 255, 255, 255] (by decide) (by decide)) (by decide)).mono ?_
  intro e w' h
  obtain ⟨a, c, h1, h2, h3⟩ := gave_is h (n := 18446744073709551615) (ys := []) (nx := 4) (er := 0) rfl
  exact ⟨a, c, h1, h2, below_trans (below_alloc _) h3⟩
theorem callN (W : World) : Calls Try.prog 27 #[.int .i64 (-1)] W fun e w' => e = .returned (.agg #[.int .u64 18446744073709551615, .slice none 0 0, .slice none 0 0]) ∧ Below W.heap.size W w' := nW (-1) W

theorem cells_past {w w2 : World} {x y z : Value} {o : Obj} (hb : Below ((w.alloc (.cells #[x, y, z] 26)).alloc o).heap.size ((w.alloc (.cells #[x, y, z] 26)).alloc o) w2) : w2.cell? ⟨w.heap.size, 0, none⟩ = some x ∧ w2.cell? ⟨w.heap.size, 1, none⟩ = some y ∧ w2.cell? ⟨w.heap.size, 2, none⟩ = some z :=
  vcells ((below_alloc _).trans (hb.mono (by simp)))
theorem below_drew (w : World) : Below w.heap.size w w.drew := ⟨rfl, rfl, rfl, Nat.le_refl _, fun _ _ => rfl⟩
theorem awake3 (w : World) : Calls Try.prog 9 #[] w fun e w' => e = .returned (.bool true) ∧ Below w.heap.size w w' := by
  have HB : Hid (Below w.heap.size w w) := hid (Below.refl _ _)
  go_enter Try.func9, Try.ntmps9
  go_wp2_with (first | (go_at_call 27; refine (callN _).mono ?_; rintro e w1 ⟨rfl, hb⟩; replace HB := hid (below_trans HB.out hb); clear hb) | (go_at_call 19; refine (callPut6 _).mono ?_; rintro e w2 ⟨pa, pc, rfl, hp, hb⟩; replace HB := hid (below_trans HB.out hb); replace hp := hid hp; clear hb) | (go_at_call 20; refine (callGet10 _).mono ?_; rintro e w3 ⟨va, vc, rfl, hv, hb⟩; replace HB := hid (below_trans HB.out hb); replace hp := hid (reads_kept hp.out hb); replace hv := hid hv; clear hb))
  have H1 := hid (show Reads ((w3.alloc (.cells #[.int .u64 18446744073709551615, .slice va 0 vc, .slice none 0 0] 26)).alloc (.cells #[.int .u8 1] 5)) (some ⟨w3.heap.size + 1, 0, none⟩) 1 1 [1] by simpa using reads_new (w3.alloc (.cells #[.int .u64 18446744073709551615, .slice va 0 vc, .slice none 0 0] 26)) [1] (by decide) (by decide))
  go_region_with (first | (go_at_call 27; refine (callN _).mono ?_; rintro e w5 ⟨rfl, hb⟩; obtain ⟨d0, d1, d2⟩ := cells_past (below_trans (below_drew _) hb); replace HB := hid (below_trans (below_trans HB.out ((below_two _ _).drew)) hb); replace hv := hid (reads_kept (reads_kept hv.out ((below_two _ _).drew)) hb); clear hb) | (go_at_call 22; refine (same3W pa (some ⟨w3.heap.size + 1, 0, none⟩) 1 pc 1 1 [1] [1] _ (by exact reads_kept hp.out ((below_two _ _).drew)) (by exact reads_kept H1.out (below_drew _))).mono ?_; rintro e w4 ⟨rfl, rfl⟩) | (go_at_call 23; refine (toldYes 18446744073709551615 18446744073709551615 va none none none 0 vc 0 0 0 0 [] [] _ 0 hv.out (reads_nil _) (by simp) (by simp)).mono ?_; rintro e w6 ⟨rfl, hb⟩; replace HB := hid (below_trans HB.out hb); clear hb))
  all_goals go_wp2
  all_goals go_ret
  all_goals exact ⟨rfl, HB.out⟩
end Go.Proofs.Ytgcimeldofbgkaa
