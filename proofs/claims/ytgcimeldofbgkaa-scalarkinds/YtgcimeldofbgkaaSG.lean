/-
  Put: the document's walk.
-/
import Derived.Test.YtgcimeldofbgkaaSF
namespace Go.Proofs.Ytgcimeldofbgkaa
open Go.RowKit
set_option maxRecDepth 1000000
set_option maxHeartbeats 8000000

theorem kone_wire {k : Int} (h : kone k = true) : (k = 1 ∧ kwire k = 0) ∨ (k = 2 ∧ kwire k = 0) ∨ (k = 3 ∧ kwire k = 0) ∨ (k = 4 ∧ kwire k = 0) ∨ (k = 5 ∧ kwire k = 0) ∨ (k = 6 ∧ kwire k = 0) ∨ (k = 7 ∧ kwire k = 0) ∨ (k = 8 ∧ kwire k = 5) ∨ (k = 9 ∧ kwire k = 1) ∨ (k = 10 ∧ kwire k = 5) ∨ (k = 11 ∧ kwire k = 1) ∨ (k = 12 ∧ kwire k = 5) ∨ (k = 13 ∧ kwire k = 1) ∨ (k = 14 ∧ kwire k = 2) ∨ (k = 15 ∧ kwire k = 2) ∨ (k = 16 ∧ kwire k = 0) := by
  rcases kone_cases h with rfl | rfl | rfl | rfl | rfl | rfl | rfl | rfl | rfl | rfl | rfl | rfl | rfl | rfl | rfl | rfl
  all_goals decide
section
variable (k n : Int) (a am : Option Addr) (len cap lm cm : Nat) (w : World)
theorem putKR (xs : List Int) (h0 : 0 ≤ n) (h1 : n < 18446744073709551616) (h : Reads w a len cap xs) (hm : lm ≤ 9223372036854775807) (hreach : 10 + len ≤ 140737488355328) : Calls Try.prog 21 #[.int .i64 k, .agg #[.int .u64 n, .slice a len cap, .slice am lm cm]] w fun e w' => Wrote w (putE k n xs lm) e w' := by
  have HF := hid (fun W => fitsR k n a am len cap lm cm W h0 h1 (by have := h.le; have := h.max; omega) hm)
  have HV := hid (fun W (hw : Reads W a len cap xs) => validR a len cap W xs hw (by omega))
  have hlen := h.length
  have HR := hid h
  clear h
  by_cases hk1 : k < 1
  · have hg := hid (putE_err (k := k) (n := n) (xs := xs) (lm := lm) (by rw [flt_k k n lm (by unfold kone; simp; omega)]; decide))
    rw [flt_k k n lm (by unfold kone; simp; omega)] at hg
    go_enter Try.func21, Try.ntmps21
    go_wp2
    go_ret2
    exact wrote_err hg.out (below_alloc _)
  by_cases hk2 : 16 < k
  · have hg := hid (putE_err (k := k) (n := n) (xs := xs) (lm := lm) (by rw [flt_k k n lm (by unfold kone; simp; omega)]; decide))
    rw [flt_k k n lm (by unfold kone; simp; omega)] at hg
    go_enter Try.func21, Try.ntmps21
    go_wp2
    go_ret2
    exact wrote_err hg.out (below_alloc _)
  have hk : kone k = true := by unfold kone; simp; omega
  cases hv : vfit k n len lm with
  | false =>
    have hz := flt_v k n lm (xs := xs) hk (by rw [hlen]; exact hv)
    have hg := hid (putE_err (k := k) (n := n) (xs := xs) (lm := lm) (by rw [hz]; decide))
    rw [hz] at hg
    rw [hv] at HF
    clear hv hz hk
    go_enter Try.func21, Try.ntmps21
    go_wp2_with (go_at_call 15; refine (HF.out _).mono ?_; rintro e w2 ⟨rfl, hb2⟩; replace hb2 := hid hb2)
    go_ret2
    exact wrote_err hg.out (below_trans (below_alloc _) hb2.out)
  | true =>
    rw [hv] at HF
    clear hk1 hk2
    have hs := sgn_bd h0 h1
    have HW := wrap64_sgn n h0 h1
    obtain ⟨Z, HZE⟩ : ∃ Z, Hid (zigF (sgn n) = Z) := ⟨_, rfl⟩
    have HZ : Hid (0 ≤ Z ∧ Z < 18446744073709551616) := hid (by rw [← HZE.out]; exact zig_bd (sgn n) hs.1 hs.2)
    have HZR : Hid (∀ W : World, Calls Try.prog 41 #[.int .i64 (sgn n)] W fun e w' => e = .returned (.int .u64 Z) ∧ W = w') := hid (fun W => by rw [← HZE.out]; exact zigR (sgn n) W hs.1 hs.2)
    by_cases h14 : k = 14 ∧ rn xs < 0
    · obtain ⟨rfl, hr⟩ := h14
      have hz := flt_t n lm (xs := xs) (by rw [hlen]; exact hv) hr
      have hg := hid (putE_err (k := 14) (n := n) (xs := xs) (lm := lm) (by rw [hz]; decide))
      rw [hz] at hg
      have e : decide (0 ≤ rn xs) = false := by simpa using hr
      rw [e] at HV
      clear hv hz hk hr e
      go_enter Try.func21, Try.ntmps21
      go_wp2_with (first | (go_at_call 15; refine (HF.out _).mono ?_; rintro e w2 ⟨rfl, hb2⟩; obtain ⟨c0, c1, c2⟩ := vcells hb2; replace hb2 := hid hb2) | (go_at_call 39; refine (HV.out _ (reads_kept (reads_kept HR.out (below_alloc _)) hb2.out)).mono ?_; rintro e w' ⟨rfl, rfl⟩))
      go_ret2
      exact wrote_err hg.out (below_trans (below_alloc _) hb2.out)
    · have hz := flt_0 k n lm (xs := xs) hk (by rw [hlen]; exact hv) h14
      have hg := hid (putE_ok hz)
      have HV2 : Hid (k = 14 → ∀ W, Reads W a len cap xs → Calls Try.prog 39 #[.slice a len cap] W fun e w' => e = .returned (.bool true) ∧ W = w') := hid (fun hk W hw => (HV.out W hw).mono fun e w' h => ⟨by rw [h.1, show decide (0 ≤ rn xs) = true by simp; omega], h.2⟩)
      clear hz hv HV
      have hk3 := kone_wire hk
      clear hk h14
      have HWR := hid (fun W => wireKR k W)
      rcases hk3 with ⟨rfl, hw⟩ | ⟨rfl, hw⟩ | ⟨rfl, hw⟩ | ⟨rfl, hw⟩ | ⟨rfl, hw⟩ | ⟨rfl, hw⟩ | ⟨rfl, hw⟩ | ⟨rfl, hw⟩ | ⟨rfl, hw⟩ | ⟨rfl, hw⟩ | ⟨rfl, hw⟩ | ⟨rfl, hw⟩ | ⟨rfl, hw⟩ | ⟨rfl, hw⟩ | ⟨rfl, hw⟩ | ⟨rfl, hw⟩
      next =>
        rw [hw] at HWR
        clear hw
        go_enter Try.func21, Try.ntmps21
        go_wp2_with (first | (go_at_call 15; refine (HF.out _).mono ?_; rintro e w2 ⟨rfl, hb2⟩; obtain ⟨c0, c1, c2⟩ := vcells hb2; replace hb2 := hid hb2) | (go_at_call 16; refine (HWR.out _).mono ?_; rintro e w' ⟨rfl, rfl⟩) | (go_at_call 40; refine (putvRr _ _ h0 h1).mono ?_; rintro e w3 ⟨ar, cr, rfl, hr3, hb3⟩; replace hr3 := hid hr3; replace hb3 := hid hb3))
        go_ret2
        exact wrote_ok hg.out hr3.out (below_trans (below_trans (below_alloc _) hb2.out) hb3.out)
      next =>
        rw [hw] at HWR
        clear hw
        go_enter Try.func21, Try.ntmps21
        go_wp2_with (first | (go_at_call 15; refine (HF.out _).mono ?_; rintro e w2 ⟨rfl, hb2⟩; obtain ⟨c0, c1, c2⟩ := vcells hb2; replace hb2 := hid hb2) | (go_at_call 16; refine (HWR.out _).mono ?_; rintro e w' ⟨rfl, rfl⟩) | (go_at_call 40; refine (putvRr _ _ h0 h1).mono ?_; rintro e w3 ⟨ar, cr, rfl, hr3, hb3⟩; replace hr3 := hid hr3; replace hb3 := hid hb3))
        go_ret2
        exact wrote_ok hg.out hr3.out (below_trans (below_trans (below_alloc _) hb2.out) hb3.out)
      next =>
        rw [hw] at HWR
        clear hw
        go_enter Try.func21, Try.ntmps21
        go_wp2_with (first | (go_at_call 15; refine (HF.out _).mono ?_; rintro e w2 ⟨rfl, hb2⟩; obtain ⟨c0, c1, c2⟩ := vcells hb2; replace hb2 := hid hb2) | (go_at_call 16; refine (HWR.out _).mono ?_; rintro e w' ⟨rfl, rfl⟩) | (go_at_call 40; refine (putvRr _ _ h0 h1).mono ?_; rintro e w3 ⟨ar, cr, rfl, hr3, hb3⟩; replace hr3 := hid hr3; replace hb3 := hid hb3))
        go_ret2
        exact wrote_ok hg.out hr3.out (below_trans (below_trans (below_alloc _) hb2.out) hb3.out)
      next =>
        rw [hw] at HWR
        clear hw
        go_enter Try.func21, Try.ntmps21
        go_wp2_with (first | (go_at_call 15; refine (HF.out _).mono ?_; rintro e w2 ⟨rfl, hb2⟩; obtain ⟨c0, c1, c2⟩ := vcells hb2; replace hb2 := hid hb2) | (go_at_call 16; refine (HWR.out _).mono ?_; rintro e w' ⟨rfl, rfl⟩) | (go_at_call 40; refine (putvRr _ _ h0 h1).mono ?_; rintro e w3 ⟨ar, cr, rfl, hr3, hb3⟩; replace hr3 := hid hr3; replace hb3 := hid hb3))
        go_ret2
        exact wrote_ok hg.out hr3.out (below_trans (below_trans (below_alloc _) hb2.out) hb3.out)
      next =>
        rw [hw] at HWR
        clear hw
        go_enter Try.func21, Try.ntmps21
        go_wp2_with (first | (go_at_call 15; refine (HF.out _).mono ?_; rintro e w2 ⟨rfl, hb2⟩; obtain ⟨c0, c1, c2⟩ := vcells hb2; replace hb2 := hid hb2) | (go_at_call 16; refine (HWR.out _).mono ?_; rintro e w' ⟨rfl, rfl⟩) | (go_at_call 40; refine (putvRr _ _ h0 h1).mono ?_; rintro e w3 ⟨ar, cr, rfl, hr3, hb3⟩; replace hr3 := hid hr3; replace hb3 := hid hb3))
        go_ret2
        exact wrote_ok hg.out hr3.out (below_trans (below_trans (below_alloc _) hb2.out) hb3.out)
      next =>
        rw [hw] at HWR
        clear hw
        go_enter Try.func21, Try.ntmps21
        go_wp2_with (first | (go_at_call 15; refine (HF.out _).mono ?_; rintro e w2 ⟨rfl, hb2⟩; obtain ⟨c0, c1, c2⟩ := vcells hb2; replace hb2 := hid hb2) | (go_at_call 16; refine (HWR.out _).mono ?_; rintro e w' ⟨rfl, rfl⟩) | (go_at_call 41; refine (HZR.out _).mono ?_; rintro e w' ⟨rfl, rfl⟩) | (go_at_call 40; refine (putvRr _ _ HZ.out.1 HZ.out.2).mono ?_; rintro e w3 ⟨ar, cr, rfl, hr3, hb3⟩; replace hr3 := hid hr3; replace hb3 := hid hb3))
        go_ret2
        exact wrote_ok (hg.out.trans (by rw [← HZE.out]; rfl)) hr3.out (below_trans (below_trans (below_alloc _) hb2.out) hb3.out)
      next =>
        rw [hw] at HWR
        clear hw
        go_enter Try.func21, Try.ntmps21
        go_wp2_with (first | (go_at_call 15; refine (HF.out _).mono ?_; rintro e w2 ⟨rfl, hb2⟩; obtain ⟨c0, c1, c2⟩ := vcells hb2; replace hb2 := hid hb2) | (go_at_call 16; refine (HWR.out _).mono ?_; rintro e w' ⟨rfl, rfl⟩) | (go_at_call 41; refine (HZR.out _).mono ?_; rintro e w' ⟨rfl, rfl⟩) | (go_at_call 40; refine (putvRr _ _ HZ.out.1 HZ.out.2).mono ?_; rintro e w3 ⟨ar, cr, rfl, hr3, hb3⟩; replace hr3 := hid hr3; replace hb3 := hid hb3))
        go_ret2
        exact wrote_ok (hg.out.trans (by rw [← HZE.out]; rfl)) hr3.out (below_trans (below_trans (below_alloc _) hb2.out) hb3.out)
      next =>
        rw [hw] at HWR
        clear hw
        go_enter Try.func21, Try.ntmps21
        go_wp2_with (first | (go_at_call 15; refine (HF.out _).mono ?_; rintro e w2 ⟨rfl, hb2⟩; obtain ⟨c0, c1, c2⟩ := vcells hb2; replace hb2 := hid hb2) | (go_at_call 16; refine (HWR.out _).mono ?_; rintro e w' ⟨rfl, rfl⟩) | (go_at_call 42; refine (putWordRr n 4 _ (by decide)).mono ?_; rintro e w3 ⟨ar, cr, rfl, hr3, hb3⟩; replace hr3 := hid hr3; replace hb3 := hid hb3))
        go_ret2
        exact wrote_ok hg.out hr3.out (below_trans (below_trans (below_alloc _) hb2.out) hb3.out)
      next =>
        rw [hw] at HWR
        clear hw
        go_enter Try.func21, Try.ntmps21
        go_wp2_with (first | (go_at_call 15; refine (HF.out _).mono ?_; rintro e w2 ⟨rfl, hb2⟩; obtain ⟨c0, c1, c2⟩ := vcells hb2; replace hb2 := hid hb2) | (go_at_call 16; refine (HWR.out _).mono ?_; rintro e w' ⟨rfl, rfl⟩) | (go_at_call 42; refine (putWordRr n 8 _ (by decide)).mono ?_; rintro e w3 ⟨ar, cr, rfl, hr3, hb3⟩; replace hr3 := hid hr3; replace hb3 := hid hb3))
        go_ret2
        exact wrote_ok hg.out hr3.out (below_trans (below_trans (below_alloc _) hb2.out) hb3.out)
      next =>
        rw [hw] at HWR
        clear hw
        go_enter Try.func21, Try.ntmps21
        go_wp2_with (first | (go_at_call 15; refine (HF.out _).mono ?_; rintro e w2 ⟨rfl, hb2⟩; obtain ⟨c0, c1, c2⟩ := vcells hb2; replace hb2 := hid hb2) | (go_at_call 16; refine (HWR.out _).mono ?_; rintro e w' ⟨rfl, rfl⟩) | (go_at_call 42; refine (putWordRr n 4 _ (by decide)).mono ?_; rintro e w3 ⟨ar, cr, rfl, hr3, hb3⟩; replace hr3 := hid hr3; replace hb3 := hid hb3))
        go_ret2
        exact wrote_ok hg.out hr3.out (below_trans (below_trans (below_alloc _) hb2.out) hb3.out)
      next =>
        rw [hw] at HWR
        clear hw
        go_enter Try.func21, Try.ntmps21
        go_wp2_with (first | (go_at_call 15; refine (HF.out _).mono ?_; rintro e w2 ⟨rfl, hb2⟩; obtain ⟨c0, c1, c2⟩ := vcells hb2; replace hb2 := hid hb2) | (go_at_call 16; refine (HWR.out _).mono ?_; rintro e w' ⟨rfl, rfl⟩) | (go_at_call 42; refine (putWordRr n 8 _ (by decide)).mono ?_; rintro e w3 ⟨ar, cr, rfl, hr3, hb3⟩; replace hr3 := hid hr3; replace hb3 := hid hb3))
        go_ret2
        exact wrote_ok hg.out hr3.out (below_trans (below_trans (below_alloc _) hb2.out) hb3.out)
      next =>
        rw [hw] at HWR
        clear hw
        go_enter Try.func21, Try.ntmps21
        go_wp2_with (first | (go_at_call 15; refine (HF.out _).mono ?_; rintro e w2 ⟨rfl, hb2⟩; obtain ⟨c0, c1, c2⟩ := vcells hb2; replace hb2 := hid hb2) | (go_at_call 16; refine (HWR.out _).mono ?_; rintro e w' ⟨rfl, rfl⟩) | (go_at_call 42; refine (putWordRr n 4 _ (by decide)).mono ?_; rintro e w3 ⟨ar, cr, rfl, hr3, hb3⟩; replace hr3 := hid hr3; replace hb3 := hid hb3))
        go_ret2
        exact wrote_ok hg.out hr3.out (below_trans (below_trans (below_alloc _) hb2.out) hb3.out)
      next =>
        rw [hw] at HWR
        clear hw
        go_enter Try.func21, Try.ntmps21
        go_wp2_with (first | (go_at_call 15; refine (HF.out _).mono ?_; rintro e w2 ⟨rfl, hb2⟩; obtain ⟨c0, c1, c2⟩ := vcells hb2; replace hb2 := hid hb2) | (go_at_call 16; refine (HWR.out _).mono ?_; rintro e w' ⟨rfl, rfl⟩) | (go_at_call 42; refine (putWordRr n 8 _ (by decide)).mono ?_; rintro e w3 ⟨ar, cr, rfl, hr3, hb3⟩; replace hr3 := hid hr3; replace hb3 := hid hb3))
        go_ret2
        exact wrote_ok hg.out hr3.out (below_trans (below_trans (below_alloc _) hb2.out) hb3.out)
      next =>
        rw [hw] at HWR
        clear hw
        go_enter Try.func21, Try.ntmps21
        go_wp2_with (first | (go_at_call 15; refine (HF.out _).mono ?_; rintro e w2 ⟨rfl, hb2⟩; obtain ⟨c0, c1, c2⟩ := vcells hb2; replace hb2 := hid hb2) | (go_at_call 16; refine (HWR.out _).mono ?_; rintro e w' ⟨rfl, rfl⟩) | (go_at_call 39; refine (HV2.out (by trivial) _ (reads_kept (reads_kept HR.out (below_alloc _)) hb2.out)).mono ?_; rintro e w' ⟨rfl, rfl⟩) | (go_at_call 43; refine (putChunkRr a len cap xs _ (reads_kept (reads_kept HR.out (below_alloc _)) hb2.out) hreach).mono ?_; rintro e w3 ⟨ar, cr, rfl, hr3, hb3⟩; replace hr3 := hid hr3; replace hb3 := hid hb3))
        go_ret2
        exact wrote_ok hg.out hr3.out (below_trans (below_trans (below_alloc _) hb2.out) hb3.out)
      next =>
        rw [hw] at HWR
        clear hw
        go_enter Try.func21, Try.ntmps21
        go_wp2_with (first | (go_at_call 15; refine (HF.out _).mono ?_; rintro e w2 ⟨rfl, hb2⟩; obtain ⟨c0, c1, c2⟩ := vcells hb2; replace hb2 := hid hb2) | (go_at_call 16; refine (HWR.out _).mono ?_; rintro e w' ⟨rfl, rfl⟩) | (go_at_call 43; refine (putChunkRr a len cap xs _ (reads_kept (reads_kept HR.out (below_alloc _)) hb2.out) hreach).mono ?_; rintro e w3 ⟨ar, cr, rfl, hr3, hb3⟩; replace hr3 := hid hr3; replace hb3 := hid hb3))
        go_ret2
        exact wrote_ok hg.out hr3.out (below_trans (below_trans (below_alloc _) hb2.out) hb3.out)
      next =>
        rw [hw] at HWR
        clear hw
        go_enter Try.func21, Try.ntmps21
        go_wp2_with (first | (go_at_call 15; refine (HF.out _).mono ?_; rintro e w2 ⟨rfl, hb2⟩; obtain ⟨c0, c1, c2⟩ := vcells hb2; replace hb2 := hid hb2) | (go_at_call 16; refine (HWR.out _).mono ?_; rintro e w' ⟨rfl, rfl⟩) | (go_at_call 40; refine (putvRr _ _ h0 h1).mono ?_; rintro e w3 ⟨ar, cr, rfl, hr3, hb3⟩; replace hr3 := hid hr3; replace hb3 := hid hb3))
        go_ret2
        exact wrote_ok hg.out hr3.out (below_trans (below_trans (below_alloc _) hb2.out) hb3.out)
end
end Go.Proofs.Ytgcimeldofbgkaa
