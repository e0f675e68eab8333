/-
  Put: the program's walk and the document's.
  Put: the document's walk.
  Reading numbers: the program's walk.
  Get: the program's walk.
  Get: the program's walk over chunks; Get as a whole.
  Get: the document's walk over numbers.
  Get: the document's walk over chunks; as a whole.
  The law's own small functions: are two values, is an answer this one?
  The law's own look: one below 0.
-/
import Derived.Test.YtcenkalhklpajaaGreatDoorCQK
import Derived.Test.YtcenkalhklpajaaGreatDoorCM3
import Derived.Deep.RegionWith
namespace Go.Proofs.YtcenkalhklpajaaGreatDoor
open Go.RowKit
set_option maxRecDepth 1000000
set_option maxHeartbeats 8000000

/-- What a caller of Put is told. -/
def Wrote (w : World) (g : List Int × Int) (e : Ending) (w' : World) : Prop := ∃ a c, e = .returned (.tuple #[.slice a g.1.length c, .int .i64 g.2]) ∧ Reads w' a g.1.length c g.1 ∧ Below w.heap.size w w'
theorem wrote_err {w w' : World} {g : List Int × Int} {er : Int} (hg : g = ([], er)) (hb : Below w.heap.size w w') : Wrote w g (.returned (.tuple #[.slice none 0 0, .int .i64 er])) w' := by subst hg; exact ⟨none, 0, rfl, reads_nil _, hb⟩
theorem wrote_ok {w w' : World} {g : List Int × Int} {ys : List Int} {a : Option Addr} {c : Nat} (hg : g = (ys, 0)) (hr : Reads w' a ys.length c ys) (hb : Below w.heap.size w w') : Wrote w g (.returned (.tuple #[.slice a ys.length c, .int .i64 0])) w' := by subst hg; exact ⟨a, c, rfl, hr, hb⟩
theorem putE_err {k n : Int} {xs : List Int} {lm : Nat} (h : flt k n xs lm ≠ 0) : putE k n xs lm = ([], flt k n xs lm) := by unfold putE; rw [if_neg h]
theorem putE_ok {k n : Int} {xs : List Int} {lm : Nat} (h : flt k n xs lm = 0) : putE k n xs lm = (putV k n xs, 0) := by unfold putE; rw [if_pos h]
theorem flt_zero {k n : Int} {xs : List Int} {lm : Nat} (h : flt k n xs lm = 0) : kone k = true ∧ vfit k n xs.length lm = true := by
  unfold flt at h
  cases hk : kone k with
  | false => rw [hk, if_pos rfl] at h; cases h
  | true =>
    rw [hk, if_neg (by simp)] at h
    cases hv : vfit k n xs.length lm with
    | false => rw [hv, if_pos rfl] at h; cases h
    | true => exact ⟨rfl, rfl⟩
theorem kone_cases {k : Int} (h : kone k = true) : k = 1 ∨ k = 2 ∨ k = 3 ∨ k = 4 ∨ k = 5 ∨ k = 6 ∨ k = 7 ∨ k = 8 ∨ k = 9 ∨ k = 10 ∨ k = 11 ∨ k = 12 ∨ k = 13 ∨ k = 14 ∨ k = 15 ∨ k = 16 := by
  unfold kone at h; simp at h; omega
theorem sgn_bd {n : Int} (h0 : 0 ≤ n) (h1 : n < 18446744073709551616) : -9223372036854775808 ≤ sgn n ∧ sgn n ≤ 9223372036854775807 := by unfold sgn; split <;> omega

section
variable (k n : Int) (a am : Option Addr) (len cap lm cm : Nat) (w : World)
theorem putKW (xs : List Int) (h0 : 0 ≤ n) (h1 : n < 18446744073709551616) (h : Reads w a len cap xs) (hm : lm ≤ 9223372036854775807) (hreach : 10 + len ≤ 140737488355328) : Calls Tryz.prog 10 #[.int .i64 k, .agg #[.int .u64 n, .slice a len cap, .slice am lm cm]] w fun e w' => Wrote w (putE k n xs lm) e w' := by
  have HF := hid (fun W (hw : Reads W a len cap xs) => faultW k n a am len cap lm cm W xs h0 h1 hw hm)
  have HR := hid h
  clear h
  by_cases hz : flt k n xs lm = 0
  · have hg := hid (putE_ok hz)
    have hk := kone_cases (flt_zero hz).1
    rw [hz] at HF
    clear hz
    have hs := sgn_bd h0 h1
    have HW := wrap64_sgn n h0 h1
    obtain ⟨Z, HZE⟩ : ∃ Z, Hid (zigF (sgn n) = Z) := ⟨_, rfl⟩
    have HZ : Hid (0 ≤ Z ∧ Z < 18446744073709551616) := hid (by rw [← HZE.out]; exact zig_bd (sgn n) hs.1 hs.2)
    have HZR : Hid (∀ W : World, Calls Tryz.prog 27 #[.int .i64 (sgn n)] W fun e w' => e = .returned (.int .u64 Z) ∧ W = w') := hid (fun W => by rw [← HZE.out]; exact zigW (sgn n) W hs.1 hs.2)
    rcases hk with rfl | rfl | rfl | rfl | rfl | rfl | rfl | rfl | rfl | rfl | rfl | rfl | rfl | rfl | rfl | rfl
    all_goals
      go_enter Tryz.func10, Tryz.ntmps10
      go_wp2_with (first | (go_at_call 25; refine (HF.out _ (reads_kept HR.out (below_alloc _))).mono ?_; rintro e w2 ⟨rfl, hb2⟩; obtain ⟨c0, c1, c2⟩ := vcells hb2; replace hb2 := hid hb2) | (go_at_call 27; refine (HZR.out _).mono ?_; rintro e w' ⟨rfl, rfl⟩) | (go_at_call 26; refine (putvWr _ _ h0 h1).mono ?_; rintro e w3 ⟨ar, cr, rfl, hr3, hb3⟩; replace hr3 := hid hr3; replace hb3 := hid hb3) | (go_at_call 26; refine (putvWr _ _ HZ.out.1 HZ.out.2).mono ?_; rintro e w3 ⟨ar, cr, rfl, hr3, hb3⟩; replace hr3 := hid hr3; replace hb3 := hid hb3) | (go_at_call 29; refine (putFix64W _ _ h0 h1).mono ?_; rintro e w3 ⟨ar, cr, rfl, hr3, hb3⟩; replace hr3 := hid hr3; replace hb3 := hid hb3) | (go_at_call 28; refine (putFix32W _ _ (by omega) (by omega)).mono ?_; rintro e w3 ⟨ar, cr, rfl, hr3, hb3⟩; replace hr3 := hid hr3; replace hb3 := hid hb3) | (go_at_call 30; refine (putChunkW a len cap xs _ (reads_kept (reads_kept HR.out (below_alloc _)) hb2.out) hreach).mono ?_; rintro e w3 ⟨ar, cr, rfl, hr3, hb3⟩; replace hr3 := hid hr3; replace hb3 := hid hb3))
      go_ret2
      first
        | exact wrote_ok hg.out hr3.out (below_trans (below_trans (below_alloc _) hb2.out) hb3.out)
        | exact wrote_ok (hg.out.trans (by rw [← HZE.out]; rfl)) hr3.out (below_trans (below_trans (below_alloc _) hb2.out) hb3.out)
        | exact wrote_ok (hg.out.trans (by rw [pw_cut]; rfl)) hr3.out (below_trans (below_trans (below_alloc _) hb2.out) hb3.out)
  · have hg := hid (putE_err hz)
    have hne : (flt k n xs lm != 0) = true := by simpa using hz
    clear hz
    generalize flt k n xs lm = er at HF hg hne
    go_enter Tryz.func10, Tryz.ntmps10
    go_wp2_with (go_at_call 25; refine (HF.out _ (reads_kept HR.out (below_alloc _))).mono ?_; rintro e w2 ⟨rfl, hb2⟩; replace hb2 := hid hb2)
    go_ret2
    exact wrote_err hg.out (below_trans (below_alloc _) hb2.out)
end
end Go.Proofs.YtcenkalhklpajaaGreatDoor
namespace Go.Proofs.YtcenkalhklpajaaGreatDoor
open Go.RowKit
set_option maxRecDepth 1000000
set_option maxHeartbeats 8000000

theorem kone_wire {k : Int} (h : kone k = true) : (k = 1 ∧ kwire k = 0) ∨ (k = 2 ∧ kwire k = 0) ∨ (k = 3 ∧ kwire k = 0) ∨ (k = 4 ∧ kwire k = 0) ∨ (k = 5 ∧ kwire k = 0) ∨ (k = 6 ∧ kwire k = 0) ∨ (k = 7 ∧ kwire k = 0) ∨ (k = 8 ∧ kwire k = 5) ∨ (k = 9 ∧ kwire k = 1) ∨ (k = 10 ∧ kwire k = 5) ∨ (k = 11 ∧ kwire k = 1) ∨ (k = 12 ∧ kwire k = 5) ∨ (k = 13 ∧ kwire k = 1) ∨ (k = 14 ∧ kwire k = 2) ∨ (k = 15 ∧ kwire k = 2) ∨ (k = 16 ∧ kwire k = 0) := by
  rcases kone_cases h with rfl | rfl | rfl | rfl | rfl | rfl | rfl | rfl | rfl | rfl | rfl | rfl | rfl | rfl | rfl | rfl
  all_goals decide
section
variable (k n : Int) (a am : Option Addr) (len cap lm cm : Nat) (w : World)
theorem putKR (xs : List Int) (h0 : 0 ≤ n) (h1 : n < 18446744073709551616) (h : Reads w a len cap xs) (hm : lm ≤ 9223372036854775807) (hreach : 10 + len ≤ 140737488355328) : Calls Tryz.prog 21 #[.int .i64 k, .agg #[.int .u64 n, .slice a len cap, .slice am lm cm]] w fun e w' => Wrote w (putE k n xs lm) e w' := by
  have HF := hid (fun W => fitsR k n a am len cap lm cm W h0 h1 (by have := h.le; have := h.max; omega) hm)
  have HV := hid (fun W (hw : Reads W a len cap xs) => validR a len cap W xs hw (by omega))
  have hlen := h.length
  have HR := hid h
  clear h
  by_cases hk1 : k < 1
  · have hg := hid (putE_err (k := k) (n := n) (xs := xs) (lm := lm) (by rw [flt_k k n lm (by unfold kone; simp; omega)]; decide))
    rw [flt_k k n lm (by unfold kone; simp; omega)] at hg
    go_enter Tryz.func21, Tryz.ntmps21
    go_wp2
    go_ret2
    exact wrote_err hg.out (below_alloc _)
  by_cases hk2 : 16 < k
  · have hg := hid (putE_err (k := k) (n := n) (xs := xs) (lm := lm) (by rw [flt_k k n lm (by unfold kone; simp; omega)]; decide))
    rw [flt_k k n lm (by unfold kone; simp; omega)] at hg
    go_enter Tryz.func21, Tryz.ntmps21
    go_wp2
    go_ret2
    exact wrote_err hg.out (below_alloc _)
  have hk : kone k = true := by unfold kone; simp; omega
  cases hv : vfit k n len lm with
  | false =>
    have hz := flt_v k n lm (xs := xs) hk (by rw [hlen]; exact hv)
    have hg := hid (putE_err (k := k) (n := n) (xs := xs) (lm := lm) (by rw [hz]; decide))
    rw [hz] at hg
    rw [hv] at HF
    clear hv hz hk
    go_enter Tryz.func21, Tryz.ntmps21
    go_wp2_with (go_at_call 47; refine (HF.out _).mono ?_; rintro e w2 ⟨rfl, hb2⟩; replace hb2 := hid hb2)
    go_ret2
    exact wrote_err hg.out (below_trans (below_alloc _) hb2.out)
  | true =>
    rw [hv] at HF
    clear hk1 hk2
    have hs := sgn_bd h0 h1
    have HW := wrap64_sgn n h0 h1
    obtain ⟨Z, HZE⟩ : ∃ Z, Hid (zigF (sgn n) = Z) := ⟨_, rfl⟩
    have HZ : Hid (0 ≤ Z ∧ Z < 18446744073709551616) := hid (by rw [← HZE.out]; exact zig_bd (sgn n) hs.1 hs.2)
    have HZR : Hid (∀ W : World, Calls Tryz.prog 51 #[.int .i64 (sgn n)] W fun e w' => e = .returned (.int .u64 Z) ∧ W = w') := hid (fun W => by rw [← HZE.out]; exact zigR (sgn n) W hs.1 hs.2)
    by_cases h14 : k = 14 ∧ rn xs < 0
    · obtain ⟨rfl, hr⟩ := h14
      have hz := flt_t n lm (xs := xs) (by rw [hlen]; exact hv) hr
      have hg := hid (putE_err (k := 14) (n := n) (xs := xs) (lm := lm) (by rw [hz]; decide))
      rw [hz] at hg
      have e : decide (0 ≤ rn xs) = false := by simpa using hr
      rw [e] at HV
      clear hv hz hk hr e
      go_enter Tryz.func21, Tryz.ntmps21
      go_wp2_with (first | (go_at_call 47; refine (HF.out _).mono ?_; rintro e w2 ⟨rfl, hb2⟩; obtain ⟨c0, c1, c2⟩ := vcells hb2; replace hb2 := hid hb2) | (go_at_call 48; refine (HV.out _ (reads_kept (reads_kept HR.out (below_alloc _)) hb2.out)).mono ?_; rintro e w' ⟨rfl, rfl⟩))
      go_ret2
      exact wrote_err hg.out (below_trans (below_alloc _) hb2.out)
    · have hz := flt_0 k n lm (xs := xs) hk (by rw [hlen]; exact hv) h14
      have hg := hid (putE_ok hz)
      have HV2 : Hid (k = 14 → ∀ W, Reads W a len cap xs → Calls Tryz.prog 48 #[.slice a len cap] W fun e w' => e = .returned (.bool true) ∧ W = w') := hid (fun hk W hw => (HV.out W hw).mono fun e w' h => ⟨by rw [h.1, show decide (0 ≤ rn xs) = true by simp; omega], h.2⟩)
      clear hz hv HV
      have hk3 := kone_wire hk
      clear hk h14
      have HWR := hid (fun W => wireKR k W)
      rcases hk3 with ⟨rfl, hw⟩ | ⟨rfl, hw⟩ | ⟨rfl, hw⟩ | ⟨rfl, hw⟩ | ⟨rfl, hw⟩ | ⟨rfl, hw⟩ | ⟨rfl, hw⟩ | ⟨rfl, hw⟩ | ⟨rfl, hw⟩ | ⟨rfl, hw⟩ | ⟨rfl, hw⟩ | ⟨rfl, hw⟩ | ⟨rfl, hw⟩ | ⟨rfl, hw⟩ | ⟨rfl, hw⟩ | ⟨rfl, hw⟩
      next =>
        rw [hw] at HWR
        clear hw
        go_enter Tryz.func21, Tryz.ntmps21
        go_wp2_with (first | (go_at_call 47; refine (HF.out _).mono ?_; rintro e w2 ⟨rfl, hb2⟩; obtain ⟨c0, c1, c2⟩ := vcells hb2; replace hb2 := hid hb2) | (go_at_call 49; refine (HWR.out _).mono ?_; rintro e w' ⟨rfl, rfl⟩) | (go_at_call 50; refine (putvRr _ _ h0 h1).mono ?_; rintro e w3 ⟨ar, cr, rfl, hr3, hb3⟩; replace hr3 := hid hr3; replace hb3 := hid hb3))
        go_ret2
        exact wrote_ok hg.out hr3.out (below_trans (below_trans (below_alloc _) hb2.out) hb3.out)
      next =>
        rw [hw] at HWR
        clear hw
        go_enter Tryz.func21, Tryz.ntmps21
        go_wp2_with (first | (go_at_call 47; refine (HF.out _).mono ?_; rintro e w2 ⟨rfl, hb2⟩; obtain ⟨c0, c1, c2⟩ := vcells hb2; replace hb2 := hid hb2) | (go_at_call 49; refine (HWR.out _).mono ?_; rintro e w' ⟨rfl, rfl⟩) | (go_at_call 50; refine (putvRr _ _ h0 h1).mono ?_; rintro e w3 ⟨ar, cr, rfl, hr3, hb3⟩; replace hr3 := hid hr3; replace hb3 := hid hb3))
        go_ret2
        exact wrote_ok hg.out hr3.out (below_trans (below_trans (below_alloc _) hb2.out) hb3.out)
      next =>
        rw [hw] at HWR
        clear hw
        go_enter Tryz.func21, Tryz.ntmps21
        go_wp2_with (first | (go_at_call 47; refine (HF.out _).mono ?_; rintro e w2 ⟨rfl, hb2⟩; obtain ⟨c0, c1, c2⟩ := vcells hb2; replace hb2 := hid hb2) | (go_at_call 49; refine (HWR.out _).mono ?_; rintro e w' ⟨rfl, rfl⟩) | (go_at_call 50; refine (putvRr _ _ h0 h1).mono ?_; rintro e w3 ⟨ar, cr, rfl, hr3, hb3⟩; replace hr3 := hid hr3; replace hb3 := hid hb3))
        go_ret2
        exact wrote_ok hg.out hr3.out (below_trans (below_trans (below_alloc _) hb2.out) hb3.out)
      next =>
        rw [hw] at HWR
        clear hw
        go_enter Tryz.func21, Tryz.ntmps21
        go_wp2_with (first | (go_at_call 47; refine (HF.out _).mono ?_; rintro e w2 ⟨rfl, hb2⟩; obtain ⟨c0, c1, c2⟩ := vcells hb2; replace hb2 := hid hb2) | (go_at_call 49; refine (HWR.out _).mono ?_; rintro e w' ⟨rfl, rfl⟩) | (go_at_call 50; refine (putvRr _ _ h0 h1).mono ?_; rintro e w3 ⟨ar, cr, rfl, hr3, hb3⟩; replace hr3 := hid hr3; replace hb3 := hid hb3))
        go_ret2
        exact wrote_ok hg.out hr3.out (below_trans (below_trans (below_alloc _) hb2.out) hb3.out)
      next =>
        rw [hw] at HWR
        clear hw
        go_enter Tryz.func21, Tryz.ntmps21
        go_wp2_with (first | (go_at_call 47; refine (HF.out _).mono ?_; rintro e w2 ⟨rfl, hb2⟩; obtain ⟨c0, c1, c2⟩ := vcells hb2; replace hb2 := hid hb2) | (go_at_call 49; refine (HWR.out _).mono ?_; rintro e w' ⟨rfl, rfl⟩) | (go_at_call 50; refine (putvRr _ _ h0 h1).mono ?_; rintro e w3 ⟨ar, cr, rfl, hr3, hb3⟩; replace hr3 := hid hr3; replace hb3 := hid hb3))
        go_ret2
        exact wrote_ok hg.out hr3.out (below_trans (below_trans (below_alloc _) hb2.out) hb3.out)
      next =>
        rw [hw] at HWR
        clear hw
        go_enter Tryz.func21, Tryz.ntmps21
        go_wp2_with (first | (go_at_call 47; refine (HF.out _).mono ?_; rintro e w2 ⟨rfl, hb2⟩; obtain ⟨c0, c1, c2⟩ := vcells hb2; replace hb2 := hid hb2) | (go_at_call 49; refine (HWR.out _).mono ?_; rintro e w' ⟨rfl, rfl⟩) | (go_at_call 51; refine (HZR.out _).mono ?_; rintro e w' ⟨rfl, rfl⟩) | (go_at_call 50; refine (putvRr _ _ HZ.out.1 HZ.out.2).mono ?_; rintro e w3 ⟨ar, cr, rfl, hr3, hb3⟩; replace hr3 := hid hr3; replace hb3 := hid hb3))
        go_ret2
        exact wrote_ok (hg.out.trans (by rw [← HZE.out]; rfl)) hr3.out (below_trans (below_trans (below_alloc _) hb2.out) hb3.out)
      next =>
        rw [hw] at HWR
        clear hw
        go_enter Tryz.func21, Tryz.ntmps21
        go_wp2_with (first | (go_at_call 47; refine (HF.out _).mono ?_; rintro e w2 ⟨rfl, hb2⟩; obtain ⟨c0, c1, c2⟩ := vcells hb2; replace hb2 := hid hb2) | (go_at_call 49; refine (HWR.out _).mono ?_; rintro e w' ⟨rfl, rfl⟩) | (go_at_call 51; refine (HZR.out _).mono ?_; rintro e w' ⟨rfl, rfl⟩) | (go_at_call 50; refine (putvRr _ _ HZ.out.1 HZ.out.2).mono ?_; rintro e w3 ⟨ar, cr, rfl, hr3, hb3⟩; replace hr3 := hid hr3; replace hb3 := hid hb3))
        go_ret2
        exact wrote_ok (hg.out.trans (by rw [← HZE.out]; rfl)) hr3.out (below_trans (below_trans (below_alloc _) hb2.out) hb3.out)
      next =>
        rw [hw] at HWR
        clear hw
        go_enter Tryz.func21, Tryz.ntmps21
        go_wp2_with (first | (go_at_call 47; refine (HF.out _).mono ?_; rintro e w2 ⟨rfl, hb2⟩; obtain ⟨c0, c1, c2⟩ := vcells hb2; replace hb2 := hid hb2) | (go_at_call 49; refine (HWR.out _).mono ?_; rintro e w' ⟨rfl, rfl⟩) | (go_at_call 52; refine (putWordRr n 4 _ (by decide)).mono ?_; rintro e w3 ⟨ar, cr, rfl, hr3, hb3⟩; replace hr3 := hid hr3; replace hb3 := hid hb3))
        go_ret2
        exact wrote_ok hg.out hr3.out (below_trans (below_trans (below_alloc _) hb2.out) hb3.out)
      next =>
        rw [hw] at HWR
        clear hw
        go_enter Tryz.func21, Tryz.ntmps21
        go_wp2_with (first | (go_at_call 47; refine (HF.out _).mono ?_; rintro e w2 ⟨rfl, hb2⟩; obtain ⟨c0, c1, c2⟩ := vcells hb2; replace hb2 := hid hb2) | (go_at_call 49; refine (HWR.out _).mono ?_; rintro e w' ⟨rfl, rfl⟩) | (go_at_call 52; refine (putWordRr n 8 _ (by decide)).mono ?_; rintro e w3 ⟨ar, cr, rfl, hr3, hb3⟩; replace hr3 := hid hr3; replace hb3 := hid hb3))
        go_ret2
        exact wrote_ok hg.out hr3.out (below_trans (below_trans (below_alloc _) hb2.out) hb3.out)
      next =>
        rw [hw] at HWR
        clear hw
        go_enter Tryz.func21, Tryz.ntmps21
        go_wp2_with (first | (go_at_call 47; refine (HF.out _).mono ?_; rintro e w2 ⟨rfl, hb2⟩; obtain ⟨c0, c1, c2⟩ := vcells hb2; replace hb2 := hid hb2) | (go_at_call 49; refine (HWR.out _).mono ?_; rintro e w' ⟨rfl, rfl⟩) | (go_at_call 52; refine (putWordRr n 4 _ (by decide)).mono ?_; rintro e w3 ⟨ar, cr, rfl, hr3, hb3⟩; replace hr3 := hid hr3; replace hb3 := hid hb3))
        go_ret2
        exact wrote_ok hg.out hr3.out (below_trans (below_trans (below_alloc _) hb2.out) hb3.out)
      next =>
        rw [hw] at HWR
        clear hw
        go_enter Tryz.func21, Tryz.ntmps21
        go_wp2_with (first | (go_at_call 47; refine (HF.out _).mono ?_; rintro e w2 ⟨rfl, hb2⟩; obtain ⟨c0, c1, c2⟩ := vcells hb2; replace hb2 := hid hb2) | (go_at_call 49; refine (HWR.out _).mono ?_; rintro e w' ⟨rfl, rfl⟩) | (go_at_call 52; refine (putWordRr n 8 _ (by decide)).mono ?_; rintro e w3 ⟨ar, cr, rfl, hr3, hb3⟩; replace hr3 := hid hr3; replace hb3 := hid hb3))
        go_ret2
        exact wrote_ok hg.out hr3.out (below_trans (below_trans (below_alloc _) hb2.out) hb3.out)
      next =>
        rw [hw] at HWR
        clear hw
        go_enter Tryz.func21, Tryz.ntmps21
        go_wp2_with (first | (go_at_call 47; refine (HF.out _).mono ?_; rintro e w2 ⟨rfl, hb2⟩; obtain ⟨c0, c1, c2⟩ := vcells hb2; replace hb2 := hid hb2) | (go_at_call 49; refine (HWR.out _).mono ?_; rintro e w' ⟨rfl, rfl⟩) | (go_at_call 52; refine (putWordRr n 4 _ (by decide)).mono ?_; rintro e w3 ⟨ar, cr, rfl, hr3, hb3⟩; replace hr3 := hid hr3; replace hb3 := hid hb3))
        go_ret2
        exact wrote_ok hg.out hr3.out (below_trans (below_trans (below_alloc _) hb2.out) hb3.out)
      next =>
        rw [hw] at HWR
        clear hw
        go_enter Tryz.func21, Tryz.ntmps21
        go_wp2_with (first | (go_at_call 47; refine (HF.out _).mono ?_; rintro e w2 ⟨rfl, hb2⟩; obtain ⟨c0, c1, c2⟩ := vcells hb2; replace hb2 := hid hb2) | (go_at_call 49; refine (HWR.out _).mono ?_; rintro e w' ⟨rfl, rfl⟩) | (go_at_call 52; refine (putWordRr n 8 _ (by decide)).mono ?_; rintro e w3 ⟨ar, cr, rfl, hr3, hb3⟩; replace hr3 := hid hr3; replace hb3 := hid hb3))
        go_ret2
        exact wrote_ok hg.out hr3.out (below_trans (below_trans (below_alloc _) hb2.out) hb3.out)
      next =>
        rw [hw] at HWR
        clear hw
        go_enter Tryz.func21, Tryz.ntmps21
        go_wp2_with (first | (go_at_call 47; refine (HF.out _).mono ?_; rintro e w2 ⟨rfl, hb2⟩; obtain ⟨c0, c1, c2⟩ := vcells hb2; replace hb2 := hid hb2) | (go_at_call 49; refine (HWR.out _).mono ?_; rintro e w' ⟨rfl, rfl⟩) | (go_at_call 48; refine (HV2.out (by trivial) _ (reads_kept (reads_kept HR.out (below_alloc _)) hb2.out)).mono ?_; rintro e w' ⟨rfl, rfl⟩) | (go_at_call 53; refine (putChunkRr a len cap xs _ (reads_kept (reads_kept HR.out (below_alloc _)) hb2.out) hreach).mono ?_; rintro e w3 ⟨ar, cr, rfl, hr3, hb3⟩; replace hr3 := hid hr3; replace hb3 := hid hb3))
        go_ret2
        exact wrote_ok hg.out hr3.out (below_trans (below_trans (below_alloc _) hb2.out) hb3.out)
      next =>
        rw [hw] at HWR
        clear hw
        go_enter Tryz.func21, Tryz.ntmps21
        go_wp2_with (first | (go_at_call 47; refine (HF.out _).mono ?_; rintro e w2 ⟨rfl, hb2⟩; obtain ⟨c0, c1, c2⟩ := vcells hb2; replace hb2 := hid hb2) | (go_at_call 49; refine (HWR.out _).mono ?_; rintro e w' ⟨rfl, rfl⟩) | (go_at_call 53; refine (putChunkRr a len cap xs _ (reads_kept (reads_kept HR.out (below_alloc _)) hb2.out) hreach).mono ?_; rintro e w3 ⟨ar, cr, rfl, hr3, hb3⟩; replace hr3 := hid hr3; replace hb3 := hid hb3))
        go_ret2
        exact wrote_ok hg.out hr3.out (below_trans (below_trans (below_alloc _) hb2.out) hb3.out)
      next =>
        rw [hw] at HWR
        clear hw
        go_enter Tryz.func21, Tryz.ntmps21
        go_wp2_with (first | (go_at_call 47; refine (HF.out _).mono ?_; rintro e w2 ⟨rfl, hb2⟩; obtain ⟨c0, c1, c2⟩ := vcells hb2; replace hb2 := hid hb2) | (go_at_call 49; refine (HWR.out _).mono ?_; rintro e w' ⟨rfl, rfl⟩) | (go_at_call 50; refine (putvRr _ _ h0 h1).mono ?_; rintro e w3 ⟨ar, cr, rfl, hr3, hb3⟩; replace hr3 := hid hr3; replace hb3 := hid hb3))
        go_ret2
        exact wrote_ok hg.out hr3.out (below_trans (below_trans (below_alloc _) hb2.out) hb3.out)
end
end Go.Proofs.YtcenkalhklpajaaGreatDoor
namespace Go.Proofs.YtcenkalhklpajaaGreatDoor
open Go.RowKit
set_option maxRecDepth 1000000
set_option maxHeartbeats 2000000

theorem ret_uii {a b c d e f : Int} (h1 : a = d) (h2 : b = e) (h3 : c = f) : Ending.returned (.tuple #[.int .u64 a, .int .i64 b, .int .i64 c]) = .returned (.tuple #[.int .u64 d, .int .i64 e, .int .i64 f]) := by rw [h1, h2, h3]
theorem zag_bd {u : Int} (h0 : 0 ≤ u) (h1 : u < 18446744073709551616) : -9223372036854775808 ≤ zagF u ∧ zagF u ≤ 9223372036854775807 := by unfold zagF; split <;> omega

theorem getNumW (k : Int) (a : Option Addr) (len cap p : Nat) (xs : List Int) (w : World) (h : Reads w a len cap xs) (hp : p ≤ len) (hk : nfit k 0 = true) :
    Calls Tryz.prog 62 #[.int .i64 k, .slice a len cap, .int .i64 p] w fun e w' => e = .returned (.tuple #[.int .u64 (getN k xs p).1, .int .i64 (getN k xs p).2.1, .int .i64 (getN k xs p).2.2]) ∧ w = w' := by
  have hk2 : k = 1 ∨ k = 2 ∨ k = 3 ∨ k = 4 ∨ k = 5 ∨ k = 6 ∨ k = 7 ∨ k = 8 ∨ k = 9 ∨ k = 10 ∨ k = 11 ∨ k = 12 ∨ k = 13 ∨ k = 16 := by
    unfold nfit at hk
    have : knum k = true := by cases hn : knum k with | true => rfl | false => rw [hn] at hk; cases hk
    unfold knum at this
    simp at this
    omega
  clear hk
  have hvb := gv_bd (bd_mem h.bd) p
  have hwb := gw_bd (bd_mem h.bd) p
  have HV := hid (getvW a len cap p xs w h hp)
  have H4 := hid (getFix32W a len cap p xs w h hp)
  have H8 := hid (getFix64W a len cap p xs w h hp)
  have HG : Hid (∀ k, Ending.returned (.tuple #[.int .u64 (getN k xs p).1, .int .i64 (getN k xs p).2.1, .int .i64 (getN k xs p).2.2]) = Ending.returned (.tuple #[.int .u64 (if k = 6 ∨ k = 7 then (uns (zagF (gv xs p).1), (gv xs p).2.1, (gv xs p).2.2) else if k = 10 then (wid (gw xs p 4).1, (gw xs p 4).2.1, (gw xs p 4).2.2) else if k = 8 ∨ k = 12 then gw xs p 4 else if k = 9 ∨ k = 11 ∨ k = 13 then gw xs p 8 else gv xs p).1, .int .i64 (if k = 6 ∨ k = 7 then (uns (zagF (gv xs p).1), (gv xs p).2.1, (gv xs p).2.2) else if k = 10 then (wid (gw xs p 4).1, (gw xs p 4).2.1, (gw xs p 4).2.2) else if k = 8 ∨ k = 12 then gw xs p 4 else if k = 9 ∨ k = 11 ∨ k = 13 then gw xs p 8 else gv xs p).2.1, .int .i64 (if k = 6 ∨ k = 7 then (uns (zagF (gv xs p).1), (gv xs p).2.1, (gv xs p).2.2) else if k = 10 then (wid (gw xs p 4).1, (gw xs p 4).2.1, (gw xs p 4).2.2) else if k = 8 ∨ k = 12 then gw xs p 4 else if k = 9 ∨ k = 11 ∨ k = 13 then gw xs p 8 else gv xs p).2.2])) := hid (fun k => rfl)
  generalize gv xs p = g at *
  generalize gw xs p 4 = g4 at *
  generalize gw xs p 8 = g8 at *
  obtain ⟨g0, g1, g2⟩ := g
  obtain ⟨q0, q1, q2⟩ := g4
  obtain ⟨r0, r1, r2⟩ := g8
  have hz := zag_bd hvb.1 hvb.2
  rcases hk2 with rfl | rfl | rfl | rfl | rfl | rfl | rfl | rfl | rfl | rfl | rfl | rfl | rfl | rfl
  next =>
    go_enter Tryz.func62, Tryz.ntmps62
    go_wp2_with (go_at_call 86; refine HV.out.mono ?_; rintro e w' ⟨rfl, rfl⟩)
    go_ret3
    exact ⟨(HG.out 1).symm, rfl⟩
  next =>
    go_enter Tryz.func62, Tryz.ntmps62
    go_wp2_with (go_at_call 86; refine HV.out.mono ?_; rintro e w' ⟨rfl, rfl⟩)
    go_ret3
    exact ⟨(HG.out 2).symm, rfl⟩
  next =>
    go_enter Tryz.func62, Tryz.ntmps62
    go_wp2_with (go_at_call 86; refine HV.out.mono ?_; rintro e w' ⟨rfl, rfl⟩)
    go_ret3
    exact ⟨(HG.out 3).symm, rfl⟩
  next =>
    go_enter Tryz.func62, Tryz.ntmps62
    go_wp2_with (go_at_call 86; refine HV.out.mono ?_; rintro e w' ⟨rfl, rfl⟩)
    go_ret3
    exact ⟨(HG.out 4).symm, rfl⟩
  next =>
    go_enter Tryz.func62, Tryz.ntmps62
    go_wp2_with (go_at_call 86; refine HV.out.mono ?_; rintro e w' ⟨rfl, rfl⟩)
    go_ret3
    exact ⟨(HG.out 5).symm, rfl⟩
  next =>
    go_enter Tryz.func62, Tryz.ntmps62
    go_wp2_with (first | (go_at_call 86; refine HV.out.mono ?_; rintro e w' ⟨rfl, rfl⟩) | (go_at_call 87; refine (zagW _ _ hvb.1 hvb.2).mono ?_; rintro e w' ⟨rfl, rfl⟩))
    go_ret3
    exact ⟨(ret_uii (by rw [IntKind.wrap_u64]; rfl) rfl rfl).trans (HG.out 6).symm, rfl⟩
  next =>
    go_enter Tryz.func62, Tryz.ntmps62
    go_wp2_with (first | (go_at_call 86; refine HV.out.mono ?_; rintro e w' ⟨rfl, rfl⟩) | (go_at_call 87; refine (zagW _ _ hvb.1 hvb.2).mono ?_; rintro e w' ⟨rfl, rfl⟩))
    go_ret3
    exact ⟨(ret_uii (by rw [IntKind.wrap_u64]; rfl) rfl rfl).trans (HG.out 7).symm, rfl⟩
  next =>
    go_enter Tryz.func62, Tryz.ntmps62
    go_wp2_with (go_at_call 88; refine H4.out.mono ?_; rintro e w' ⟨rfl, rfl⟩)
    go_ret3
    exact ⟨(HG.out 8).symm, rfl⟩
  next =>
    go_enter Tryz.func62, Tryz.ntmps62
    go_wp2_with (go_at_call 90; refine H8.out.mono ?_; rintro e w' ⟨rfl, rfl⟩)
    go_ret3
    exact ⟨(HG.out 9).symm, rfl⟩
  next =>
    go_enter Tryz.func62, Tryz.ntmps62
    go_wp2_with (first | (go_at_call 88; refine H4.out.mono ?_; rintro e w' ⟨rfl, rfl⟩) | (go_at_call 89; refine (widenedW _ _ hwb.1 hwb.2).mono ?_; rintro e w' ⟨rfl, rfl⟩))
    go_ret3
    exact ⟨(HG.out 10).symm, rfl⟩
  next =>
    go_enter Tryz.func62, Tryz.ntmps62
    go_wp2_with (go_at_call 90; refine H8.out.mono ?_; rintro e w' ⟨rfl, rfl⟩)
    go_ret3
    exact ⟨(HG.out 11).symm, rfl⟩
  next =>
    go_enter Tryz.func62, Tryz.ntmps62
    go_wp2_with (go_at_call 88; refine H4.out.mono ?_; rintro e w' ⟨rfl, rfl⟩)
    go_ret3
    exact ⟨(HG.out 12).symm, rfl⟩
  next =>
    go_enter Tryz.func62, Tryz.ntmps62
    go_wp2_with (go_at_call 90; refine H8.out.mono ?_; rintro e w' ⟨rfl, rfl⟩)
    go_ret3
    exact ⟨(HG.out 13).symm, rfl⟩
  next =>
    go_enter Tryz.func62, Tryz.ntmps62
    go_wp2_with (go_at_call 86; refine HV.out.mono ?_; rintro e w' ⟨rfl, rfl⟩)
    go_ret3
    exact ⟨(HG.out 16).symm, rfl⟩

theorem getNumOut (k : Int) (a : Option Addr) (len cap : Nat) (p : Int) (w : World) (hl : len ≤ 9223372036854775807) (hp : p < 0 ∨ (len : Int) < p) (hk : nfit k 0 = true) :
    Calls Tryz.prog 62 #[.int .i64 k, .slice a len cap, .int .i64 p] w fun e w' => e = .returned (.tuple #[.int .u64 0, .int .i64 0, .int .i64 18]) ∧ w = w' := by
  have hk2 : k = 1 ∨ k = 2 ∨ k = 3 ∨ k = 4 ∨ k = 5 ∨ k = 6 ∨ k = 7 ∨ k = 8 ∨ k = 9 ∨ k = 10 ∨ k = 11 ∨ k = 12 ∨ k = 13 ∨ k = 16 := by
    unfold nfit at hk
    have : knum k = true := by cases hn : knum k with | true => rfl | false => rw [hn] at hk; cases hk
    unfold knum at this
    simp at this
    omega
  clear hk
  have HV := hid (getvOut a len cap p w hl hp)
  have H4 := hid (getFix32Out a len cap p w hl hp)
  have H8 := hid (getFix64Out a len cap p w hl hp)
  have HZ : Hid (∀ W : World, Calls Tryz.prog 87 #[.int .u64 0] W fun e w' => e = .returned (.int .i64 0) ∧ W = w') := hid (fun W => zagW 0 W (by decide) (by decide))
  have HW : Hid (∀ W : World, Calls Tryz.prog 89 #[.int .u32 0] W fun e w' => e = .returned (.int .u64 0) ∧ W = w') := hid (fun W => widenedW 0 W (by decide) (by decide))
  clear hp
  rcases hk2 with rfl | rfl | rfl | rfl | rfl | rfl | rfl | rfl | rfl | rfl | rfl | rfl | rfl | rfl
  all_goals
    go_enter Tryz.func62, Tryz.ntmps62
    go_wp2_with (first | (go_at_call 86; refine HV.out.mono ?_; rintro e w' ⟨rfl, rfl⟩) | (go_at_call 87; refine (HZ.out _).mono ?_; rintro e w' ⟨rfl, rfl⟩) | (go_at_call 88; refine H4.out.mono ?_; rintro e w' ⟨rfl, rfl⟩) | (go_at_call 90; refine H8.out.mono ?_; rintro e w' ⟨rfl, rfl⟩) | (go_at_call 89; refine (HW.out _).mono ?_; rintro e w' ⟨rfl, rfl⟩))
    go_ret3
    exact ⟨rfl, rfl⟩
end Go.Proofs.YtcenkalhklpajaaGreatDoor
namespace Go.Proofs.YtcenkalhklpajaaGreatDoor
open Go.RowKit
set_option maxRecDepth 1000000
set_option maxHeartbeats 2000000

/-- What a caller of Get is told. -/
def Gave (w : World) (g : GotV) (e : Ending) (w' : World) : Prop := ∃ a c, e = .returned (.tuple #[.agg #[.int .u64 g.n, .slice a g.b.length c, .slice none 0 0], .int .i64 g.next, .int .i64 g.err]) ∧ Reads w' a g.b.length c g.b ∧ Below w.heap.size w w'
theorem gave_err {w w' : World} {g : GotV} {er : Int} (hg : g = .none er) (hb : Below w.heap.size w w') : Gave w g (.returned (.tuple #[.agg #[.int .u64 0, .slice none 0 0, .slice none 0 0], .int .i64 0, .int .i64 er])) w' := by subst hg; exact ⟨none, 0, rfl, reads_nil _, hb⟩
theorem gave_num {w w' : World} {g : GotV} {N nx : Int} (hg : g = ⟨N, [], nx, 0⟩) (hb : Below w.heap.size w w') : Gave w g (.returned (.tuple #[.agg #[.int .u64 N, .slice none 0 0, .slice none 0 0], .int .i64 nx, .int .i64 0])) w' := by subst hg; exact ⟨none, 0, rfl, reads_nil _, hb⟩
theorem gave_row {w w' : World} {g : GotV} {ys : List Int} {nx : Int} {a : Option Addr} {c : Nat} (hg : g = ⟨0, ys, nx, 0⟩) (hr : Reads w' a ys.length c ys) (hb : Below w.heap.size w w') : Gave w g (.returned (.tuple #[.agg #[.int .u64 0, .slice a ys.length c, .slice none 0 0], .int .i64 nx, .int .i64 0])) w' := by subst hg; exact ⟨a, c, rfl, hr, hb⟩

theorem own_reads' {w : World} {base n c : Nat} {a : Option Addr} {xs : List Int} (h : w.ownsRow base 5 1 (.slice a n c) n (xs.map (Value.int .u8))) (hb : ∀ x ∈ xs, 0 ≤ x ∧ x ≤ 255) : Reads w a n c xs := by
  obtain ⟨a', c', e, hr⟩ := own_reads h hb
  cases e
  exact hr
/-- Three stores into the value's own block. -/
def set3 (w : World) (b : Nat) (x y z : Value) : World := ((w.setCell ⟨b, 0, none⟩ x).setCell ⟨b, 1, none⟩ y).setCell ⟨b, 2, none⟩ z
theorem below_set3 {w w2 : World} {b : Nat} (h : Below b w w2) (x y z : Value) : Below b w (set3 w2 b x y z) := ((h.setCell (p := ⟨b, 0, none⟩) (Nat.le_refl _) x).setCell (p := ⟨b, 1, none⟩) (Nat.le_refl _) y).setCell (p := ⟨b, 2, none⟩) (Nat.le_refl _) z
theorem own_set3 {w : World} {b base n : Nat} {v : Value} {xs : List Value} (h : w.ownsRow base 5 1 v n xs) (hb : b < base) (x y z : Value) : (set3 w b x y z).ownsRow base 5 1 v n xs :=
  ownsRow_setCell_below (ownsRow_setCell_below (ownsRow_setCell_below h (a := ⟨b, 0, none⟩) hb x) (a := ⟨b, 1, none⟩) hb y) (a := ⟨b, 2, none⟩) hb z
theorem froz {w w2 : World} {x y z : Value} (hb : Below (w.alloc (.cells #[x, y, z] 33)).heap.size (w.alloc (.cells #[x, y, z] 33)) w2) : ∀ o, w2.frozen? ⟨w.heap.size, o, none⟩ = false := fun o => by rw [hb.frozen (p := ⟨w.heap.size, o, none⟩) (by simp), World.frozen?_alloc_at _ _ _ _ rfl]
theorem grew {w w2 : World} {x y z : Value} (hb : Below (w.alloc (.cells #[x, y, z] 33)).heap.size (w.alloc (.cells #[x, y, z] 33)) w2) : w.heap.size < w2.heap.size := by have := hb.size; simp at this; omega

theorem getKindNo (k : Int) (a : Option Addr) (len cap : Nat) (p : Int) (w : World) (hk : kone k = false) :
    Calls Tryz.prog 24 #[.int .i64 k, .slice a len cap, .int .i64 p] w fun e w' => Gave w (.none 18) e w' := by
  have HS := hid (fun W => singleW k W)
  rw [hk] at HS
  clear hk
  go_enter Tryz.func24, Tryz.ntmps24
  go_wp2_with (go_at_call 37; refine (HS.out _).mono ?_; rintro e w' ⟨rfl, rfl⟩)
  exact bodyPost_ret (v := .tuple #[.agg #[.int .u64 0, .slice none 0 0, .slice none 0 0], .int .i64 0, .int .i64 18]) (by simp [results, Tryz.results24, go_sem]) rfl (gave_err rfl (below_alloc _))

section
variable (k N nx er : Int) (a : Option Addr) (len cap : Nat) (p : Int) (w : World)
theorem getNumErr (hk : kone k = true) (h14 : (k == 14) = false) (h15 : (k == 15) = false) (her : (er == 0) = false)
    (HG : ∀ W : World, Below w.heap.size w W → Calls Tryz.prog 62 #[.int .i64 k, .slice a len cap, .int .i64 p] W fun e w' => e = .returned (.tuple #[.int .u64 N, .int .i64 nx, .int .i64 er]) ∧ W = w') :
    Calls Tryz.prog 24 #[.int .i64 k, .slice a len cap, .int .i64 p] w fun e w' => Gave w (.none er) e w' := by
  have HS := hid (fun W => singleW k W)
  rw [hk] at HS
  have HN := hid HG
  have hne : (er != 0) = true := by unfold bne; rw [her]; rfl
  clear hk HG
  go_enter Tryz.func24, Tryz.ntmps24
  go_wp2_with (first | (go_at_call 37; refine (HS.out _).mono ?_; rintro e w' ⟨rfl, rfl⟩) | (go_at_call 62; refine (HN.out _ (below_alloc _)).mono ?_; rintro e w' ⟨rfl, rfl⟩))
  exact bodyPost_ret (v := .tuple #[.agg #[.int .u64 0, .slice none 0 0, .slice none 0 0], .int .i64 0, .int .i64 er]) (by simp [results, Tryz.results24, go_sem]) rfl (gave_err rfl (below_alloc _))

theorem getNumOk (hk : kone k = true) (h14 : (k == 14) = false) (h15 : (k == 15) = false) (hN0 : 0 ≤ N) (hN1 : N < 18446744073709551616)
    (HG : ∀ W : World, Below w.heap.size w W → Calls Tryz.prog 62 #[.int .i64 k, .slice a len cap, .int .i64 p] W fun e w' => e = .returned (.tuple #[.int .u64 N, .int .i64 nx, .int .i64 0]) ∧ W = w') :
    Calls Tryz.prog 24 #[.int .i64 k, .slice a len cap, .int .i64 p] w fun e w' => Gave w (if khold k N = true then ⟨N, [], nx, 0⟩ else .none 7) e w' := by
  have HS := hid (fun W => singleW k W)
  rw [hk] at HS
  have HN := hid HG
  have h14' : k ≠ 14 := by simpa using h14
  have h15' : k ≠ 15 := by simpa using h15
  have HF := hid (fun W : World => faultW k N none none 0 0 0 0 W [] hN0 hN1 (reads_nil W) (by omega))
  have hkb : 1 ≤ k ∧ k ≤ 16 := by unfold kone at hk; simpa using hk
  have hvf : vfit k N ([] : List Int).length 0 = khold k N := by rw [show ([] : List Int).length = 0 from rfl, vfit_n h14' h15', nfit_h hkb.1 hkb.2 h14' h15']
  cases hh : khold k N with
  | false =>
    rw [hh] at hvf
    rw [flt_v k N 0 (xs := []) hk hvf] at HF
    clear hk HG h14' h15' hkb hvf hh
    go_enter Tryz.func24, Tryz.ntmps24
    go_wp2_with (first | (go_at_call 37; refine (HS.out _).mono ?_; rintro e w' ⟨rfl, rfl⟩) | (go_at_call 62; refine (HN.out _ (below_alloc _)).mono ?_; rintro e w' ⟨rfl, rfl⟩) | (go_at_call 25; refine (HF.out _).mono ?_; rintro e w2 ⟨rfl, hb2⟩; obtain ⟨d0, d1, d2⟩ := vcells hb2; have hfz := froz hb2; have hgr := grew hb2; replace hb2 := hid hb2))
    exact bodyPost_ret (v := .tuple #[.agg #[.int .u64 0, .slice none 0 0, .slice none 0 0], .int .i64 0, .int .i64 7]) (by simp [results, Tryz.results24, go_sem, d0, d1, d2]) rfl (gave_err rfl (below_set3 (below_trans (below_alloc _) hb2.out) _ _ _))
  | true =>
    rw [hh] at hvf
    rw [flt_0 k N 0 (xs := []) hk hvf (by omega)] at HF
    clear hk HG h14' h15' hkb hvf hh
    go_enter Tryz.func24, Tryz.ntmps24
    go_wp2_with (first | (go_at_call 37; refine (HS.out _).mono ?_; rintro e w' ⟨rfl, rfl⟩) | (go_at_call 62; refine (HN.out _ (below_alloc _)).mono ?_; rintro e w' ⟨rfl, rfl⟩) | (go_at_call 25; refine (HF.out _).mono ?_; rintro e w2 ⟨rfl, hb2⟩; obtain ⟨d0, d1, d2⟩ := vcells hb2; have hfz := froz hb2; have hgr := grew hb2; replace hb2 := hid hb2))
    exact bodyPost_ret (v := .tuple #[.agg #[.int .u64 N, .slice none 0 0, .slice none 0 0], .int .i64 nx, .int .i64 0]) (by simp [results, Tryz.results24, go_sem, d0, d1, d2]) rfl (gave_num rfl (below_set3 (below_trans (below_alloc _) hb2.out) _ _ _))
end
end Go.Proofs.YtcenkalhklpajaaGreatDoor
namespace Go.Proofs.YtcenkalhklpajaaGreatDoor
open Go.RowKit
set_option maxRecDepth 1000000
set_option maxHeartbeats 2000000

/-- The value's own cells behind a store of its bytes. -/
theorem vcells1 {w w2 w3 : World} {x y z v : Value} (hb2 : Below (w.alloc (.cells #[x, y, z] 33)).heap.size (w.alloc (.cells #[x, y, z] 33)) w2) (hb3 : Below (w2.setCell ⟨w.heap.size, 1, none⟩ v).heap.size (w2.setCell ⟨w.heap.size, 1, none⟩ v) w3) :
    w3.cell? ⟨w.heap.size, 0, none⟩ = some x ∧ w3.cell? ⟨w.heap.size, 1, none⟩ = some v ∧ w3.cell? ⟨w.heap.size, 2, none⟩ = some z ∧ (∀ o, w3.frozen? ⟨w.heap.size, o, none⟩ = false) ∧ w.heap.size < w3.heap.size ∧ Below w.heap.size w w3 := by
  obtain ⟨d0, d1, d2⟩ := vcells hb2
  have hs : w.heap.size < w2.heap.size := grew hb2
  have hs2 : (w2.setCell ⟨w.heap.size, 1, none⟩ v).heap.size = w2.heap.size := by simp
  have hlt : w.heap.size < (w2.setCell ⟨w.heap.size, 1, none⟩ v).heap.size := by omega
  have hc : ∀ o, w3.cell? ⟨w.heap.size, o, none⟩ = (w2.setCell ⟨w.heap.size, 1, none⟩ v).cell? ⟨w.heap.size, o, none⟩ := fun o => hb3.cell (p := ⟨w.heap.size, o, none⟩) hlt
  refine ⟨?_, ?_, ?_, ?_, ?_, ?_⟩
  · rw [hc]; simp [go_sem, d0]
  · rw [hc]; simp [go_sem, d1]
  · rw [hc]; simp [go_sem, d2]
  · intro o
    rw [hb3.frozen (p := ⟨w.heap.size, o, none⟩) hlt]
    simp [go_sem, froz hb2 o]
  · have := hb3.size; omega
  · exact (((below_alloc (w := w) _).trans (hb2.mono (by simp))).setCell (p := ⟨w.heap.size, 1, none⟩) (Nat.le_refl _) v).trans (hb3.mono (by omega))
section
variable (k nx er : Int) (a : Option Addr) (len cap : Nat) (p : Int) (w : World) (ys : List Int)
theorem getRowErr (hk : k = 14 ∨ k = 15) (her : (er == 0) = false)
    (HG : ∀ W : World, Below w.heap.size w W → Calls Tryz.prog 61 #[.slice a len cap, .int .i64 p] W fun e w' => ∃ v, e = .returned (.tuple #[v, .int .i64 nx, .int .i64 er]) ∧ w'.ownsRow W.heap.size 5 1 v ys.length (ys.map (Value.int .u8)) ∧ Below W.heap.size W w') :
    Calls Tryz.prog 24 #[.int .i64 k, .slice a len cap, .int .i64 p] w fun e w' => Gave w (.none er) e w' := by
  have HS := hid (fun W => singleW k W)
  have HN := hid HG
  have hne : (er != 0) = true := by unfold bne; rw [her]; rfl
  clear HG
  rcases hk with rfl | rfl
  all_goals
    rw [show kone _ = true from rfl] at HS
    go_enter Tryz.func24, Tryz.ntmps24
    go_wp2_with (first | (go_at_call 37; refine (HS.out _).mono ?_; rintro e w' ⟨rfl, rfl⟩) | (go_at_call 61; refine (HN.out _ (below_alloc _)).mono ?_; rintro e w2 ⟨v, rfl, ho, hb2⟩; obtain ⟨b2, c2, rfl⟩ := own_shape ho; obtain ⟨d0, d1, d2⟩ := vcells hb2; have hfz := froz hb2; have hgr := grew hb2; replace hb2 := hid hb2; replace ho := hid ho))
    have hbel := below_set3 ((below_trans (below_alloc _) hb2.out).setCell (p := ⟨w.heap.size, 1, none⟩) (Nat.le_refl _) (.slice b2 ys.length c2)) (.int .u64 0) (.slice none 0 0) (.slice none 0 0)
    exact bodyPost_ret (v := .tuple #[.agg #[.int .u64 0, .slice none 0 0, .slice none 0 0], .int .i64 0, .int .i64 er]) (by simp [results, Tryz.results24, go_sem, d0, d1, d2]) rfl (gave_err rfl hbel)

theorem getRowOk (hk : k = 14 ∨ k = 15) (hys : ∀ x ∈ ys, 0 ≤ x ∧ x ≤ 255)
    (HG : ∀ W : World, Below w.heap.size w W → Calls Tryz.prog 61 #[.slice a len cap, .int .i64 p] W fun e w' => ∃ v, e = .returned (.tuple #[v, .int .i64 nx, .int .i64 0]) ∧ w'.ownsRow W.heap.size 5 1 v ys.length (ys.map (Value.int .u8)) ∧ Below W.heap.size W w') :
    Calls Tryz.prog 24 #[.int .i64 k, .slice a len cap, .int .i64 p] w fun e w' => Gave w (if k = 14 ∧ rn ys < 0 then .none 8 else ⟨0, ys, nx, 0⟩) e w' := by
  have HS := hid (fun W => singleW k W)
  have HN := hid HG
  clear HG
  have HF := hid (fun (b2 : Option Addr) (c2 : Nat) (W : World) (hr : Reads W b2 ys.length c2 ys) => faultW k 0 b2 none ys.length c2 0 0 W ys (by omega) (by omega) hr (by omega))
  by_cases hbad : k = 14 ∧ rn ys < 0
  · rw [if_pos hbad]
    obtain ⟨rfl, hr⟩ := hbad
    rw [flt_t 0 0 (xs := ys) (by rw [vfit_14]; rfl) hr] at HF
    clear hk hr
    rw [show kone _ = true from rfl] at HS
    go_enter Tryz.func24, Tryz.ntmps24
    go_wp2_with (first | (go_at_call 37; refine (HS.out _).mono ?_; rintro e w' ⟨rfl, rfl⟩) | (go_at_call 61; refine (HN.out _ (below_alloc _)).mono ?_; rintro e w2 ⟨v, rfl, ho, hb2⟩; obtain ⟨b2, c2, rfl⟩ := own_shape ho; obtain ⟨d0, d1, d2⟩ := vcells hb2; have hfz := froz hb2; have hgr := grew hb2; replace hb2 := hid hb2; replace ho := hid ho) | (go_at_call 25; refine (HF.out b2 c2 _ (own_reads' (ownsRow_setCell_below ho.out (a := ⟨w.heap.size, 1, none⟩) (by simp) _) hys)).mono ?_; rintro e w3 ⟨rfl, hb3⟩; obtain ⟨f0, f1, f2, ffz, fgr, fbel⟩ := vcells1 hb2.out hb3; clear d0 d1 d2 hfz hgr; replace hb3 := hid hb3; replace fbel := hid fbel))
    exact bodyPost_ret (v := .tuple #[.agg #[.int .u64 0, .slice none 0 0, .slice none 0 0], .int .i64 0, .int .i64 8]) (by simp [results, Tryz.results24, go_sem, f0, f1, f2]) rfl (gave_err rfl (below_set3 fbel.out _ _ _))
  · rw [if_neg hbad]
    have hv : vfit k 0 ys.length 0 = true := by rcases hk with rfl | rfl <;> simp [vfit]
    have hk1 : kone k = true := by rcases hk with rfl | rfl <;> rfl
    rw [flt_0 k 0 0 (xs := ys) hk1 hv hbad] at HF
    rw [hk1] at HS
    clear hv hk1 hbad
    rcases hk with rfl | rfl
    all_goals
      go_enter Tryz.func24, Tryz.ntmps24
      go_wp2_with (first | (go_at_call 37; refine (HS.out _).mono ?_; rintro e w' ⟨rfl, rfl⟩) | (go_at_call 61; refine (HN.out _ (below_alloc _)).mono ?_; rintro e w2 ⟨v, rfl, ho, hb2⟩; obtain ⟨b2, c2, rfl⟩ := own_shape ho; obtain ⟨d0, d1, d2⟩ := vcells hb2; have hfz := froz hb2; have hgr := grew hb2; replace hb2 := hid hb2; replace ho := hid ho) | (go_at_call 25; refine (HF.out b2 c2 _ (own_reads' (ownsRow_setCell_below ho.out (a := ⟨w.heap.size, 1, none⟩) (by simp) _) hys)).mono ?_; rintro e w3 ⟨rfl, hb3⟩; obtain ⟨f0, f1, f2, ffz, fgr, fbel⟩ := vcells1 hb2.out hb3; clear d0 d1 d2 hfz hgr; replace hb3 := hid hb3; replace fbel := hid fbel))
      have hown := own_set3 (own_kept (ownsRow_setCell_below ho.out (a := ⟨w.heap.size, 1, none⟩) (by simp) (.slice b2 ys.length c2)) hb3.out) (b := w.heap.size) (by simp) (.int .u64 0) (.slice b2 ys.length c2) (.slice none 0 0)
      exact bodyPost_ret (v := .tuple #[.agg #[.int .u64 0, .slice b2 ys.length c2, .slice none 0 0], .int .i64 nx, .int .i64 0]) (by simp [results, Tryz.results24, go_sem, f0, f1, f2]) rfl (gave_row rfl (own_reads' hown hys) (below_set3 fbel.out _ _ _))
end

theorem getN_bd {k : Int} {xs : List Int} (h : ∀ x ∈ xs, 0 ≤ x ∧ x ≤ 255) (p : Nat) : 0 ≤ (getN k xs p).1 ∧ (getN k xs p).1 < 18446744073709551616 := by
  have hv := gv_bd h p
  have hw := gw_bd h p
  have hw8 : 0 ≤ (gw xs p 8).1 ∧ (gw xs p 8).1 < 18446744073709551616 := by
    unfold gw
    split
    · exact ⟨by decide, by decide⟩
    · have hb := word_bd ((xs.drop p).take 8) (fun x hx => h x (List.mem_of_mem_drop (List.mem_of_mem_take hx)))
      have hl : ((xs.drop p).take 8).length ≤ 8 := by simp; omega
      have := pow_le_64 _ hl
      exact ⟨hb.1, by have := hb.2; simp only; omega⟩
  unfold getN
  split
  · simp only [uns]; omega
  · split
    · simp only [wid]; split <;> omega
    · split
      · omega
      · split <;> omega
theorem kone_num {k : Int} (hk : kone k = true) (h14 : k ≠ 14) (h15 : k ≠ 15) : nfit k 0 = true := by
  rcases kone_cases hk with rfl | rfl | rfl | rfl | rfl | rfl | rfl | rfl | rfl | rfl | rfl | rfl | rfl | rfl | rfl | rfl
  all_goals first | rfl | exact absurd rfl h14 | exact absurd rfl h15
/-- Get at any place: the kind, the place, then what is there. -/
def getE (k : Int) (xs : List Int) (p : Int) : GotV := if kone k = false ∨ p < 0 ∨ (xs.length : Int) < p then .none 18 else getV k xs p.toNat
theorem getE_no {k : Int} {xs : List Int} {p : Int} (h : kone k = false ∨ p < 0 ∨ (xs.length : Int) < p) : getE k xs p = .none 18 := by unfold getE; rw [if_pos h]
theorem getE_in {k : Int} {xs : List Int} {p : Nat} (hk : kone k = true) (h : p ≤ xs.length) : getE k xs p = getV k xs p := by unfold getE; rw [if_neg (by simp [hk]; omega)]; simp
theorem getKW (k : Int) (a : Option Addr) (len cap : Nat) (p : Int) (xs : List Int) (w : World) (h : Reads w a len cap xs) (hreach : len ≤ 140737488355328) :
    Calls Tryz.prog 24 #[.int .i64 k, .slice a len cap, .int .i64 p] w fun e w' => Gave w (getE k xs p) e w' := by
  have hlen := h.length
  cases hk : kone k with
  | false => rw [getE_no (.inl hk)]; exact getKindNo k a len cap p w hk
  | true =>
    by_cases hout : p < 0 ∨ (len : Int) < p
    · rw [getE_no (.inr (by rw [hlen]; exact hout))]
      by_cases h45 : k = 14 ∨ k = 15
      · refine getRowErr k 0 18 a len cap p w [] h45 rfl (fun W hW => (getChunkOut a len cap p W (by omega) hout).mono ?_)
        rintro e w' ⟨rfl, rfl⟩
        exact ⟨_, rfl, World.ownsRow_nil _ _ _ _, Below.refl _ _⟩
      · exact getNumErr k 0 0 18 a len cap p w hk (by simp; omega) (by simp; omega) rfl (fun W hW => getNumOut k a len cap p W (by omega) hout (kone_num hk (by omega) (by omega)))
    · obtain ⟨q, rfl⟩ : ∃ q : Nat, p = q := ⟨p.toNat, by omega⟩
      have hq : q ≤ len := by omega
      rw [getE_in hk (by omega)]
      unfold getV
      by_cases h45 : k = 14 ∨ k = 15
      · rw [if_pos h45]
        have HG := fun (W : World) (hW : Below w.heap.size w W) => getChunkW a len cap q xs W (reads_kept h hW) hq hreach
        have hys := gc_bd (bd_mem h.bd) q
        generalize gc xs q = g at *
        obtain ⟨g0, g1, g2⟩ := g
        by_cases he : g2 = 0
        · subst he
          rw [if_neg (by simp)]
          exact getRowOk k g1 a len cap q w g0 h45 hys HG
        · rw [if_pos he]
          exact getRowErr k g1 g2 a len cap q w g0 h45 (by simpa using he) HG
      · rw [if_neg h45]
        have HG := fun (W : World) (hW : Below w.heap.size w W) => getNumW k a len cap q xs W (reads_kept h hW) hq (kone_num hk (by omega) (by omega))
        have hb := getN_bd (k := k) (bd_mem h.bd) q
        generalize getN k xs q = g at *
        obtain ⟨g0, g1, g2⟩ := g
        by_cases he : g2 = 0
        · subst he
          rw [if_neg (by simp)]
          have := getNumOk k g0 g1 a len cap q w hk (by simp; omega) (by simp; omega) hb.1 hb.2 HG
          cases hh : khold k g0 with
          | true => rw [hh] at this; simpa using this
          | false => rw [hh] at this; simpa using this
        · rw [if_pos he]
          exact getNumErr k g0 g1 g2 a len cap q w hk (by simp; omega) (by simp; omega) (by simpa using he) HG
end Go.Proofs.YtcenkalhklpajaaGreatDoor
namespace Go.Proofs.YtcenkalhklpajaaGreatDoor
open Go.RowKit
set_option maxRecDepth 1000000
set_option maxHeartbeats 8000000

theorem below_two {w : World} (o o' : Obj) : Below w.heap.size w ((w.alloc o).alloc o') := below_trans (below_alloc _) (below_alloc _)
/-- What Get makes of a number that was read. -/
def numG (k N nx er : Int) : GotV := if er ≠ 0 then .none er else if khold k N = false then .none 7 else ⟨N, [], nx, 0⟩
theorem numG_err {k N nx er : Int} (h : (er != 0) = true) : numG k N nx er = .none er := by unfold numG; rw [if_pos (by simpa using h)]
theorem numG_no {k N nx : Int} (h : khold k N = false) : numG k N nx 0 = .none 7 := by unfold numG; rw [if_neg (by simp), if_pos h]
theorem numG_ok {k N nx : Int} (h : khold k N = true) : numG k N nx 0 = ⟨N, [], nx, 0⟩ := by unfold numG; rw [if_neg (by simp), if_neg (by simp [h])]
theorem wid_conv {n : Int} (h0 : 0 ≤ n) (h1 : n < 4294967296) : IntKind.u64.wrap (wrap64 (wrap32 n)) = wid n := by
  unfold wid
  rw [IntKind.wrap_u64]
  unfold wrap64 wrap32
  split <;> omega
theorem uns_conv (n : Int) : IntKind.u64.wrap n = uns n := by rw [IntKind.wrap_u64]; rfl
section
variable (N0 nx er : Int) (a : Option Addr) (len cap p : Nat) (w : World)
end
end Go.Proofs.YtcenkalhklpajaaGreatDoor
namespace Go.Proofs.YtcenkalhklpajaaGreatDoor
open Go.RowKit
set_option maxRecDepth 1000000
set_option maxHeartbeats 4000000

/-- Two values' own cells, wherever new blocks came behind them. -/
theorem two_cells {w w2 : World} {x y z x' y' z' : Value} (hb : Below ((w.alloc (.cells #[x, y, z] 33)).alloc (.cells #[x', y', z'] 33)).heap.size ((w.alloc (.cells #[x, y, z] 33)).alloc (.cells #[x', y', z'] 33)) w2) :
    (w2.cell? ⟨w.heap.size, 0, none⟩ = some x ∧ w2.cell? ⟨w.heap.size, 1, none⟩ = some y ∧ w2.cell? ⟨w.heap.size, 2, none⟩ = some z) ∧ (w2.cell? ⟨w.heap.size + 1, 0, none⟩ = some x' ∧ w2.cell? ⟨w.heap.size + 1, 1, none⟩ = some y' ∧ w2.cell? ⟨w.heap.size + 1, 2, none⟩ = some z') ∧ (∀ o, w2.frozen? ⟨w.heap.size, o, none⟩ = false) ∧ (∀ o, w2.frozen? ⟨w.heap.size + 1, o, none⟩ = false) ∧ w.heap.size + 1 < w2.heap.size ∧ Below w.heap.size w w2 := by
  have hs : w.heap.size + 1 < w2.heap.size := by have := hb.size; simp at this; omega
  have h0 : Below (w.alloc (.cells #[x, y, z] 33)).heap.size (w.alloc (.cells #[x, y, z] 33)) w2 := (below_alloc _).trans (hb.mono (by simp))
  have h1 := vcells (w := w.alloc (.cells #[x, y, z] 33)) hb
  have h2 := froz (w := w.alloc (.cells #[x, y, z] 33)) hb
  simp only [World.size_alloc] at h1 h2
  exact ⟨vcells h0, h1, froz h0, h2, hs, below_trans (below_alloc _) h0⟩
section
variable (k nx er : Int) (a : Option Addr) (len cap p : Nat) (w : World) (ys : List Int)
end
theorem gc_len {xs : List Int} (p : Nat) : (gc xs p).1.length ≤ xs.length := by
  unfold gc gcF
  split
  · simp
  · split
    · simp
    · simp; omega
theorem gave_eq {w w' : World} {g g' : GotV} {e : Ending} (h : Gave w g e w') (hg : g = g') : Gave w g' e w' := by subst hg; exact h
end Go.Proofs.YtcenkalhklpajaaGreatDoor
namespace Go.Proofs.YtcenkalhklpajaaGreatDoor
open Go.RowKit
set_option maxRecDepth 1000000
set_option maxHeartbeats 2000000

theorem same3W (a1 a2 : Option Addr) (l1 c1 l2 c2 : Nat) (xs ys : List Int) (w : World) (h1 : Reads w a1 l1 c1 xs) (h2 : Reads w a2 l2 c2 ys) :
    Calls Tryz.prog 13 #[.slice a1 l1 c1, .slice a2 l2 c2] w fun e w' => e = .returned (.bool (decide (xs = ys))) ∧ w = w' := by
  have e1 := conv h1
  have e2 := conv h2
  have H := hid (str_eq (bd_mem h1.bd) (bd_mem h2.bd))
  clear h1 h2
  go_enter Tryz.func13, Tryz.ntmps13
  go_wp2
  go_ret
  exact ⟨ret_bool H.out, rfl⟩

section
variable (n1 n2 : Int) (a1 a2 m1 m2 : Option Addr) (l1 c1 l2 c2 k1 k2 : Nat) (xs ys : List Int) (w : World)
theorem sameVR (h1 : Reads w a1 l1 c1 xs) (h2 : Reads w a2 l2 c2 ys) :
    Calls Tryz.prog 42 #[.agg #[.int .u64 n1, .slice a1 l1 c1, .slice m1 0 k1], .agg #[.int .u64 n2, .slice a2 l2 c2, .slice m2 0 k2]] w fun e w' => e = .returned (.bool (decide (n1 = n2 ∧ xs = ys))) ∧ Below w.heap.size w w' := by
  have e1 := conv (w := (w.alloc (.cells #[.int .u64 n1, .slice a1 l1 c1, .slice m1 0 k1] 33)).alloc (.cells #[.int .u64 n2, .slice a2 l2 c2, .slice m2 0 k2] 33)) (reads_kept h1 (below_two _ _))
  have e2 := conv (w := (w.alloc (.cells #[.int .u64 n1, .slice a1 l1 c1, .slice m1 0 k1] 33)).alloc (.cells #[.int .u64 n2, .slice a2 l2 c2, .slice m2 0 k2] 33)) (reads_kept h2 (below_two _ _))
  have hs := str_eq (bd_mem h1.bd) (bd_mem h2.bd)
  clear h1 h2
  by_cases hn : n1 = n2
  · subst hn
    by_cases hx : xs = ys
    · subst hx
      rw [show decide (n1 = n1 ∧ xs = xs) = true by simp]
      clear hs
      go_enter Tryz.func42, Tryz.ntmps42
      go_wp2
      go_ret
      exact ⟨rfl, below_two _ _⟩
    · rw [show decide (n1 = n1 ∧ xs = ys) = false by simp [hx]]
      have hs2 : ((strOfNums xs).toList == (strOfNums ys).toList) = false := by rw [hs]; simpa using hx
      clear hx hs
      go_enter Tryz.func42, Tryz.ntmps42
      go_wp2
      go_ret
      exact ⟨rfl, below_two _ _⟩
  · rw [show decide (n1 = n2 ∧ xs = ys) = false by simp [hn]]
    have hn2 : (n1 == n2) = false := by simpa using hn
    clear hn hs
    go_enter Tryz.func42, Tryz.ntmps42
    go_wp2
    go_ret
    exact ⟨rfl, below_two _ _⟩

theorem toldYes (er : Int) (h1 : Reads w a1 l1 c1 xs) (h2 : Reads w a2 l2 c2 ys) (h0 : er ≠ 0 → n1 = 0 ∧ xs = []) (hz : er = 0 → n1 = n2 ∧ xs = ys) :
    Calls Tryz.prog 19 #[.agg #[.int .u64 n1, .slice a1 l1 c1, .slice m1 0 k1], .int .i64 er, .agg #[.int .u64 n2, .slice a2 l2 c2, .slice m2 0 k2], .int .i64 er] w fun e w' => e = .returned (.bool true) ∧ Below w.heap.size w w' := by
  by_cases he : er = 0
  · subst he
    obtain ⟨rfl, rfl⟩ := hz rfl
    have HS := hid (fun (W : World) (hW : Below w.heap.size w W) => sameVR n1 n1 a1 a2 m1 m2 l1 c1 l2 c2 k1 k2 xs xs W (reads_kept h1 hW) (reads_kept h2 hW))
    rw [show decide (n1 = n1 ∧ xs = xs) = true by simp] at HS
    clear h1 h2 h0 hz
    go_enter Tryz.func19, Tryz.ntmps19
    go_wp2_with (go_at_call 42; refine (HS.out _ (below_two _ _)).mono ?_; rintro e w2 ⟨rfl, hb2⟩; replace hb2 := hid hb2)
    go_ret
    exact ⟨rfl, below_trans (below_two _ _) hb2.out⟩
  · obtain ⟨rfl, rfl⟩ := h0 he
    have hne : (er != 0) = true := by simpa using he
    have HS := hid (fun (W : World) (hW : Below w.heap.size w W) => sameVR 0 0 a1 none m1 none l1 c1 0 0 k1 0 [] [] W (reads_kept h1 hW) (reads_nil _))
    rw [show decide ((0 : Int) = 0 ∧ ([] : List Int) = []) = true by simp] at HS
    clear h1 h2 h0 hz he
    go_enter Tryz.func19, Tryz.ntmps19
    go_wp2_with (go_at_call 42; refine (HS.out _ (below_two _ _)).mono ?_; rintro e w2 ⟨rfl, hb2⟩; replace hb2 := hid hb2)
    go_ret
    exact ⟨rfl, below_trans (below_two _ _) hb2.out⟩
end
theorem nW (x : Int) (w : World) : Calls Tryz.prog 11 #[.int .i64 x] w fun e w' => e = .returned (.agg #[.int .u64 (uns x), .slice none 0 0, .slice none 0 0]) ∧ Below w.heap.size w w' := by
  have hu := uns_conv x
  go_enter Tryz.func11, Tryz.ntmps11
  go_wp2
  exact bodyPost_ret (v := .agg #[.int .u64 (uns x), .slice none 0 0, .slice none 0 0]) (by simp [results, Tryz.results11, go_sem]) rfl ⟨rfl, below_alloc _⟩
end Go.Proofs.YtcenkalhklpajaaGreatDoor
namespace Go.Proofs.YtcenkalhklpajaaGreatDoor
open Go.RowKit
set_option maxRecDepth 1000000
set_option maxHeartbeats 2000000

theorem wrote_is {w w' : World} {g : List Int × Int} {e : Ending} {ys : List Int} {er : Int} (h : Wrote w g e w') (hg : g = (ys, er)) : ∃ a c, e = .returned (.tuple #[.slice a ys.length c, .int .i64 er]) ∧ Reads w' a ys.length c ys ∧ Below w.heap.size w w' := by subst hg; exact h
theorem gave_is {w w' : World} {g : GotV} {e : Ending} {n nx er : Int} {ys : List Int} (h : Gave w g e w') (hg : g = ⟨n, ys, nx, er⟩) : ∃ a c, e = .returned (.tuple #[.agg #[.int .u64 n, .slice a ys.length c, .slice none 0 0], .int .i64 nx, .int .i64 er]) ∧ Reads w' a ys.length c ys ∧ Below w.heap.size w w' := by subst hg; exact h
theorem callPut6 (W : World) : Calls Tryz.prog 10 #[.int .i64 6, .agg #[.int .u64 18446744073709551615, .slice none 0 0, .slice none 0 0]] W fun e w' => ∃ a c, e = .returned (.tuple #[.slice a 1 c, .int .i64 0]) ∧ Reads w' a 1 c [1] ∧ Below W.heap.size W w' :=
  (putKW 6 18446744073709551615 none none 0 0 0 0 W [] (by decide) (by decide) (reads_nil W) (by decide) (by decide)).mono fun _ _ h => wrote_is h (ys := [1]) (er := 0) (by decide)
theorem callGet10 (W : World) : Calls Tryz.prog 24 #[.int .i64 10, .slice (some ⟨W.heap.size, 0, none⟩) 4 4, .int .i64 0] (W.alloc (.cells #[.int .u8 255, .int .u8 255, .int .u8 255, .int .u8 255] 5)) fun e w' => ∃ a c, e = .returned (.tuple #[.agg #[.int .u64 18446744073709551615, .slice a 0 c, .slice none 0 0], .int .i64 4, .int .i64 0]) ∧ Reads w' a 0 c [] ∧ Below W.heap.size W w' := by
  refine (getKW 10 (some ⟨W.heap.size, 0, none⟩) 4 4 0 [255, 255, 255, 255] _ (reads_new W [255, 255, 255, 255] (by decide) (by decide)) (by decide)).mono ?_
  intro e w' h
  obtain ⟨a, c, h1, h2, h3⟩ := gave_is h (n := 18446744073709551615) (ys := []) (nx := 4) (er := 0) rfl
  exact ⟨a, c, h1, h2, below_trans (below_alloc _) h3⟩
theorem callN (W : World) : Calls Tryz.prog 11 #[.int .i64 (-1)] W fun e w' => e = .returned (.agg #[.int .u64 18446744073709551615, .slice none 0 0, .slice none 0 0]) ∧ Below W.heap.size W w' := nW (-1) W

theorem cells_past {w w2 : World} {x y z : Value} {o : Obj} (hb : Below ((w.alloc (.cells #[x, y, z] 33)).alloc o).heap.size ((w.alloc (.cells #[x, y, z] 33)).alloc o) w2) : w2.cell? ⟨w.heap.size, 0, none⟩ = some x ∧ w2.cell? ⟨w.heap.size, 1, none⟩ = some y ∧ w2.cell? ⟨w.heap.size, 2, none⟩ = some z :=
  vcells ((below_alloc _).trans (hb.mono (by simp)))
theorem below_drew (w : World) : Below w.heap.size w w.drew := ⟨rfl, rfl, rfl, Nat.le_refl _, fun _ _ => rfl⟩
theorem awake3 (w : World) : Calls Tryz.prog 7 #[] w fun e w' => e = .returned (.bool true) ∧ Below w.heap.size w w' := by
  have HB : Hid (Below w.heap.size w w) := hid (Below.refl _ _)
  go_enter Tryz.func7, Tryz.ntmps7
  go_wp2_with (first | (go_at_call 11; refine (callN _).mono ?_; rintro e w1 ⟨rfl, hb⟩; replace HB := hid (below_trans HB.out hb); clear hb) | (go_at_call 10; refine (callPut6 _).mono ?_; rintro e w2 ⟨pa, pc, rfl, hp, hb⟩; replace HB := hid (below_trans HB.out hb); replace hp := hid hp; clear hb) | (go_at_call 24; refine (callGet10 _).mono ?_; rintro e w3 ⟨va, vc, rfl, hv, hb⟩; replace HB := hid (below_trans HB.out hb); replace hp := hid (reads_kept hp.out hb); replace hv := hid hv; clear hb))
  have H1 := hid (show Reads ((w3.alloc (.cells #[.int .u64 18446744073709551615, .slice va 0 vc, .slice none 0 0] 33)).alloc (.cells #[.int .u8 1] 5)) (some ⟨w3.heap.size + 1, 0, none⟩) 1 1 [1] by simpa using reads_new (w3.alloc (.cells #[.int .u64 18446744073709551615, .slice va 0 vc, .slice none 0 0] 33)) [1] (by decide) (by decide))
  go_region_with (first | (go_at_call 11; refine (callN _).mono ?_; rintro e w5 ⟨rfl, hb⟩; obtain ⟨d0, d1, d2⟩ := cells_past (below_trans (below_drew _) hb); replace HB := hid (below_trans (below_trans HB.out ((below_two _ _).drew)) hb); replace hv := hid (reads_kept (reads_kept hv.out ((below_two _ _).drew)) hb); clear hb) | (go_at_call 13; refine (same3W pa (some ⟨w3.heap.size + 1, 0, none⟩) 1 pc 1 1 [1] [1] _ (by exact reads_kept hp.out ((below_two _ _).drew)) (by exact reads_kept H1.out (below_drew _))).mono ?_; rintro e w4 ⟨rfl, rfl⟩) | (go_at_call 19; refine (toldYes 18446744073709551615 18446744073709551615 va none none none 0 vc 0 0 0 0 [] [] _ 0 hv.out (reads_nil _) (by simp) (by simp)).mono ?_; rintro e w6 ⟨rfl, hb⟩; replace HB := hid (below_trans HB.out hb); clear hb))
  all_goals go_wp2
  all_goals go_ret
  all_goals exact ⟨rfl, HB.out⟩
end Go.Proofs.YtcenkalhklpajaaGreatDoor
