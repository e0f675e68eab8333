/-
  P3.5: the law's walk.
-/
import Derived.Test.YtgcimeldofbgkaaSR
namespace Go.Proofs.Ytgcimeldofbgkaa
open Go.RowKit
set_option maxRecDepth 1000000
set_option maxHeartbeats 4000000

section
variable (k n1 n2 : Int) (a1 a2 p1 p2 : Option Addr) (l1 c1 l2 c2 m1 m2 q1 q2 : Nat) (xs ys : List Int) (w : World)
theorem scalarOrdersW (h10 : 0 ≤ n1) (h11 : n1 < 18446744073709551616) (h20 : 0 ≤ n2) (h21 : n2 < 18446744073709551616) (hr1 : Reads w a1 l1 c1 xs) (hr2 : Reads w a2 l2 c2 ys) (hm1 : m1 ≤ 9223372036854775807) (hm2 : m2 ≤ 9223372036854775807) :
    Calls Try.prog 5 #[.int .i64 k, .agg #[.int .u64 n1, .slice a1 l1 c1, .slice p1 m1 q1], .agg #[.int .u64 n2, .slice a2 l2 c2, .slice p2 m2 q2]] w fun e w' => e = .returned (.bool true) ∧ Below w.heap.size w w' := by
  have hl1 := hr1.length
  have hl2 := hr2.length
  have HR1 := hid hr1
  have HR2 := hid hr2
  have HK := hid (fun W => isKeyR k W)
  have H1 := hid (fun W => fitsR k n1 a1 p1 l1 c1 m1 q1 W h10 h11 (by have := hr1.le; have := hr1.max; omega) hm1)
  have H2 := hid (fun W => fitsR k n2 a2 p2 l2 c2 m2 q2 W h20 h21 (by have := hr2.le; have := hr2.max; omega) hm2)
  have HC := hid (fun W g1 g2 => compareW k n1 n2 a1 a2 p1 p2 l1 c1 l2 c2 m1 m2 q1 q2 xs ys W h10 h11 h20 h21 g1 g2 hm1 hm2)
  unfold cmpE at HC
  rw [hl1, hl2] at HC
  cases hk : kkey k with
  | false =>
    rw [hk] at HK HC
    rw [if_pos rfl] at HC
    clear hr1 hr2 hl1 hl2 hk
    go_enter Try.func5, Try.ntmps5
    go_wp2_with fail
    refine (HC.out _ (reads_kept HR1.out (below_two _ _)) (reads_kept HR2.out (below_two _ _))).mono ?_
    rintro e w2 ⟨rfl, hb⟩
    obtain ⟨⟨d0, d1, d2⟩, ⟨f0, f1, f2⟩, _, _, _, hbel⟩ := two_cells hb
    replace HB := hid hbel
    clear hb hbel
    go_wp2_with fail
    refine (awake3 _).mono ?_
    rintro e w3 ⟨rfl, hb⟩
    replace d0 := cell_kept hb d0
    replace d1 := cell_kept hb d1
    replace d2 := cell_kept hb d2
    replace f0 := cell_kept hb f0
    replace f1 := cell_kept hb f1
    replace f2 := cell_kept hb f2
    replace HB := hid (below_trans HB.out hb)
    clear hb
    go_wp2_with fail
    refine (HK.out _).mono ?_
    rintro e w' ⟨rfl, rfl⟩
    go_wp2
    go_ret
    exact ⟨rfl, HB.out⟩
  | true =>
    rw [hk] at HK HC
    rw [if_neg (by simp)] at HC
    cases hv1 : vfit k n1 l1 m1 with
    | false =>
      rw [hv1] at H1 HC
      rw [if_pos (.inl rfl)] at HC
      clear hr1 hr2 hl1 hl2 hk hv1
      go_enter Try.func5, Try.ntmps5
      go_wp2_with fail
      refine (HC.out _ (reads_kept HR1.out (below_two _ _)) (reads_kept HR2.out (below_two _ _))).mono ?_
      rintro e w2 ⟨rfl, hb⟩
      obtain ⟨⟨d0, d1, d2⟩, ⟨f0, f1, f2⟩, _, _, _, hbel⟩ := two_cells hb
      replace HB := hid hbel
      clear hb hbel
      go_wp2_with fail
      refine (awake3 _).mono ?_
      rintro e w3 ⟨rfl, hb⟩
      replace d0 := cell_kept hb d0
      replace d1 := cell_kept hb d1
      replace d2 := cell_kept hb d2
      replace f0 := cell_kept hb f0
      replace f1 := cell_kept hb f1
      replace f2 := cell_kept hb f2
      replace HB := hid (below_trans HB.out hb)
      clear hb
      go_wp2_with fail
      refine (HK.out _).mono ?_
      rintro e w' ⟨rfl, rfl⟩
      go_wp2_with fail
      refine (H1.out _).mono ?_
      rintro e w4 ⟨rfl, hb⟩
      replace d0 := cell_kept hb d0
      replace d1 := cell_kept hb d1
      replace d2 := cell_kept hb d2
      replace f0 := cell_kept hb f0
      replace f1 := cell_kept hb f1
      replace f2 := cell_kept hb f2
      replace HB := hid (below_trans HB.out hb)
      clear hb
      go_wp2
      go_ret
      exact ⟨rfl, HB.out⟩
    | true =>
      rw [hv1] at H1 HC
      cases hv2 : vfit k n2 l2 m2 with
      | false =>
        rw [hv2] at H2 HC
        rw [if_pos (.inr rfl)] at HC
        clear hr1 hr2 hl1 hl2 hk hv1 hv2
        go_enter Try.func5, Try.ntmps5
        go_wp2_with fail
        refine (HC.out _ (reads_kept HR1.out (below_two _ _)) (reads_kept HR2.out (below_two _ _))).mono ?_
        rintro e w2 ⟨rfl, hb⟩
        obtain ⟨⟨d0, d1, d2⟩, ⟨f0, f1, f2⟩, _, _, _, hbel⟩ := two_cells hb
        replace HB := hid hbel
        clear hb hbel
        go_wp2_with fail
        refine (awake3 _).mono ?_
        rintro e w3 ⟨rfl, hb⟩
        replace d0 := cell_kept hb d0
        replace d1 := cell_kept hb d1
        replace d2 := cell_kept hb d2
        replace f0 := cell_kept hb f0
        replace f1 := cell_kept hb f1
        replace f2 := cell_kept hb f2
        replace HB := hid (below_trans HB.out hb)
        clear hb
        go_wp2_with fail
        refine (HK.out _).mono ?_
        rintro e w' ⟨rfl, rfl⟩
        go_wp2_with fail
        refine (H1.out _).mono ?_
        rintro e w4 ⟨rfl, hb⟩
        replace d0 := cell_kept hb d0
        replace d1 := cell_kept hb d1
        replace d2 := cell_kept hb d2
        replace f0 := cell_kept hb f0
        replace f1 := cell_kept hb f1
        replace f2 := cell_kept hb f2
        replace HB := hid (below_trans HB.out hb)
        clear hb
        go_wp2_with fail
        refine (H2.out _).mono ?_
        rintro e w5 ⟨rfl, hb⟩
        replace d0 := cell_kept hb d0
        replace d1 := cell_kept hb d1
        replace d2 := cell_kept hb d2
        replace f0 := cell_kept hb f0
        replace f1 := cell_kept hb f1
        replace f2 := cell_kept hb f2
        replace HB := hid (below_trans HB.out hb)
        clear hb
        go_wp2
        go_ret
        exact ⟨rfl, HB.out⟩
      | true =>
        rw [hv2] at H2 HC
        rw [if_neg (by simp)] at HC
        have HX := hid (fun W g1 g2 => compareR k n1 n2 a1 a2 p1 p2 l1 c1 l2 c2 m1 m2 q1 q2 xs ys W hk h10 h11 h20 h21 g1 g2)
        generalize cmpV k n1 n2 xs ys = cv at HC HX
        clear hr1 hr2 hl1 hl2 hk hv1 hv2
        go_enter Try.func5, Try.ntmps5
        go_wp2_with fail
        refine (HC.out _ (reads_kept HR1.out (below_two _ _)) (reads_kept HR2.out (below_two _ _))).mono ?_
        rintro e w2 ⟨rfl, hb⟩
        obtain ⟨⟨d0, d1, d2⟩, ⟨f0, f1, f2⟩, _, _, _, hbel⟩ := two_cells hb
        replace HB := hid hbel
        clear hb hbel
        go_wp2_with fail
        refine (awake3 _).mono ?_
        rintro e w3 ⟨rfl, hb⟩
        replace d0 := cell_kept hb d0
        replace d1 := cell_kept hb d1
        replace d2 := cell_kept hb d2
        replace f0 := cell_kept hb f0
        replace f1 := cell_kept hb f1
        replace f2 := cell_kept hb f2
        replace HB := hid (below_trans HB.out hb)
        clear hb
        go_wp2_with fail
        refine (HK.out _).mono ?_
        rintro e w' ⟨rfl, rfl⟩
        go_wp2_with fail
        refine (H1.out _).mono ?_
        rintro e w4 ⟨rfl, hb⟩
        replace d0 := cell_kept hb d0
        replace d1 := cell_kept hb d1
        replace d2 := cell_kept hb d2
        replace f0 := cell_kept hb f0
        replace f1 := cell_kept hb f1
        replace f2 := cell_kept hb f2
        replace HB := hid (below_trans HB.out hb)
        clear hb
        go_wp2_with fail
        refine (H2.out _).mono ?_
        rintro e w5 ⟨rfl, hb⟩
        replace d0 := cell_kept hb d0
        replace d1 := cell_kept hb d1
        replace d2 := cell_kept hb d2
        replace f0 := cell_kept hb f0
        replace f1 := cell_kept hb f1
        replace f2 := cell_kept hb f2
        replace HB := hid (below_trans HB.out hb)
        clear hb
        go_wp2_with fail
        refine (HX.out _ (reads_kept HR1.out HB.out) (reads_kept HR2.out HB.out)).mono ?_
        rintro e w6 ⟨rfl, hb⟩
        replace HB := hid (below_trans HB.out hb)
        clear hb
        go_wp2
        go_ret
        exact ⟨by simp, HB.out⟩
end
end Go.Proofs.Ytgcimeldofbgkaa
