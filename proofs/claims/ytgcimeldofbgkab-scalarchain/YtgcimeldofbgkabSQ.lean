/-
  Compare: the program's walk and the document's.
-/
import Derived.Test.YtgcimeldofbgkabSP
import Derived.Test.YtgcimeldofbgkabSO
namespace Go.Proofs.Ytgcimeldofbgkab
open Go.RowKit
set_option maxRecDepth 1000000
set_option maxHeartbeats 4000000

def cmpV (k n1 n2 : Int) (xs ys : List Int) : Int := if k = 14 then cmpX xs ys else if kneg k = true then cmpI (sgn n1) (sgn n2) else cmpI n1 n2
def cmpE (k n1 n2 : Int) (xs ys : List Int) (m1 m2 : Nat) : Int × Int := if kkey k = false then (0, 18) else if vfit k n1 xs.length m1 = false ∨ vfit k n2 ys.length m2 = false then (0, 7) else (cmpV k n1 n2 xs ys, 0)
section
variable (k n1 n2 : Int) (a1 a2 p1 p2 : Option Addr) (l1 c1 l2 c2 m1 m2 q1 q2 : Nat) (xs ys : List Int) (w : World)
theorem compareW (h10 : 0 ≤ n1) (h11 : n1 < 18446744073709551616) (h20 : 0 ≤ n2) (h21 : n2 < 18446744073709551616) (hr1 : Reads w a1 l1 c1 xs) (hr2 : Reads w a2 l2 c2 ys) (hm1 : m1 ≤ 9223372036854775807) (hm2 : m2 ≤ 9223372036854775807) :
    Calls Try.prog 5 #[.int .i64 k, .agg #[.int .u64 n1, .slice a1 l1 c1, .slice p1 m1 q1], .agg #[.int .u64 n2, .slice a2 l2 c2, .slice p2 m2 q2]] w fun e w' => e = .returned (.tuple #[.int .i64 (cmpE k n1 n2 xs ys m1 m2).1, .int .i64 (cmpE k n1 n2 xs ys m1 m2).2]) ∧ Below w.heap.size w w' := by
  have hl1 := hr1.length
  have hl2 := hr2.length
  have HR1 := hid hr1
  have HR2 := hid hr2
  have HK := hid (fun W => isKeyW k W)
  have HN := hid (fun W => negW k W)
  have H1 := hid (fun W => fitsW k n1 a1 p1 l1 c1 m1 q1 W h10 h11 (by have := hr1.le; have := hr1.max; omega) hm1)
  have H2 := hid (fun W => fitsW k n2 a2 p2 l2 c2 m2 q2 W h20 h21 (by have := hr2.le; have := hr2.max; omega) hm2)
  have HB : Hid (Below w.heap.size w w) := hid (Below.refl _ _)
  clear hr1 hr2
  unfold cmpE
  rw [hl1, hl2]
  clear hl1 hl2
  cases hk : kkey k with
  | false =>
    rw [if_pos rfl]
    rw [hk] at HK
    clear hk
    go_enter Try.func5, Try.ntmps5
    go_wp2_with (first | (go_at_call 12; refine (HK.out _).mono ?_; rintro e w' ⟨rfl, rfl⟩))
    go_ret2
    exact ⟨rfl, below_two _ _⟩
  | true =>
    rw [hk] at HK
    rw [if_neg (by simp)]
    cases hv1 : vfit k n1 l1 m1 with
    | false =>
      rw [if_pos (.inl rfl)]
      rw [hv1] at H1
      clear hk hv1
      go_enter Try.func5, Try.ntmps5
      go_wp2_with (first | (go_at_call 12; refine (HK.out _).mono ?_; rintro e w' ⟨rfl, rfl⟩) | (go_at_call 13; refine (H1.out _).mono ?_; rintro e w2 ⟨rfl, hb⟩; obtain ⟨⟨d0, d1, d2⟩, ⟨f0, f1, f2⟩, _, _, _, hbel⟩ := two_cells hb; replace HB := hid hbel; clear hb hbel))
      go_ret2
      exact ⟨rfl, HB.out⟩
    | true =>
      rw [hv1] at H1
      cases hv2 : vfit k n2 l2 m2 with
      | false =>
        rw [if_pos (.inr rfl)]
        rw [hv2] at H2
        clear hk hv1 hv2
        go_enter Try.func5, Try.ntmps5
        go_wp2_with fail
        refine (HK.out _).mono ?_
        rintro e w' ⟨rfl, rfl⟩
        go_wp2_with fail
        refine (H1.out _).mono ?_
        rintro e w2 ⟨rfl, hb⟩
        obtain ⟨⟨d0, d1, d2⟩, ⟨f0, f1, f2⟩, _, _, _, hbel⟩ := two_cells hb
        replace HB := hid hbel
        clear hb hbel
        go_wp2_with fail
        refine (H2.out _).mono ?_
        rintro e w3 ⟨rfl, hb⟩
        replace d0 := cell_kept hb d0
        replace d1 := cell_kept hb d1
        replace f0 := cell_kept hb f0
        replace f1 := cell_kept hb f1
        replace HB := hid (below_trans HB.out hb)
        clear hb d2 f2
        go_wp2
        go_ret2
        exact ⟨rfl, HB.out⟩
      | true =>
        rw [if_neg (by simp)]
        rw [hv2] at H2
        clear hk hv1 hv2
        unfold cmpV
        by_cases h14 : k = 14
        · subst h14
          rw [if_pos rfl]
          go_enter Try.func5, Try.ntmps5
          go_wp2_with fail
          refine (HK.out _).mono ?_
          rintro e w' ⟨rfl, rfl⟩
          go_wp2_with fail
          refine (H1.out _).mono ?_
          rintro e w2 ⟨rfl, hb⟩
          obtain ⟨⟨d0, d1, d2⟩, ⟨f0, f1, f2⟩, _, _, _, hbel⟩ := two_cells hb
          replace HB := hid hbel
          clear hb hbel
          go_wp2_with fail
          refine (H2.out _).mono ?_
          rintro e w3 ⟨rfl, hb⟩
          replace d0 := cell_kept hb d0
          replace d1 := cell_kept hb d1
          replace f0 := cell_kept hb f0
          replace f1 := cell_kept hb f1
          replace HB := hid (below_trans HB.out hb)
          clear hb d2 f2
          go_wp2_with (go_at_call 14; refine (bytesCmpW a1 a2 l1 c1 l2 c2 xs ys _ (reads_kept HR1.out HB.out) (reads_kept HR2.out HB.out)).mono ?_; rintro e w' ⟨rfl, rfl⟩)
          go_ret2
          exact ⟨rfl, HB.out⟩
        · rw [if_neg h14]
          have e14 : (k == 14) = false := by simpa using h14
          have hs1 := wrap64_sgn n1 h10 h11
          have hs2 := wrap64_sgn n2 h20 h21
          cases hn : kneg k with
          | true =>
            rw [if_pos rfl]
            rw [hn] at HN
            clear hn h14
            go_enter Try.func5, Try.ntmps5
            go_wp2_with fail
            refine (HK.out _).mono ?_
            rintro e w' ⟨rfl, rfl⟩
            go_wp2_with fail
            refine (H1.out _).mono ?_
            rintro e w2 ⟨rfl, hb⟩
            obtain ⟨⟨d0, d1, d2⟩, ⟨f0, f1, f2⟩, _, _, _, hbel⟩ := two_cells hb
            replace HB := hid hbel
            clear hb hbel
            go_wp2_with fail
            refine (H2.out _).mono ?_
            rintro e w3 ⟨rfl, hb⟩
            replace d0 := cell_kept hb d0
            replace d1 := cell_kept hb d1
            replace f0 := cell_kept hb f0
            replace f1 := cell_kept hb f1
            replace HB := hid (below_trans HB.out hb)
            clear hb d2 f2
            go_wp2_with (first | (go_at_call 15; refine (HN.out _).mono ?_; rintro e w' ⟨rfl, rfl⟩) | (go_at_call 16; refine (cmpSW _ _ _).mono ?_; rintro e w' ⟨rfl, rfl⟩))
            go_ret2
            exact ⟨rfl, HB.out⟩
          | false =>
            rw [if_neg (by simp)]
            rw [hn] at HN
            clear hn h14
            go_enter Try.func5, Try.ntmps5
            go_wp2_with fail
            refine (HK.out _).mono ?_
            rintro e w' ⟨rfl, rfl⟩
            go_wp2_with fail
            refine (H1.out _).mono ?_
            rintro e w2 ⟨rfl, hb⟩
            obtain ⟨⟨d0, d1, d2⟩, ⟨f0, f1, f2⟩, _, _, _, hbel⟩ := two_cells hb
            replace HB := hid hbel
            clear hb hbel
            go_wp2_with fail
            refine (H2.out _).mono ?_
            rintro e w3 ⟨rfl, hb⟩
            replace d0 := cell_kept hb d0
            replace d1 := cell_kept hb d1
            replace f0 := cell_kept hb f0
            replace f1 := cell_kept hb f1
            replace HB := hid (below_trans HB.out hb)
            clear hb d2 f2
            go_wp2_with (first | (go_at_call 15; refine (HN.out _).mono ?_; rintro e w' ⟨rfl, rfl⟩) | (go_at_call 17; refine (cmpUW _ _ _).mono ?_; rintro e w' ⟨rfl, rfl⟩))
            go_ret2
            exact ⟨rfl, HB.out⟩
end
end Go.Proofs.Ytgcimeldofbgkab
