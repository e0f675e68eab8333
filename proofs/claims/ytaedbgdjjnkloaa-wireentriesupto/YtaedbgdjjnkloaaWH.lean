/-
  The walk of the law WireTags.
-/
import Derived.Test.YtaedbgdjjnkloaaWG
namespace Go.Proofs.Ytaedbgdjjnkloaa
open Go.RowKit

/-- The bytes of a tag; none where it has a fault. -/
def pt (n k : Int) : List Int := if tf n k = 0 then pv (n * 8 + k) else []

theorem reads_nil (w : World) : Reads w none 0 0 [] := ⟨rfl, Nat.le_refl _, by omega, by simp, .inl ⟨rfl, fun _ => rfl⟩⟩

theorem putTagAny (n k : Int) (w : World) : Calls Try.prog 20 #[.int .i64 n, .int .i64 k] w fun e w' => ∃ a c, e = .returned (.tuple #[.slice a (pt n k).length c, .int .i64 (tf n k)]) ∧ Reads w' a (pt n k).length c (pt n k) ∧ Below w.heap.size w w' := by
  by_cases h : tf n k = 0
  · obtain ⟨h0, h1, hk⟩ := tf_ok h
    obtain ⟨k0, k1⟩ := okK_bd hk
    refine (putTagYes n k w h).mono ?_
    rintro e w' ⟨v, rfl, ho, hb⟩
    obtain ⟨a, c, rfl, hr⟩ := own_reads ho (pv_bd (by omega) (by omega))
    have e1 : pt n k = pv (n * 8 + k) := by rw [pt, if_pos h]
    rw [e1, h]
    exact ⟨a, c, rfl, hr, hb⟩
  · refine (putTagNo n k w h).mono ?_
    rintro e w' ⟨rfl, rfl⟩
    have e1 : pt n k = [] := by rw [pt, if_neg h]
    rw [e1]
    exact ⟨none, 0, rfl, reads_nil _, Below.refl _ _⟩
theorem refPutTagAny (n k : Int) (w : World) : Calls Try.prog 38 #[.int .i64 n, .int .i64 k] w fun e w' => ∃ a c, e = .returned (.tuple #[.slice a (pt n k).length c, .int .i64 (tf n k)]) ∧ Reads w' a (pt n k).length c (pt n k) ∧ Below w.heap.size w w' := by
  by_cases h : tf n k = 0
  · obtain ⟨h0, h1, hk⟩ := tf_ok h
    obtain ⟨k0, k1⟩ := okK_bd hk
    refine (refPutTagYes n k w h).mono ?_
    rintro e w' ⟨v, rfl, ho, hb⟩
    obtain ⟨a, c, rfl, hr⟩ := own_reads ho (pv_bd (by omega) (by omega))
    have e1 : pt n k = pv (n * 8 + k) := by rw [pt, if_pos h]
    rw [e1, h]
    exact ⟨a, c, rfl, hr, hb⟩
  · refine (refPutTagNo n k w h).mono ?_
    rintro e w' ⟨rfl, rfl⟩
    have e1 : pt n k = [] := by rw [pt, if_neg h]
    rw [e1]
    exact ⟨none, 0, rfl, reads_nil _, Below.refl _ _⟩

set_option maxHeartbeats 1000000 in
theorem tagsW (n k : Int) (a1 : Option Addr) (len cap : Nat) (zs : List Int) (p : Int) (w : World) (hrow : IsRow .u8 w a1 len cap zs) :
    Calls Try.prog 6 #[.int .i64 n, .int .i64 k, .slice a1 len cap, .int .i64 p] w fun e w' => e = .returned (.bool true) ∧ Below w.heap.size w w' := by
  have hr := isRow_reads hrow
  clear hrow
  generalize zs.take len = xs at hr
  have hlm : len ≤ 9223372036854775807 := Nat.le_trans hr.le hr.max
  by_cases hin : 0 ≤ p ∧ p ≤ len
  · obtain ⟨q, rfl⟩ := Int.eq_ofNat_of_zero_le hin.1
    have hq : q ≤ len := by omega
    have hq1 : decide ((q : Int) < 0) = false := by simp
    have hq2 : decide ((len : Int) < q) = false := by simp; omega
    go_enter Try.func6, Try.ntmps6
    go_wp2_with fail
    refine (putTagAny n k _).mono ?_
    rintro e w1 ⟨b1, c1, rfl, hr1, hb1⟩
    go_wp2_with fail
    refine (getTagW _ _ _ q xs _ (reads_kept hr hb1) hq).mono ?_
    rintro e w' ⟨rfl, rfl⟩
    generalize hg : gt xs q = g
    have HG := hid hg
    clear hg
    go_wp2_with fail
    refine (refPutTagAny n k _).mono ?_
    rintro e w2 ⟨b2, c2, rfl, hr2, hb2⟩
    have hr1 := reads_kept hr1 hb2
    have hb := below_trans hb1 hb2
    clear hb1 hb2
    go_wp2_with fail
    refine (awakeW _).mono ?_
    rintro e w3 ⟨rfl, hb3⟩
    have hr1 := reads_kept hr1 hb3
    have hr2 := reads_kept hr2 hb3
    have hb := below_trans hb hb3
    clear hb3
    go_wp2_with fail
    refine (sameYes _ _ _ _ _ _ _ _ hr1 hr2).mono ?_
    rintro e w4 ⟨rfl, rfl⟩
    clear hr1 hr2
    go_wp2_with fail
    refine (getTagR _ _ _ q xs _ (reads_kept hr hb) hq).mono ?_
    rintro e w4 ⟨rfl, rfl⟩
    rw [HG.out]
    go_wp2
    go_ret
    exact ⟨by simp, hb⟩
  · have hout : p < 0 ∨ (len : Int) < p := by omega
    by_cases hp0 : p < 0
    · have hq1 : decide (p < 0) = true := by simpa using hp0
      have HO := hid hout
      clear hout hin
      go_enter Try.func6, Try.ntmps6
      go_wp2_with fail
      refine (putTagAny n k _).mono ?_
      rintro e w1 ⟨b1, c1, rfl, hr1, hb1⟩
      go_wp2_with fail
      refine (getTagOut _ _ _ p _ hlm HO.out).mono ?_
      rintro e w' ⟨rfl, rfl⟩
      go_wp2_with fail
      refine (refPutTagAny n k _).mono ?_
      rintro e w2 ⟨b2, c2, rfl, hr2, hb2⟩
      have hr1 := reads_kept hr1 hb2
      have hb := below_trans hb1 hb2
      clear hb1 hb2
      go_wp2_with fail
      refine (awakeW _).mono ?_
      rintro e w3 ⟨rfl, hb3⟩
      have hr1 := reads_kept hr1 hb3
      have hr2 := reads_kept hr2 hb3
      have hb := below_trans hb hb3
      clear hb3
      go_wp2_with fail
      refine (sameYes _ _ _ _ _ _ _ _ hr1 hr2).mono ?_
      rintro e w4 ⟨rfl, rfl⟩
      clear hr1 hr2
      go_wp2
      go_ret
      exact ⟨rfl, hb⟩
    · have hq1 : decide (p < 0) = false := by simpa using hp0
      have hq2 : decide ((len : Int) < p) = true := by simp; omega
      have HO := hid hout
      clear hout hin
      go_enter Try.func6, Try.ntmps6
      go_wp2_with fail
      refine (putTagAny n k _).mono ?_
      rintro e w1 ⟨b1, c1, rfl, hr1, hb1⟩
      go_wp2_with fail
      refine (getTagOut _ _ _ p _ hlm HO.out).mono ?_
      rintro e w' ⟨rfl, rfl⟩
      go_wp2_with fail
      refine (refPutTagAny n k _).mono ?_
      rintro e w2 ⟨b2, c2, rfl, hr2, hb2⟩
      have hr1 := reads_kept hr1 hb2
      have hb := below_trans hb1 hb2
      clear hb1 hb2
      go_wp2_with fail
      refine (awakeW _).mono ?_
      rintro e w3 ⟨rfl, hb3⟩
      have hr1 := reads_kept hr1 hb3
      have hr2 := reads_kept hr2 hb3
      have hb := below_trans hb hb3
      clear hb3
      go_wp2_with fail
      refine (sameYes _ _ _ _ _ _ _ _ hr1 hr2).mono ?_
      rintro e w4 ⟨rfl, rfl⟩
      clear hr1 hr2
      go_wp2
      go_ret
      exact ⟨rfl, hb⟩
end Go.Proofs.Ytaedbgdjjnkloaa
