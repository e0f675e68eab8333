/-
  A slice that came in can be read; the walk of the law WireVarints.
-/
import Derived.Test.YtaedbgdjjnkloaaWD
import Derived.OpenShut
namespace Go.Proofs.Ytaedbgdjjnkloaa
open Go.RowKit

/-- WHAT THE WALK IS TOLD OF A SLICE OF INTEGERS THAT CAME IN: it is nil; or it leads to a row of 'cap' cells, the numbers 'zs' (the first 'len' are its elements, the rest its spare room), each fitting its kind. -/
def IsRow (k : IntKind) (w : World) (a : Option Addr) (len cap : Nat) (zs : List Int) : Prop :=
  (a = none ∧ len = 0 ∧ cap = 0 ∧ zs = []) ∨
  ∃ x, a = some x ∧ len ≤ cap ∧ cap ≤ maxLen ∧ zs.length = cap ∧ (∀ i, i < zs.length → w.cell? (x.add i) = some (.int k (zs.getD i 0))) ∧ ∀ n ∈ zs, (Lit.int k n).wf = true


theorem isRow_reads {w : World} {a : Option Addr} {len cap : Nat} {zs : List Int} (h : IsRow .u8 w a len cap zs) : Reads w a len cap (zs.take len) := by
  rcases h with ⟨rfl, rfl, rfl, rfl⟩ | ⟨x, rfl, hl, hm, hz, hcell, hwz⟩
  · exact ⟨rfl, Nat.le_refl _, by omega, by simp, .inl ⟨rfl, fun _ => rfl⟩⟩
  · have hb : ∀ x ∈ zs.take len, 0 ≤ x ∧ x ≤ 255 := fun x hx => bounds_u8 (hwz x (List.mem_of_mem_take hx))
    refine ⟨by simp; omega, hl, by unfold maxLen at hm; omega, bd_get hb, ?_⟩
    by_cases h0 : len = 0
    · exact .inl ⟨h0, fun e => by cases e⟩
    · obtain ⟨b, off, spot⟩ := x
      have hc := hcell 0 (by omega)
      have hspot : spot = none := by simpa [Addr.add] using World.cell?_spot hc
      subst hspot
      refine .inr ⟨b, off, rfl, fun i hi => ?_⟩
      have hadd : (⟨b, off, none⟩ : Addr).add i = ⟨b, off + i, none⟩ := by unfold Addr.add; split <;> simp_all
      have := hcell i (by omega)
      rw [hadd] at this
      rw [this]
      simp [hi]

set_option maxHeartbeats 1000000 in
theorem varintsW (n : Int) (a1 : Option Addr) (len cap : Nat) (zs : List Int) (p : Int) (w : World) (hn : 0 ≤ n ∧ n ≤ 18446744073709551615) (hrow : IsRow .u8 w a1 len cap zs) (hp : -9223372036854775808 ≤ p ∧ p ≤ 9223372036854775807) :
    Calls Try.prog 4 #[.int .u64 n, .slice a1 len cap, .int .i64 p] w fun e w' => e = .returned (.bool true) ∧ Below w.heap.size w w' := by
  have hr := isRow_reads hrow
  clear hrow
  generalize zs.take len = xs at hr
  have hlm : len ≤ 9223372036854775807 := Nat.le_trans hr.le hr.max
  obtain ⟨hn0, hn1⟩ := hn
  have hz : -9223372036854775808 ≤ wrap64 n ∧ wrap64 n ≤ 9223372036854775807 := by unfold wrap64; omega
  by_cases hin : 0 ≤ p ∧ p ≤ len
  · obtain ⟨q, rfl⟩ := Int.eq_ofNat_of_zero_le hin.1
    have hq : q ≤ len := by omega
    have hq1 : decide ((q : Int) < 0) = false := by simp
    have hq2 : decide ((len : Int) < q) = false := by simp; omega
    go_enter Try.func4, Try.ntmps4
    go_wp2_with fail
    refine (getvW _ _ _ q xs _ hr hq).mono ?_
    rintro e w' ⟨rfl, rfl⟩
    generalize hg : gv xs q = g
    have HG : Hid (gv xs q = g) := hg
    clear hg
    go_wp2_with fail
    refine (putvRr n _ hn0 (by omega)).mono ?_
    rintro e w1 ⟨b1, c1, rfl, hr1, hb1⟩
    go_wp2_with fail
    refine (awakeW _).mono ?_
    rintro e w2 ⟨rfl, hb2⟩
    have hr1 := reads_kept hr1 hb2
    have hb := below_trans hb1 hb2
    clear hb1 hb2
    go_wp2_with fail
    refine (putvWr n _ hn0 (by omega)).mono ?_
    rintro e w3 ⟨b2, c2, rfl, hr2, hb3⟩
    have hr1 := reads_kept hr1 hb3
    have hb := below_trans hb hb3
    clear hb3
    go_wp2_with fail
    refine (sameYes _ _ _ _ _ _ _ _ hr2 hr1).mono ?_
    rintro e w4 ⟨rfl, rfl⟩
    clear hr1 hr2
    go_wp2_with fail
    refine (sizeW n _ hn0 (by omega)).mono ?_
    rintro e w4 ⟨rfl, rfl⟩
    go_wp2_with fail
    refine (zigW _ _ hz.1 hz.2).mono ?_
    rintro e w4 ⟨rfl, rfl⟩
    go_wp2_with fail
    refine (zigR _ _ hz.1 hz.2).mono ?_
    rintro e w4 ⟨rfl, rfl⟩
    go_wp2_with fail
    refine (zagW n _ hn0 (by omega)).mono ?_
    rintro e w4 ⟨rfl, rfl⟩
    go_wp2_with fail
    refine (zagR n _ hn0 (by omega)).mono ?_
    rintro e w4 ⟨rfl, rfl⟩
    go_wp2_with fail
    refine (getvR _ _ _ q xs _ (reads_kept hr hb) hq).mono ?_
    rintro e w4 ⟨rfl, rfl⟩
    rw [HG.out]
    go_wp2
    go_ret
    exact ⟨by simp, hb⟩
  · have hout : p < 0 ∨ (len : Int) < p := by omega
    by_cases hp0 : p < 0
    · have hq1 : decide (p < 0) = true := by simpa using hp0
      go_enter Try.func4, Try.ntmps4
      go_wp2_with fail
      refine (getvOut _ _ _ p _ hlm hout).mono ?_
      rintro e w' ⟨rfl, rfl⟩
      go_wp2_with fail
      refine (putvRr n _ hn0 (by omega)).mono ?_
      rintro e w1 ⟨b1, c1, rfl, hr1, hb1⟩
      go_wp2_with fail
      refine (awakeW _).mono ?_
      rintro e w2 ⟨rfl, hb2⟩
      have hr1 := reads_kept hr1 hb2
      have hb := below_trans hb1 hb2
      clear hb1 hb2
      go_wp2_with fail
      refine (putvWr n _ hn0 (by omega)).mono ?_
      rintro e w3 ⟨b2, c2, rfl, hr2, hb3⟩
      have hr1 := reads_kept hr1 hb3
      have hb := below_trans hb hb3
      clear hb3
      go_wp2_with fail
      refine (sameYes _ _ _ _ _ _ _ _ hr2 hr1).mono ?_
      rintro e w4 ⟨rfl, rfl⟩
      clear hr1 hr2
      go_wp2_with fail
      refine (sizeW n _ hn0 (by omega)).mono ?_
      rintro e w4 ⟨rfl, rfl⟩
      go_wp2_with fail
      refine (zigW _ _ hz.1 hz.2).mono ?_
      rintro e w4 ⟨rfl, rfl⟩
      go_wp2_with fail
      refine (zigR _ _ hz.1 hz.2).mono ?_
      rintro e w4 ⟨rfl, rfl⟩
      go_wp2_with fail
      refine (zagW n _ hn0 (by omega)).mono ?_
      rintro e w4 ⟨rfl, rfl⟩
      go_wp2_with fail
      refine (zagR n _ hn0 (by omega)).mono ?_
      rintro e w4 ⟨rfl, rfl⟩
      go_wp2
      go_ret
      exact ⟨rfl, hb⟩
    · have hq1 : decide (p < 0) = false := by simpa using hp0
      have hq2 : decide ((len : Int) < p) = true := by simp; omega
      go_enter Try.func4, Try.ntmps4
      go_wp2_with fail
      refine (getvOut _ _ _ p _ hlm hout).mono ?_
      rintro e w' ⟨rfl, rfl⟩
      go_wp2_with fail
      refine (putvRr n _ hn0 (by omega)).mono ?_
      rintro e w1 ⟨b1, c1, rfl, hr1, hb1⟩
      go_wp2_with fail
      refine (awakeW _).mono ?_
      rintro e w2 ⟨rfl, hb2⟩
      have hr1 := reads_kept hr1 hb2
      have hb := below_trans hb1 hb2
      clear hb1 hb2
      go_wp2_with fail
      refine (putvWr n _ hn0 (by omega)).mono ?_
      rintro e w3 ⟨b2, c2, rfl, hr2, hb3⟩
      have hr1 := reads_kept hr1 hb3
      have hb := below_trans hb hb3
      clear hb3
      go_wp2_with fail
      refine (sameYes _ _ _ _ _ _ _ _ hr2 hr1).mono ?_
      rintro e w4 ⟨rfl, rfl⟩
      clear hr1 hr2
      go_wp2_with fail
      refine (sizeW n _ hn0 (by omega)).mono ?_
      rintro e w4 ⟨rfl, rfl⟩
      go_wp2_with fail
      refine (zigW _ _ hz.1 hz.2).mono ?_
      rintro e w4 ⟨rfl, rfl⟩
      go_wp2_with fail
      refine (zigR _ _ hz.1 hz.2).mono ?_
      rintro e w4 ⟨rfl, rfl⟩
      go_wp2_with fail
      refine (zagW n _ hn0 (by omega)).mono ?_
      rintro e w4 ⟨rfl, rfl⟩
      go_wp2_with fail
      refine (zagR n _ hn0 (by omega)).mono ?_
      rintro e w4 ⟨rfl, rfl⟩
      go_wp2
      go_ret
      exact ⟨rfl, hb⟩
end Go.Proofs.Ytaedbgdjjnkloaa
