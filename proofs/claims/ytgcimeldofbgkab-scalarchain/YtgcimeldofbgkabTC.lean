/-
  P3.6: for every kind and any three values the law ScalarChain returns true: Compare is an order, and the arguments stay.
-/
import Derived.Test.YtgcimeldofbgkabSW
import Derived.Test.YtgcimeldofbgkabSV
import Derived.WalkKit
import Derived.ProofKit
import Derived.OpenShut
import Derived.ShutString
import Derived.ChangeOld
import Derived.Below
import Derived.SizedLaws
namespace Go.Proofs.Ytgcimeldofbgkab.scalarChain
open Go.ChangeShapes Go.WideShapes Go.ChangeAt Go.RowKit
set_option maxRecDepth 1000000
set_option linter.unusedVariables false

theorem own : ownKnob Try.prog.godebug = none := by kernel_rfl
theorem laidOut : laidOutB Try.prog = true := by kernel_rfl

theorem lifted (os : Os) (started : os.Started) (H : Type) (enc : TypeId × Value → H) :
    ReturnsInHanded {} Try.checked os 3 .any (Rows.scalarChainSpec.pre6 enc Try.prog Try.f3 Rows.scalarChainRow.domain false) (Rows.scalarChainSpec.post enc Try.prog Try.f3 false true false false) := by
  refine returnsInHanded_of_change_sized (C := Try.checked) own started (by kernel_rfl) Try.func3
    (ChangeSpec.witness6 (enc := enc) (C := Try.checked) false ⟨#[], #[.int .i64 0, .agg #[.int .u64 0, .slice none 0 0, .slice none 0 0], .agg #[.int .u64 0, .slice none 0 0, .slice none 0 0], .agg #[.int .u64 0, .slice none 0 0, .slice none 0 0]], []⟩ 8 (by kernel_rfl) (by kernel_rfl) (by kernel_rfl) (by kernel_rfl)) ?_
  intro W base args ds gs before hval0 hW hcnd hsz0 _
  have hval : ∀ (j : Nat) t v, Try.f3.params[j]? = some t → args[j]? = some v → Value.okWide Try.prog W .any base t v := hval0
  have hW' := hW
  obtain ⟨p, q, hA0, hV, rfl, hfz, hnd⟩ := hW
  have hA : DataW.TrodAll enc Try.prog W 0 (fun _ => true) true Try.f3.params.toList args.toList ds p := hA0
  have hsz : (DataW.weightsEach Try.prog (Try.f3.params.toList ++ Rows.scalarChainSpec.plain.varTypes Try.prog) (ds ++ gs)).all (· ≤ reachBytes) = true := hsz0
  rw [Try.params3] at hA hval hsz
  obtain ⟨v0, vs0, d0, ds0, p0, q0, hargs, rfl, rfl, h0, r0⟩ := trodAll_cons hA
  obtain ⟨v1, vs1, d1, ds1, p1, q1, rfl, rfl, rfl, h1, r1⟩ := trodAll_cons r0
  obtain ⟨v2, vs2, d2, ds2, p2, q2, rfl, rfl, rfl, h2, r2⟩ := trodAll_cons r1
  obtain ⟨v3, vs3, d3, ds3, p3, q3, rfl, rfl, rfl, h3, r3⟩ := trodAll_cons r2
  obtain ⟨rfl, rfl, rfl⟩ := trodAll_nil r3
  obtain rfl : args = #[v0, v1, v2, v3] := by cases args; simp_all
  obtain ⟨rfl, rfl⟩ := trodVars_none hV
  obtain ⟨a0, rfl, rfl, rfl, w0⟩ := open_int Try.underlying3 (hval 0 3 v0 rfl rfl) h0
  have k1 := h1
  have lt1 : ∀ x ∈ p1, x.block < W.heap.size := by obtain ⟨m, hm⟩ := k1; exact DataW.trod_lt m _ _ _ hm
  have z1 := each_all hsz (j := 1) (t := 26) (d := d1) rfl rfl
  obtain ⟨cs1, rfl, hsz1⟩ := okWide_struct Try.underlying26 (hval 1 26 v1 rfl rfl)
  obtain ⟨e10, e11, e12, rfl⟩ := Joins.array3 (hsz1.trans Try.cells26)
  obtain ⟨n1, a1, len1, cap1, x1, m1, lm1, cm1, hr1, hn1, hm1, s1, rfl, rfl, rfl⟩ : ∃ n a len cap xs am lm cm, Reads W a len cap xs ∧ (0 ≤ n ∧ n < 18446744073709551616) ∧ lm ≤ 9223372036854775807 ∧ len ≤ 140737488351232 ∧ e10 = .int .u64 n ∧ e11 = .slice a len cap ∧ e12 = .slice am lm cm := by
    obtain ⟨fuel, hf⟩ := h1
    have hf2 : DataW.trod enc Try.prog W 0 (fun _ => true) true fuel 26 [e10, e11, e12] = some (d1, p1) := by simpa [Value.cells] using hf
    obtain ⟨n, a, len, cap, xs, am, lm, cm, g0, g1, g2, hr, hn, hm, _, hs⟩ := val_open hf2
    exact ⟨n, a, len, cap, xs, am, lm, cm, hr, hn, hm, hs z1, g0, g1, g2⟩
  have k2 := h2
  have lt2 : ∀ x ∈ p2, x.block < W.heap.size := by obtain ⟨m, hm⟩ := k2; exact DataW.trod_lt m _ _ _ hm
  have z2 := each_all hsz (j := 2) (t := 26) (d := d2) rfl rfl
  obtain ⟨cs2, rfl, hsz2⟩ := okWide_struct Try.underlying26 (hval 2 26 v2 rfl rfl)
  obtain ⟨e20, e21, e22, rfl⟩ := Joins.array3 (hsz2.trans Try.cells26)
  obtain ⟨n2, a2, len2, cap2, x2, m2, lm2, cm2, hr2, hn2, hm2, s2, rfl, rfl, rfl⟩ : ∃ n a len cap xs am lm cm, Reads W a len cap xs ∧ (0 ≤ n ∧ n < 18446744073709551616) ∧ lm ≤ 9223372036854775807 ∧ len ≤ 140737488351232 ∧ e20 = .int .u64 n ∧ e21 = .slice a len cap ∧ e22 = .slice am lm cm := by
    obtain ⟨fuel, hf⟩ := h2
    have hf2 : DataW.trod enc Try.prog W 0 (fun _ => true) true fuel 26 [e20, e21, e22] = some (d2, p2) := by simpa [Value.cells] using hf
    obtain ⟨n, a, len, cap, xs, am, lm, cm, g0, g1, g2, hr, hn, hm, _, hs⟩ := val_open hf2
    exact ⟨n, a, len, cap, xs, am, lm, cm, hr, hn, hm, hs z2, g0, g1, g2⟩
  have k3 := h3
  have lt3 : ∀ x ∈ p3, x.block < W.heap.size := by obtain ⟨m, hm⟩ := k3; exact DataW.trod_lt m _ _ _ hm
  have z3 := each_all hsz (j := 3) (t := 26) (d := d3) rfl rfl
  obtain ⟨cs3, rfl, hsz3⟩ := okWide_struct Try.underlying26 (hval 3 26 v3 rfl rfl)
  obtain ⟨e30, e31, e32, rfl⟩ := Joins.array3 (hsz3.trans Try.cells26)
  obtain ⟨n3, a3, len3, cap3, x3, m3, lm3, cm3, hr3, hn3, hm3, s3, rfl, rfl, rfl⟩ : ∃ n a len cap xs am lm cm, Reads W a len cap xs ∧ (0 ≤ n ∧ n < 18446744073709551616) ∧ lm ≤ 9223372036854775807 ∧ len ≤ 140737488351232 ∧ e30 = .int .u64 n ∧ e31 = .slice a len cap ∧ e32 = .slice am lm cm := by
    obtain ⟨fuel, hf⟩ := h3
    have hf2 : DataW.trod enc Try.prog W 0 (fun _ => true) true fuel 26 [e30, e31, e32] = some (d3, p3) := by simpa [Value.cells] using hf
    obtain ⟨n, a, len, cap, xs, am, lm, cm, g0, g1, g2, hr, hn, hm, _, hs⟩ := val_open hf2
    exact ⟨n, a, len, cap, xs, am, lm, cm, hr, hn, hm, hs z3, g0, g1, g2⟩
  clear hA0 hval0 hsz0
  refine (scalarChainW a0 n1 n2 n3 a1 a2 a3 m1 m2 m3 len1 cap1 len2 cap2 len3 cap3 lm1 lm2 lm3 cm1 cm2 cm3 x1 x2 x3 W hn1 hn2 hn3 hr1 hr2 hr3 hm1 hm2 hm3).mono fun e W' ⟨he, bel⟩ => ?_
  subst he
  exact ⟨_, rfl, _, _, _, [], _, [], hW', trodAll_mk1 (shut_bool Try.underlying4 _), (trodAll_cons_mk (shut_int Try.underlying3 w0) (trodAll_cons_mk (Below.trod laidOut (by kernel_rfl) (of_decide_eq_true (by kernel_rfl)) k1 bel lt1) (trodAll_cons_mk (Below.trod laidOut (by kernel_rfl) (of_decide_eq_true (by kernel_rfl)) k2 bel lt2) (trodAll_cons_mk (Below.trod laidOut (by kernel_rfl) (of_decide_eq_true (by kernel_rfl)) k3 bel lt3) trodAll_mk0)))), rfl, bel.frame _, fun h => by cases h⟩

theorem over : Rows.scalarChainRow.holds Try.pinned (OpenSpec.ofChange Rows.scalarChainSpec) :=
  OpenClaim.holds_of_wide 3 Try.f3 rfl rfl rfl rfl rfl rfl rfl ⟨rfl, rfl, rfl, rfl, rfl⟩ rfl rfl rfl rfl rfl (by kernel_rfl) Try.func3 (by kernel_rfl)
    (of_decide_eq_true (by kernel_rfl)) (by unfold Func.isWrapper; first | (rw [if_pos (by decide +kernel)]; kernel_rfl) | (rw [if_neg (by decide +kernel)]; exact ⟨rfl, rfl⟩))
    (fun os started H enc _ => lifted os started H enc)

theorem proved : Rows.ScalarChainSaid := over
end Go.Proofs.Ytgcimeldofbgkab.scalarChain
namespace Go.Proofs.Ytgcimeldofbgkab
theorem scalarChain_holds : Rows.ScalarChainSaid := scalarChain.proved
#print axioms scalarChain_holds
end Go.Proofs.Ytgcimeldofbgkab
