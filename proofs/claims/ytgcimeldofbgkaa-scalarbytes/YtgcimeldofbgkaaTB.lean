/-
  P3.2: for every kind, value, bytes and place the law ScalarBytes returns true: Put and Get answer as chapter 3 says, and the arguments stay.
-/
import Derived.Test.YtgcimeldofbgkaaSO
import Derived.Test.YtgcimeldofbgkaaSV
import Derived.WalkKit
import Derived.ProofKit
import Derived.OpenShut
import Derived.ShutString
import Derived.ChangeOld
import Derived.Below
import Derived.SizedLaws
namespace Go.Proofs.Ytgcimeldofbgkaa.scalarBytes
open Go.ChangeShapes Go.WideShapes Go.ChangeAt Go.RowKit
set_option maxRecDepth 1000000
set_option linter.unusedVariables false

theorem own : ownKnob Try.prog.godebug = none := by kernel_rfl
theorem laidOut : laidOutB Try.prog = true := by kernel_rfl

theorem lifted (os : Os) (started : os.Started) (H : Type) (enc : TypeId × Value → H) :
    ReturnsInHanded {} Try.checked os 4 .any (Rows.scalarBytesSpec.pre6 enc Try.prog Try.f4 Rows.scalarBytesRow.domain false) (Rows.scalarBytesSpec.post enc Try.prog Try.f4 false true false false) := by
  refine returnsInHanded_of_change_sized (C := Try.checked) own started (by kernel_rfl) Try.func4
    (ChangeSpec.witness6 (enc := enc) (C := Try.checked) false ⟨#[], #[.int .i64 0, .agg #[.int .u64 0, .slice none 0 0, .slice none 0 0], .slice none 0 0, .int .i64 0], []⟩ 8 (by kernel_rfl) (by kernel_rfl) (by kernel_rfl) (by kernel_rfl)) ?_
  intro W base args ds gs before hval0 hW hcnd hsz0 _
  have hval : ∀ (j : Nat) t v, Try.f4.params[j]? = some t → args[j]? = some v → Value.okWide Try.prog W .any base t v := hval0
  have hW' := hW
  obtain ⟨p, q, hA0, hV, rfl, hfz, hnd⟩ := hW
  have hA : DataW.TrodAll enc Try.prog W 0 (fun _ => true) true Try.f4.params.toList args.toList ds p := hA0
  have hsz : (DataW.weightsEach Try.prog (Try.f4.params.toList ++ Rows.scalarBytesSpec.plain.varTypes Try.prog) (ds ++ gs)).all (· ≤ reachBytes) = true := hsz0
  rw [Try.params4] at hA hval hsz
  obtain ⟨v0, vs0, d0, ds0, p0, q0, hargs, rfl, rfl, h0, r0⟩ := trodAll_cons hA
  obtain ⟨v1, vs1, d1, ds1, p1, q1, rfl, rfl, rfl, h1, r1⟩ := trodAll_cons r0
  obtain ⟨v2, vs2, d2, ds2, p2, q2, rfl, rfl, rfl, h2, r2⟩ := trodAll_cons r1
  obtain ⟨v3, vs3, d3, ds3, p3, q3, rfl, rfl, rfl, h3, r3⟩ := trodAll_cons r2
  obtain ⟨rfl, rfl, rfl⟩ := trodAll_nil r3
  obtain rfl : args = #[v0, v1, v2, v3] := by cases args; simp_all
  obtain ⟨rfl, rfl⟩ := trodVars_none hV
  obtain ⟨a0, rfl, rfl, rfl, w0⟩ := open_int Try.underlying3 (hval 0 3 v0 rfl rfl) h0
  have k1 := h1
  have lt1 : ∀ x ∈ p1, x.block < W.heap.size := by obtain ⟨m, hm⟩ := k1; exact DataW.trod_lt m _ _ _ hm
  have z1 := each_all hsz (j := 1) (t := 26) (d := d1) rfl rfl
  obtain ⟨cs1, rfl, hsz1⟩ := okWide_struct Try.underlying26 (hval 1 26 v1 rfl rfl)
  obtain ⟨e10, e11, e12, rfl⟩ := Joins.array3 (hsz1.trans Try.cells26)
  obtain ⟨n1, a1, len1, cap1, x1, m1, lm1, cm1, hr1, hn1, hm1, s1, rfl, rfl, rfl⟩ : ∃ n a len cap xs am lm cm, Reads W a len cap xs ∧ (0 ≤ n ∧ n < 18446744073709551616) ∧ lm ≤ 9223372036854775807 ∧ len ≤ 140737488351232 ∧ e10 = .int .u64 n ∧ e11 = .slice a len cap ∧ e12 = .slice am lm cm := by
    obtain ⟨fuel, hf⟩ := h1
    have hf2 : DataW.trod enc Try.prog W 0 (fun _ => true) true fuel 26 [e10, e11, e12] = some (d1, p1) := by simpa [Value.cells] using hf
    obtain ⟨n, a, len, cap, xs, am, lm, cm, g0, g1, g2, hr, hn, hm, _, hs⟩ := val_open hf2
    exact ⟨n, a, len, cap, xs, am, lm, cm, hr, hn, hm, hs z1, g0, g1, g2⟩
  have k2 := h2
  have lt2 : ∀ x ∈ p2, x.block < W.heap.size := by obtain ⟨m, hm⟩ := k2; exact DataW.trod_lt m _ _ _ hm
  have z2 := each_all hsz (j := 2) (t := 23) (d := d2) rfl rfl
  obtain ⟨a2, len2, cap2, x2, hr2, s2, rfl⟩ : ∃ a len cap xs, Reads W a len cap xs ∧ len ≤ 140737488351232 ∧ v2 = .slice a len cap := by
    obtain ⟨a', l', c', rfl⟩ := okWide_slice Try.underlying23 (hval 2 23 v2 rfl rfl)
    obtain ⟨fuel, hf⟩ := h2
    obtain ⟨a, len, cap, xs, g0, hr, _, hs⟩ := bytes_sized (v := .slice a' l' c') (y := (d2, p2)) (by simpa [Value.cells] using hf)
    exact ⟨a, len, cap, xs, hr, hs z2, g0⟩
  obtain ⟨a3, rfl, rfl, rfl, w3⟩ := open_int Try.underlying3 (hval 3 3 v3 rfl rfl) h3
  clear hA0 hval0 hsz0
  refine (scalarBytesW a0 n1 a3 a1 m1 a2 len1 cap1 lm1 cm1 len2 cap2 x1 x2 W hn1.1 hn1.2 hr1 hr2 hm1 (by omega) (by omega)).mono fun e W' ⟨he, bel⟩ => ?_
  subst he
  exact ⟨_, rfl, _, _, _, [], _, [], hW', trodAll_mk1 (shut_bool Try.underlying4 _), (trodAll_cons_mk (shut_int Try.underlying3 w0) (trodAll_cons_mk (Below.trod laidOut (by kernel_rfl) (of_decide_eq_true (by kernel_rfl)) k1 bel lt1) (trodAll_cons_mk (Below.trod laidOut (by kernel_rfl) (of_decide_eq_true (by kernel_rfl)) k2 bel lt2) (trodAll_cons_mk (shut_int Try.underlying3 w3) trodAll_mk0)))), rfl, bel.frame _, fun h => by cases h⟩

theorem over : Rows.scalarBytesRow.holds Try.pinned (OpenSpec.ofChange Rows.scalarBytesSpec) :=
  OpenClaim.holds_of_wide 4 Try.f4 rfl rfl rfl rfl rfl rfl rfl ⟨rfl, rfl, rfl, rfl, rfl⟩ rfl rfl rfl rfl rfl (by kernel_rfl) Try.func4 (by kernel_rfl)
    (of_decide_eq_true (by kernel_rfl)) (by unfold Func.isWrapper; first | (rw [if_pos (by decide +kernel)]; kernel_rfl) | (rw [if_neg (by decide +kernel)]; exact ⟨rfl, rfl⟩))
    (fun os started H enc _ => lifted os started H enc)

theorem proved : Rows.ScalarBytesSaid := over
end Go.Proofs.Ytgcimeldofbgkaa.scalarBytes
namespace Go.Proofs.Ytgcimeldofbgkaa
theorem scalarBytes_holds : Rows.ScalarBytesSaid := scalarBytes.proved
#print axioms scalarBytes_holds
end Go.Proofs.Ytgcimeldofbgkaa
