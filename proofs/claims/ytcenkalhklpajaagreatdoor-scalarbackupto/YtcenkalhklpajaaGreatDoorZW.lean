/-
  P3.6 without the document's own bytes, where what comes in is of bulk at most 1048576: for every kind, value and bytes behind the law ScalarBack returns true: Get of Put is the value, Parse of Text is the value, each kind's name is its own, and the arguments stay; the variables of Go's library that it reads start as the program's text lays them.
-/
import Derived.Test.YtcenkalhklpajaaGreatDoorCUU
import Derived.Test.YtcenkalhklpajaaGreatDoorSV
import Derived.Test.YtcenkalhklpajaaGreatDoorCUQ
import Derived.Test.YtcenkalhklpajaaGreatDoorCards
import Derived.Test.YtcenkalhklpajaaGreatDoorTie
import Derived.WalkKit
import Derived.ProofKit
import Derived.OpenShut
import Derived.ShutString
import Derived.ChangeOld
import Derived.Below
import Derived.Deep.DeepHandedRow
import Derived.Deep.DeepWitnessRowRef
namespace Go.Proofs.YtcenkalhklpajaaGreatDoor.scalarBack
open Go.ChangeShapes Go.WideShapes Go.ChangeAt Go.RowKit
set_option maxRecDepth 1000000
set_option linter.unusedVariables false

theorem own : ownKnob Tryz.prog.godebug = none := by kernel_rfl
theorem laidOut : laidOutB Tryz.prog = true := by kernel_rfl

set_option maxRecDepth 100000 in
theorem contract (H : Type) (enc : TypeId × Value → H) (W : World) (base : Nat) (args : Array Value) (ds gs : List (DataW H)) (before : List MemPlace)
    (hval : ∀ (j : Nat) t v, Tryz.f5.params[j]? = some t → args[j]? = some v → Value.okWide Tryz.prog W .any base t v)
    (hW : DataW.Whole enc Tryz.prog Tryz.f5.params.toList Rows.scalarBackSpec.vars false W args.toList ds gs before) (hk : Rows.uptoSmall H (ds ++ gs) = true) (hL : laidMet Tryz.prog laidL W) :
    Calls Tryz.prog 5 args W fun e W' => ∃ v, e = .returned v ∧ Rows.scalarBackSpec.post enc Tryz.prog Tryz.f5 false true false false W args v W' := by
  have hW' := hW
  obtain ⟨p, q, hA0, hV, rfl, hfz, hnd⟩ := hW
  have hA : DataW.TrodAll enc Tryz.prog W 0 (fun _ => true) true Tryz.f5.params.toList args.toList ds p := hA0
  rw [Tryz.params5] at hA hval
  obtain ⟨v0, vs0, d0, ds0, p0, q0, hargs, rfl, rfl, h0, r0⟩ := trodAll_cons hA
  obtain ⟨v1, vs1, d1, ds1, p1, q1, rfl, rfl, rfl, h1, r1⟩ := trodAll_cons r0
  obtain ⟨v2, vs2, d2, ds2, p2, q2, rfl, rfl, rfl, h2, r2⟩ := trodAll_cons r1
  obtain ⟨rfl, rfl, rfl⟩ := trodAll_nil r2
  obtain rfl : args = #[v0, v1, v2] := by cases args; simp_all
  obtain ⟨rfl, rfl⟩ := trodVars_none hV
  have small := small_le hk
  simp only [List.cons_append, List.nil_append, Rows.uptoBulkAll] at small
  obtain ⟨a0, rfl, rfl, rfl, w0⟩ := open_int Tryz.underlying3 (hval 0 3 v0 rfl rfl) h0
  have k1 := h1
  have lt1 : ∀ x ∈ p1, x.block < W.heap.size := by obtain ⟨m, hm⟩ := k1; exact DataW.trod_lt m _ _ _ hm
  obtain ⟨cs1, rfl, hsz1⟩ := okWide_struct Tryz.underlying33 (hval 1 33 v1 rfl rfl)
  obtain ⟨e10, e11, e12, rfl⟩ := Joins.array3 (hsz1.trans Tryz.cells33)
  obtain ⟨n1, a1, len1, cap1, x1, m1, lm1, cm1, hr1, hn1, hm1, s1, rfl, rfl, rfl⟩ : ∃ n a len cap xs am lm cm, Reads W a len cap xs ∧ (0 ≤ n ∧ n < 18446744073709551616) ∧ lm ≤ 9223372036854775807 ∧ len + 4 ≤ Rows.uptoBulk d1 ∧ e10 = .int .u64 n ∧ e11 = .slice a len cap ∧ e12 = .slice am lm cm := by
    obtain ⟨fuel, hf⟩ := h1
    have hf2 : DataW.trod enc Tryz.prog W 0 (fun _ => true) true fuel 33 [e10, e11, e12] = some (d1, p1) := by simpa [Value.cells] using hf
    obtain ⟨n, a, len, cap, xs, am, lm, cm, g0, g1, g2, hr, hn, hm, hs, _⟩ := val_open hf2
    exact ⟨n, a, len, cap, xs, am, lm, cm, hr, hn, hm, hs, g0, g1, g2⟩
  have k2 := h2
  have lt2 : ∀ x ∈ p2, x.block < W.heap.size := by obtain ⟨m, hm⟩ := k2; exact DataW.trod_lt m _ _ _ hm
  obtain ⟨a2, len2, cap2, x2, hr2, s2, rfl⟩ : ∃ a len cap xs, Reads W a len cap xs ∧ len + 1 ≤ Rows.uptoBulk d2 ∧ v2 = .slice a len cap := by
    obtain ⟨a', l', c', rfl⟩ := okWide_slice Tryz.underlying27 (hval 2 27 v2 rfl rfl)
    obtain ⟨fuel, hf⟩ := h2
    obtain ⟨a, len, cap, xs, g0, hr, hs⟩ := bytes_open (v := .slice a' l' c') (y := (d2, p2)) (by simpa [Value.cells] using hf)
    exact ⟨a, len, cap, xs, hr, hs, g0⟩
  clear hA0
  refine (scalarBackW a0 n1 a1 m1 a2 len1 cap1 lm1 cm1 len2 cap2 x1 x2 W hn1.1 hn1.2 hr1 hr2 hm1 (by omega) (by omega) (laid_all hL)).mono fun e W' ⟨he, bel⟩ => ?_
  subst he
  exact ⟨_, rfl, _, _, _, [], _, [], hW', trodAll_mk1 (shut_bool Tryz.underlying4 _), (trodAll_cons_mk (shut_int Tryz.underlying3 w0) (trodAll_cons_mk (Below.trod laidOut (by kernel_rfl) (of_decide_eq_true (by kernel_rfl)) k1 bel lt1) (trodAll_cons_mk (Below.trod laidOut (by kernel_rfl) (of_decide_eq_true (by kernel_rfl)) k2 bel lt2) trodAll_mk0))), rfl, bel.frame _, fun h => by cases h⟩
theorem reads (os : Os) (H : Type) (enc : TypeId × Value → H) : ∃ places, DataW.whole enc Tryz.prog ((laidWorld os).forCall (fun _ _ => 0) ⟨#[], #[.int .i64 0, .agg #[.int .u64 0, .slice none 0 0, .slice none 0 0], .slice none 0 0], []⟩).memory Tryz.f5.params.toList Rows.scalarBackSpec.vars false (Array.toList #[.int .i64 0, .agg #[.int .u64 0, .slice none 0 0, .slice none 0 0], .slice none 0 0]) 8 = some ([.lit (.int .i64 0), .agg [.lit (.int .u64 0), .nil, .nil], .nil], [], places) :=
  ⟨[], by kernel_rfl⟩

set_option maxRecDepth 100000 in
theorem lifted (os : Os) (started : os.Started) (H : Type) (enc : TypeId × Value → H) (F : Stop.Interp) :
    ReturnsInHanded {} Tryz.checked os 5 .any ((Rows.OpenSpec.upto Rows.scalarBackSpec).preRow enc Tryz.prog Tryz.f5 Rows.scalarBackUptoRow.domain false Rows.scalarBackUptoRow.laid) (((Rows.OpenSpec.upto Rows.scalarBackSpec).at F).post enc Tryz.prog Tryz.f5 false true false false) := by
  obtain ⟨places, hx⟩ := reads os H enc
  refine returnsInHanded_of_row (C := Tryz.checked) (s := Rows.OpenSpec.upto Rows.scalarBackSpec) own started (by kernel_rfl) Tryz.func5
    (witness_row_atRef (enc := enc) (C := Tryz.checked) false (laidWorld os) #[.int .i64 0, .agg #[.int .u64 0, .slice none 0 0, .slice none 0 0], .slice none 0 0] rfl (by kernel_rfl) (by kernel_rfl) (by kernel_rfl)
      (OpenSpec.preRow_of_cond 8 hx (by kernel_rfl) (fun k hk => by cases hk; kernel_rfl) (by kernel_rfl) (laid_met os _))) ?_
  intro W base args ds gs before hval hW _ hcond _ hL _ _
  exact contract H enc W base args ds gs before hval hW (hcond _ rfl) (laid_plain hL)

theorem said : Rows.ScalarBackUptoSaid :=
  OpenClaim.holds_of_cond 5 Tryz.f5 rfl rfl rfl rfl rfl rfl rfl ⟨rfl, rfl, rfl, rfl, rfl⟩ rfl rfl rfl rfl rfl (by kernel_rfl) Tryz.func5 (by kernel_rfl)
    (of_decide_eq_true (by kernel_rfl)) (by unfold Func.isWrapper; first | (rw [if_pos (by decide +kernel)]; kernel_rfl) | (rw [if_neg (by decide +kernel)]; exact ⟨rfl, rfl⟩))
    (fun os started H enc _ F => by rw [OpenClaim.pre_eq_preRow]; exact lifted os started H enc F)

theorem plain (f : FuncId) (fn : Func) (hf : Tryz.pinned.checked.prog.funcNamed Rows.scalarBackUptoRow.func = some f) (hfn : Tryz.pinned.checked.prog.funcs[f]? = some fn) :
    true = Tryz.pinned.checked.prog.looks [] ∧ ∀ (j : Nat) t, fn.params[j]? = some t → Tryz.pinned.checked.prog.wantsStandIn t = false := by
  obtain rfl : f = 5 := Option.some.inj ((show Tryz.prog.funcNamed Rows.scalarBackUptoRow.func = some 5 by kernel_rfl).symm.trans hf) |>.symm
  obtain rfl : fn = Tryz.f5 := (Option.some.inj (Tryz.func5.symm.trans hfn)).symm
  refine ⟨by kernel_rfl, fun j t ht => ?_⟩
  rw [Tryz.params5] at ht
  have hm := Array.mem_of_getElem? ht
  simp at hm
  rcases hm with rfl | rfl | rfl
  · exact (show Tryz.prog.wantsStandIn 3 = false by kernel_rfl)
  · exact (show Tryz.prog.wantsStandIn 33 = false by kernel_rfl)
  · exact (show Tryz.prog.wantsStandIn 27 = false by kernel_rfl)

theorem proved : Rows.ScalarBackUptoCardSaid :=
  Claim7.holds_tied_plain_at .later [] _ _ _ _ said (fun _ h => by cases h) (by kernel_rfl) (fun _ h => by cases h) scalarBackUpto_row_tie rfl ⟨rfl, rfl⟩ (by kernel_rfl) rfl plain (by kernel_rfl)
end Go.Proofs.YtcenkalhklpajaaGreatDoor.scalarBack
namespace Go.Proofs.YtcenkalhklpajaaGreatDoor
theorem scalarBackUptoCard_holds : Rows.ScalarBackUptoCardSaid := scalarBack.proved
#print axioms scalarBackUptoCard_holds
end Go.Proofs.YtcenkalhklpajaaGreatDoor
