/-
  EvolveDiffs (P18.1): what the program tells of what changed between two tables, and how bad it is, is what the document says, change by change and in its order, whatever the two tables, where what comes in is of bulk at most 1048576.
-/
import Derived.Test.YtmjgonckadcbkaaGreatDoorCEV34
import Derived.Test.YtmjgonckadcbkaaGreatDoorCards
import Derived.Test.YtmjgonckadcbkaaGreatDoorTie
import Derived.WalkKit
import Derived.ProofKit
import Derived.OpenShut
import Derived.ShutString
import Derived.ChangeOld
import Derived.Below
import Derived.Deep.DeepHandedRow
import Derived.Deep.DeepWitnessRowRef
namespace Go.Proofs.YtmjgonckadcbkaaGreatDoor.evolveDiffs
open Go.ChangeShapes Go.WideShapes Go.ChangeAt Go.RowKit
set_option maxRecDepth 1000000
set_option linter.unusedVariables false
theorem own : ownKnob Tryz.prog.godebug = none := by kernel_rfl
theorem laidOut : laidOutB Tryz.prog = true := by kernel_rfl
set_option maxRecDepth 100000 in
theorem contract (H : Type) (enc : TypeId × Value → H) (W : World) (base : Nat) (args : Array Value) (ds gs : List (DataW H)) (before : List MemPlace)
    (hval : ∀ (j : Nat) t v, Tryz.f3.params[j]? = some t → args[j]? = some v → Value.okWide Tryz.prog W .any base t v)
    (hW : DataW.Whole enc Tryz.prog Tryz.f3.params.toList Rows.evolveDiffsSpec.vars false W args.toList ds gs before) (hk : Rows.uptoSmall H (ds ++ gs) = true) (hL : laidMet Tryz.prog laidL W) (hS : W.ShapedOpen Tryz.prog) :
    Calls Tryz.prog 3 args W fun e W' => ∃ v, e = .returned v ∧ Rows.evolveDiffsSpec.post enc Tryz.prog Tryz.f3 false true false false W args v W' := by
  have hW' := hW
  obtain ⟨p, q, hA0, hV, rfl, hfz, hnd⟩ := hW
  have hA : DataW.TrodAll enc Tryz.prog W 0 (fun _ => true) true Tryz.f3.params.toList args.toList ds p := hA0
  rw [Tryz.params3] at hA hval
  obtain ⟨v0, vs0, d0, ds0, p0, q0, hargs, rfl, rfl, h0, r0⟩ := trodAll_cons hA
  obtain ⟨v1, vs1, d1, ds1, p1, q1, rfl, rfl, rfl, h1, r1⟩ := trodAll_cons r0
  obtain ⟨rfl, rfl, rfl⟩ := trodAll_nil r1
  obtain rfl : args = #[v0, v1] := by cases args; simp_all
  obtain ⟨rfl, rfl⟩ := trodVars_none hV
  have small := small_le hk
  simp only [List.cons_append, List.nil_append, Rows.uptoBulkAll] at small
  have k0 := h0
  have lt0 : ∀ x ∈ p0, x.block < W.heap.size := by obtain ⟨m, hm⟩ := k0; exact DataW.trod_lt m _ _ _ hm
  obtain ⟨cs0, rfl, hsz0⟩ := okWide_struct Tryz.underlying24 (hval 0 24 v0 rfl rfl)
  obtain ⟨e00, rfl⟩ : ∃ e, cs0 = #[e] := by
    obtain ⟨l⟩ := cs0
    have hl : l.length = 1 := hsz0.trans (show Tryz.prog.cellsOf 24 = 1 by kernel_rfl)
    match l, hl with
    | [e], _ => exact ⟨e, rfl⟩
  obtain ⟨a0, c0, l0, hT0, hO0, rfl⟩ : ∃ a c l, TbR W (.slice a l.length c) l ∧ (Rows.uptoBulk d0 ≤ 1048576 → ∀ x ∈ l, OkV x ∧ x.t.name.length < 4000000) ∧ e00 = .slice a l.length c := by
    obtain ⟨fuel, hf⟩ := h0
    have hf2 : DataW.trod enc Tryz.prog W 0 (fun _ => true) true fuel 24 [e00] = some (d0, p0) := by simpa [Value.cells] using hf
    obtain ⟨a, c, l, g0, g1, g2⟩ := tb_open hf2
    exact ⟨a, c, l, g1, g2, g0⟩
  have k1 := h1
  have lt1 : ∀ x ∈ p1, x.block < W.heap.size := by obtain ⟨m, hm⟩ := k1; exact DataW.trod_lt m _ _ _ hm
  obtain ⟨cs1, rfl, hsz1⟩ := okWide_struct Tryz.underlying24 (hval 1 24 v1 rfl rfl)
  obtain ⟨e10, rfl⟩ : ∃ e, cs1 = #[e] := by
    obtain ⟨l⟩ := cs1
    have hl : l.length = 1 := hsz1.trans (show Tryz.prog.cellsOf 24 = 1 by kernel_rfl)
    match l, hl with
    | [e], _ => exact ⟨e, rfl⟩
  obtain ⟨a1, c1, l1, hT1, hO1, rfl⟩ : ∃ a c l, TbR W (.slice a l.length c) l ∧ (Rows.uptoBulk d1 ≤ 1048576 → ∀ x ∈ l, OkV x ∧ x.t.name.length < 4000000) ∧ e10 = .slice a l.length c := by
    obtain ⟨fuel, hf⟩ := h1
    have hf2 : DataW.trod enc Tryz.prog W 0 (fun _ => true) true fuel 24 [e10] = some (d1, p1) := by simpa [Value.cells] using hf
    obtain ⟨a, c, l, g0, g1, g2⟩ := tb_open hf2
    exact ⟨a, c, l, g1, g2, g0⟩
  obtain ⟨m, hm⟩ := maxLen_cell hS
  clear hA0
  refine ((evolveDiffsW W l0 l1 a0 a1 c0 c1 hT0 hT1 (fun x hx => hO0 (by omega) x hx) (fun x hx => hO1 (by omega) x hx) m hm)).mono fun e W' ⟨he, bel⟩ => ?_
  subst he
  exact ⟨_, rfl, _, _, _, [], _, [], hW', trodAll_mk1 (shut_bool Tryz.underlying4 _), (trodAll_cons_mk (Below.trod laidOut (by kernel_rfl) (of_decide_eq_true (by kernel_rfl)) k0 bel lt0) (trodAll_cons_mk (Below.trod laidOut (by kernel_rfl) (of_decide_eq_true (by kernel_rfl)) k1 bel lt1) trodAll_mk0)), rfl, bel.frame _, fun h => by cases h⟩
theorem reads (os : Os) (H : Type) (enc : TypeId × Value → H) : ∃ places, DataW.whole enc Tryz.prog ((laidWorld os).forCall (fun _ _ => 0) ⟨#[], #[.agg #[.slice none 0 0], .agg #[.slice none 0 0]], []⟩).memory Tryz.f3.params.toList Rows.evolveDiffsSpec.vars false (Array.toList #[.agg #[.slice none 0 0], .agg #[.slice none 0 0]]) 8 = some ([.agg [.nil], .agg [.nil]], [], places) :=
  ⟨[], by kernel_rfl⟩
set_option maxRecDepth 100000 in
theorem lifted (os : Os) (started : os.Started) (H : Type) (enc : TypeId × Value → H) (F : Stop.Interp) :
    ReturnsInHanded {} Tryz.checked os 3 .any ((Rows.OpenSpec.upto Rows.evolveDiffsSpec).preRow enc Tryz.prog Tryz.f3 Rows.evolveDiffsUptoRow.domain false Rows.evolveDiffsUptoRow.laid) (((Rows.OpenSpec.upto Rows.evolveDiffsSpec).at F).post enc Tryz.prog Tryz.f3 false true false false) := by
  obtain ⟨places, hx⟩ := reads os H enc
  refine returnsInHanded_of_row (C := Tryz.checked) (s := Rows.OpenSpec.upto Rows.evolveDiffsSpec) own started (by kernel_rfl) Tryz.func3
    (witness_row_atRef (enc := enc) (C := Tryz.checked) false (laidWorld os) #[.agg #[.slice none 0 0], .agg #[.slice none 0 0]] rfl (by kernel_rfl) (by kernel_rfl) (by kernel_rfl)
      (OpenSpec.preRow_of_cond 8 hx (by kernel_rfl) (fun k hk => by cases hk; kernel_rfl) (by kernel_rfl) (laid_met os _))) ?_
  intro W base args ds gs before hval hW _ hcond _ hL hS _
  exact contract H enc W base args ds gs before hval hW (hcond _ rfl) (laid_plain hL) hS
theorem said : Rows.EvolveDiffsUptoSaid :=
  OpenClaim.holds_of_cond 3 Tryz.f3 rfl rfl rfl rfl rfl rfl rfl ⟨rfl, rfl, rfl, rfl, rfl⟩ rfl rfl rfl rfl rfl (by kernel_rfl) Tryz.func3 (by kernel_rfl)
    (of_decide_eq_true (by kernel_rfl)) (by unfold Func.isWrapper; first | (rw [if_pos (by decide +kernel)]; kernel_rfl) | (rw [if_neg (by decide +kernel)]; exact ⟨rfl, rfl⟩))
    (fun os started H enc _ F => by rw [OpenClaim.pre_eq_preRow]; exact lifted os started H enc F)
theorem plain (f : FuncId) (fn : Func) (hf : Tryz.pinned.checked.prog.funcNamed Rows.evolveDiffsUptoRow.func = some f) (hfn : Tryz.pinned.checked.prog.funcs[f]? = some fn) :
    false = Tryz.pinned.checked.prog.looks [] ∧ ∀ (j : Nat) t, fn.params[j]? = some t → Tryz.pinned.checked.prog.wantsStandIn t = false := by
  obtain rfl : f = 3 := Option.some.inj ((show Tryz.prog.funcNamed Rows.evolveDiffsUptoRow.func = some 3 by kernel_rfl).symm.trans hf) |>.symm
  obtain rfl : fn = Tryz.f3 := (Option.some.inj (Tryz.func3.symm.trans hfn)).symm
  refine ⟨by kernel_rfl, fun j t ht => ?_⟩
  rw [Tryz.params3] at ht
  have hm := Array.mem_of_getElem? ht
  simp at hm
  rcases hm with rfl
  · exact (show Tryz.prog.wantsStandIn 24 = false by kernel_rfl)
theorem proved : Rows.EvolveDiffsUptoCardSaid :=
  Claim7.holds_tied_plain_at .later [] _ _ _ _ said (fun _ h => by cases h) (by kernel_rfl) (fun _ h => by cases h) evolveDiffsUpto_row_tie rfl ⟨rfl, rfl⟩ (by kernel_rfl) rfl plain (by kernel_rfl)
end Go.Proofs.YtmjgonckadcbkaaGreatDoor.evolveDiffs
namespace Go.Proofs.YtmjgonckadcbkaaGreatDoor
theorem evolveDiffsUptoCard_holds : Rows.EvolveDiffsUptoCardSaid := evolveDiffs.proved
#print axioms evolveDiffsUptoCard_holds
end Go.Proofs.YtmjgonckadcbkaaGreatDoor
