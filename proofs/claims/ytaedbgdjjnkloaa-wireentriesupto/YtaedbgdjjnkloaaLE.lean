/-
  WireEntriesUpto holds: where what comes in is of bulk at most 1048576, for every entry, every list, every bytes and every place the program's entries answer what the document's do, faults too.
-/
import Derived.Test.YtaedbgdjjnkloaaXE
import Derived.Test.YtaedbgdjjnkloaaXF
import Derived.WalkKit
import Derived.ProofKit
import Derived.OpenShut
import Derived.JoinedCond
import Derived.ChangeOld
import Derived.Below
namespace Go.Proofs.Ytaedbgdjjnkloaa.wireEntries
open Go.ChangeShapes Go.WideShapes Go.ChangeAt Go.RowKit
set_option linter.unusedVariables false

theorem own : ownKnob Try.prog.godebug = none := by kernel_rfl
theorem laidOut : laidOutB Try.prog = true := by kernel_rfl

set_option maxRecDepth 100000 in
theorem contract (H : Type) (enc : TypeId × Value → H) (W : World) (base : Nat) (args : Array Value) (ds gs : List (DataW H)) (before : List MemPlace)
    (hval : ∀ (j : Nat) t v, Try.f7.params[j]? = some t → args[j]? = some v → Value.okWide Try.prog W .any base t v)
    (hW : DataW.Whole enc Try.prog Try.f7.params.toList Rows.wireEntriesSpec.vars false W args.toList ds gs before) (hk : Rows.uptoSmall H (ds ++ gs) = true) :
    Calls Try.prog 7 args W fun e W' => ∃ v, e = .returned v ∧ Rows.wireEntriesSpec.post enc Try.prog Try.f7 false true false false W args v W' := by
  have hW' := hW
  obtain ⟨p, q, hA0, hV, rfl, hfz, hnd⟩ := hW
  have hA : DataW.TrodAll enc Try.prog W 0 (fun _ => true) true Try.f7.params.toList args.toList ds p := hA0
  rw [Try.params7] at hA hval
  obtain ⟨v0, vs0, d0, ds0, p0, q0, hargs, rfl, rfl, h0, r0⟩ := trodAll_cons hA
  obtain ⟨v1, vs1, d1, ds1, p1, q1, rfl, rfl, rfl, h1, r1⟩ := trodAll_cons r0
  obtain ⟨v2, vs2, d2, ds2, p2, q2, rfl, rfl, rfl, h2, r2⟩ := trodAll_cons r1
  obtain ⟨v3, vs3, d3, ds3, p3, q3, rfl, rfl, rfl, h3, r3⟩ := trodAll_cons r2
  obtain ⟨rfl, rfl, rfl⟩ := trodAll_nil r3
  obtain rfl : args = #[v0, v1, v2, v3] := by cases args; simp_all
  obtain ⟨rfl, rfl⟩ := trodVars_none hV
  have small := small_le hk
  simp only [List.cons_append, List.nil_append, Rows.uptoBulkAll] at small
  have k0 := h0
  have lt0 : ∀ x ∈ p0, x.block < W.heap.size := by obtain ⟨m, hm⟩ := k0; exact DataW.trod_lt m _ _ _ hm
  obtain ⟨cs0, rfl, hsz0⟩ := okWide_struct Try.underlying45 (hval 0 45 v0 rfl rfl)
  obtain ⟨e00, e01, e02, e03, rfl⟩ := Joins.array4 (hsz0.trans Try.cells45)
  obtain ⟨num0, kind0, n0, a0, len0, cap0, x0, hr0, hn0, s0, rfl, rfl, rfl, rfl⟩ : ∃ num kind n a len cap xs, Reads W a len cap xs ∧ (0 ≤ n ∧ n ≤ 18446744073709551615) ∧ len + 5 ≤ Rows.uptoBulk d0 ∧ e00 = .int .i64 num ∧ e01 = .int .i64 kind ∧ e02 = .int .u64 n ∧ e03 = .slice a len cap := by
    obtain ⟨fuel, hf⟩ := h0
    have hf2 : DataW.trod enc Try.prog W 0 (fun _ => true) true fuel 45 [e00, e01, e02, e03] = some (d0, p0) := by simpa [Value.cells] using hf
    obtain ⟨num, kind, n, a, len, cap, xs, g0, g1, g2, g3, hr, hn, hs⟩ := entry_open hf2
    exact ⟨num, kind, n, a, len, cap, xs, hr, hn, hs, g0, g1, g2, g3⟩
  have k1 := h1
  have lt1 : ∀ x ∈ p1, x.block < W.heap.size := by obtain ⟨m, hm⟩ := k1; exact DataW.trod_lt m _ _ _ hm
  obtain ⟨a1, len1, cap1, x1, hr1, bk1, s1, rfl⟩ : ∃ a len cap es, ReadsL W a len cap es ∧ bulk es ≤ 20 * Rows.uptoBulk d1 ∧ len + 1 ≤ Rows.uptoBulk d1 ∧ v1 = .slice a len cap := by
    obtain ⟨a', l', c', rfl⟩ := okWide_slice Try.underlying48 (hval 1 48 v1 rfl rfl)
    obtain ⟨fuel, hf⟩ := h1
    obtain ⟨a, len, cap, es, g0, hr, hb, hs⟩ := list_open (v := .slice a' l' c') (y := (d1, p1)) (by simpa [Value.cells] using hf)
    exact ⟨a, len, cap, es, hr, hb, hs, g0⟩
  have k2 := h2
  have lt2 : ∀ x ∈ p2, x.block < W.heap.size := by obtain ⟨m, hm⟩ := k2; exact DataW.trod_lt m _ _ _ hm
  obtain ⟨a2, len2, cap2, x2, hr2, s2, rfl⟩ : ∃ a len cap xs, Reads W a len cap xs ∧ len + 1 ≤ Rows.uptoBulk d2 ∧ v2 = .slice a len cap := by
    obtain ⟨a', l', c', rfl⟩ := okWide_slice Try.underlying22 (hval 2 22 v2 rfl rfl)
    obtain ⟨fuel, hf⟩ := h2
    obtain ⟨a, len, cap, xs, g0, hr, hs⟩ := bytes_open (v := .slice a' l' c') (y := (d2, p2)) (by simpa [Value.cells] using hf)
    exact ⟨a, len, cap, xs, hr, hs, g0⟩
  obtain ⟨a3, rfl, rfl, rfl, w3⟩ := open_int Try.underlying3 (hval 3 3 v3 rfl rfl) h3
  clear hA0
  refine (entriesW num0 kind0 n0 a0 a1 a2 len0 cap0 len1 cap1 len2 cap2 x0 x2 x1 a3 W hn0.1 hn0.2 hr0 hr1 hr2 (by omega) (by omega) (by omega) (by omega)).mono fun e W' ⟨he, bel⟩ => ?_
  subst he
  exact ⟨_, rfl, _, _, _, [], _, [], hW', trodAll_mk1 (shut_bool Try.underlying4 _), (trodAll_cons_mk (Below.trod laidOut (by kernel_rfl) (of_decide_eq_true (by kernel_rfl)) k0 bel lt0) (trodAll_cons_mk (Below.trod laidOut (by kernel_rfl) (of_decide_eq_true (by kernel_rfl)) k1 bel lt1) (trodAll_cons_mk (Below.trod laidOut (by kernel_rfl) (of_decide_eq_true (by kernel_rfl)) k2 bel lt2) (trodAll_cons_mk (shut_int Try.underlying3 w3) trodAll_mk0)))), rfl, bel.frame _, fun h => by cases h⟩

set_option maxRecDepth 100000 in
theorem lifted (os : Os) (started : os.Started) (H : Type) (enc : TypeId × Value → H) (F : Stop.Interp) :
    ReturnsInHanded {} Try.checked os 7 .any ((Rows.OpenSpec.upto Rows.wireEntriesSpec).pre6 enc Try.prog Try.f7 Rows.wireEntriesUptoRow.domain false) (((Rows.OpenSpec.upto Rows.wireEntriesSpec).at F).post enc Try.prog Try.f7 false true false false) := by
  refine returnsInHanded_of_cond (C := Try.checked) (s := Rows.OpenSpec.upto Rows.wireEntriesSpec) (k := Rows.uptoSmall) rfl own started (by kernel_rfl) Try.func7
    (OpenSpec.witness (enc := enc) (C := Try.checked) (s := Rows.OpenSpec.upto Rows.wireEntriesSpec) (k := Rows.uptoSmall) rfl false ⟨#[], #[.agg #[.int .i64 0, .int .i64 0, .int .u64 0, .slice none 0 0], .slice none 0 0, .slice none 0 0, .int .i64 0], []⟩ 8 (by kernel_rfl) (by kernel_rfl) (by kernel_rfl)
      (x := ([.agg [.lit (.int .i64 0), .lit (.int .i64 0), .lit (.int .u64 0), .nil], .nil, .nil, .lit (.int .i64 0)], [], [])) (by kernel_rfl) rfl (by kernel_rfl)) ?_
  intro W base args ds gs before hval hW _ hk _
  exact contract H enc W base args ds gs before hval hW hk

theorem proved : Rows.WireEntriesUptoSaid :=
  OpenClaim.holds_of_cond 7 Try.f7 rfl rfl rfl rfl rfl rfl rfl ⟨rfl, rfl, rfl, rfl, rfl⟩ rfl rfl rfl rfl rfl (by kernel_rfl) Try.func7 (by kernel_rfl)
    (of_decide_eq_true (by kernel_rfl)) (by unfold Func.isWrapper; first | (rw [if_pos (by decide +kernel)]; kernel_rfl) | (rw [if_neg (by decide +kernel)]; exact ⟨rfl, rfl⟩))
    (fun os started H enc _ F => lifted os started H enc F)
end Go.Proofs.Ytaedbgdjjnkloaa.wireEntries
namespace Go.Proofs.Ytaedbgdjjnkloaa
theorem wireEntriesUpto_holds : Rows.WireEntriesUptoSaid := wireEntries.proved
#print axioms wireEntriesUpto_holds
end Go.Proofs.Ytaedbgdjjnkloaa
