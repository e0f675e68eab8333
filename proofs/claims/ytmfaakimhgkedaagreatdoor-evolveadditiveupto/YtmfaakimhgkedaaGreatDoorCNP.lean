/-
  A table that comes in, opened: fields, symbols, ranges, types.
  The variables of Go's library that the rows list: a world that lays them; the one that is named alone.
-/
import Derived.Test.YtmfaakimhgkedaaGreatDoorCNG
import Derived.Test.YtmfaakimhgkedaaGreatDoorCTY
import Derived.Test.YtmfaakimhgkedaaGreatDoorRows
import Derived.Stop.LaidErr
import Derived.Deep.DeepHandedRow
import Derived.Deep.DeepWitnessRowRef
import Derived.LaidLaws
namespace Go.Proofs.YtmfaakimhgkedaaGreatDoor
open Go.ChangeShapes Go.WideShapes Go.ChangeAt Go.RowKit Go.Deep
set_option maxRecDepth 1000000
set_option linter.unusedVariables false
set_option linter.unusedSimpArgs false
set_option maxHeartbeats 1000000
theorem fieldsF : ∃ f0 f1 f2 f3 f4 f5 f6, Tryz.prog.underlying 79 = some (.struct #[f0, f1, f2, f3, f4, f5, f6]) ∧ oneCellFields Tryz.prog #[f0, f1, f2, f3, f4, f5, f6] = true ∧ Tryz.prog.cellsOf 79 = 7 ∧ f0.type = 9 ∧ f1.type = 3 ∧ f2.type = 3 ∧ f3.type = 3 ∧ f4.type = 3 ∧ f5.type = 3 ∧ f6.type = 3 :=
  ⟨_, _, _, _, _, _, _, Tryz.underlying79, by kernel_rfl, by kernel_rfl, by kernel_rfl, by kernel_rfl, by kernel_rfl, by kernel_rfl, by kernel_rfl, by kernel_rfl, by kernel_rfl⟩
theorem fieldsS : ∃ f0 f1, Tryz.prog.underlying 77 = some (.struct #[f0, f1]) ∧ oneCellFields Tryz.prog #[f0, f1] = true ∧ Tryz.prog.cellsOf 77 = 2 ∧ f0.type = 9 ∧ f1.type = 3 :=
  ⟨_, _, Tryz.underlying77, by kernel_rfl, by kernel_rfl, by kernel_rfl, by kernel_rfl⟩
theorem fieldsR : ∃ f0 f1, Tryz.prog.underlying 88 = some (.struct #[f0, f1]) ∧ oneCellFields Tryz.prog #[f0, f1] = true ∧ Tryz.prog.cellsOf 88 = 2 ∧ f0.type = 3 ∧ f1.type = 3 :=
  ⟨_, _, Tryz.underlying88, by kernel_rfl, by kernel_rfl, by kernel_rfl, by kernel_rfl⟩
theorem fieldsT : ∃ f0 f1 f2 f3 f4 f5, Tryz.prog.underlying 50 = some (.struct #[f0, f1, f2, f3, f4, f5]) ∧ oneCellFields Tryz.prog #[f0, f1, f2, f3, f4, f5] = true ∧ Tryz.prog.cellsOf 50 = 6 ∧ f0.type = 9 ∧ f1.type = 4 ∧ f2.type = 45 ∧ f3.type = 46 ∧ f4.type = 47 ∧ f5.type = 48 :=
  ⟨_, _, _, _, _, _, Tryz.underlying50, by kernel_rfl, by kernel_rfl, by kernel_rfl, by kernel_rfl, by kernel_rfl, by kernel_rfl, by kernel_rfl, by kernel_rfl⟩
theorem list_eq {cs : List Value} : ∀ (l : List Value), cs.length = l.length → (∀ (i : Nat) (v : Value), l[i]? = some v → cs[i]? = some v) → cs = l := fun l hl h => by
  apply List.ext_getElem? 
  intro i
  by_cases hi : i < l.length
  · rw [h i l[i] (by simp [hi])]; simp [hi]
  · rw [List.getElem?_eq_none (by omega), List.getElem?_eq_none (by omega)]
section
variable {H : Type} {enc : TypeId × Value → H} {W : World} {spare : Nat → Bool} {held : Bool}
theorem ft_open (n : Nat) (cs : List Value) (y : DataW H × List MemPlace) (h : DataW.trod enc Tryz.prog W 0 spare held n 79 cs = some y) : ∃ x : FT, cs = cFT x ∧ okX (Rows.uptoBulk y.1) x.name := by
  obtain ⟨f0, f1, f2, f3, f4, f5, f6, hs, hone, hsz, t0, t1, t2, t3, t4, t5, t6⟩ := fieldsF
  obtain ⟨xs, m, hy, hxl, hcl, hi⟩ := struct_open hs hone hsz h
  obtain ⟨v0, y0, c0, x0, h0⟩ := hi 0 f0 rfl
  rw [t0] at h0
  obtain ⟨v1, y1, c1, x1, h1⟩ := hi 1 f1 rfl
  rw [t1] at h1
  obtain ⟨v2, y2, c2, x2, h2⟩ := hi 2 f2 rfl
  rw [t2] at h2
  obtain ⟨v3, y3, c3, x3, h3⟩ := hi 3 f3 rfl
  rw [t3] at h3
  obtain ⟨v4, y4, c4, x4, h4⟩ := hi 4 f4 rfl
  rw [t4] at h4
  obtain ⟨v5, y5, c5, x5, h5⟩ := hi 5 f5 rfl
  rw [t5] at h5
  obtain ⟨v6, y6, c6, x6, h6⟩ := hi 6 f6 rfl
  rw [t6] at h6
  obtain ⟨a0, rfl, k0⟩ := str_open h0
  obtain ⟨a1, rfl, k1⟩ := int_open h1
  obtain ⟨a2, rfl, k2⟩ := int_open h2
  obtain ⟨a3, rfl, k3⟩ := int_open h3
  obtain ⟨a4, rfl, k4⟩ := int_open h4
  obtain ⟨a5, rfl, k5⟩ := int_open h5
  obtain ⟨a6, rfl, k6⟩ := int_open h6
  refine ⟨⟨a0, a1, a2, a3, a4, a5, a6⟩, list_eq _ (by rw [hcl]; rfl) fun i v hv => ?_, k0.1, ?_⟩
  · match i, hv with
    | 0, hv => simp [cFT] at hv; subst hv; exact c0
    | 1, hv => simp [cFT] at hv; subst hv; exact c1
    | 2, hv => simp [cFT] at hv; subst hv; exact c2
    | 3, hv => simp [cFT] at hv; subst hv; exact c3
    | 4, hv => simp [cFT] at hv; subst hv; exact c4
    | 5, hv => simp [cFT] at hv; subst hv; exact c5
    | 6, hv => simp [cFT] at hv; subst hv; exact c6
    | i + 7, hv => simp [cFT] at hv
  · have := bulk_get x0
    rw [hy]
    have := k0.2
    dsimp only
    omega
theorem sy_open (n : Nat) (cs : List Value) (y : DataW H × List MemPlace) (h : DataW.trod enc Tryz.prog W 0 spare held n 77 cs = some y) : ∃ x : SY, cs = cSY x ∧ (okX (Rows.uptoBulk y.1) x.name ∧ I64 x.num) := by
  obtain ⟨f0, f1, hs, hone, hsz, t0, t1⟩ := fieldsS
  obtain ⟨xs, m, hy, hxl, hcl, hi⟩ := struct_open hs hone hsz h
  obtain ⟨v0, y0, c0, x0, h0⟩ := hi 0 f0 rfl
  rw [t0] at h0
  obtain ⟨v1, y1, c1, x1, h1⟩ := hi 1 f1 rfl
  rw [t1] at h1
  obtain ⟨a0, rfl, k0⟩ := str_open h0
  obtain ⟨a1, rfl, k1⟩ := int_open h1
  refine ⟨⟨a0, a1⟩, list_eq _ (by rw [hcl]; rfl) fun i v hv => ?_, ⟨k0.1, ?_⟩, k1⟩
  · match i, hv with
    | 0, hv => simp [cSY] at hv; subst hv; exact c0
    | 1, hv => simp [cSY] at hv; subst hv; exact c1
    | i + 2, hv => simp [cSY] at hv
  · have := bulk_get x0
    rw [hy]
    have := k0.2
    dsimp only
    omega
theorem rg_open (n : Nat) (cs : List Value) (y : DataW H × List MemPlace) (h : DataW.trod enc Tryz.prog W 0 spare held n 88 cs = some y) : ∃ x : RG, cs = cRG x ∧ True := by
  obtain ⟨f0, f1, hs, hone, hsz, t0, t1⟩ := fieldsR
  obtain ⟨xs, m, hy, hxl, hcl, hi⟩ := struct_open hs hone hsz h
  obtain ⟨v0, y0, c0, x0, h0⟩ := hi 0 f0 rfl
  rw [t0] at h0
  obtain ⟨v1, y1, c1, x1, h1⟩ := hi 1 f1 rfl
  rw [t1] at h1
  obtain ⟨a0, rfl, k0⟩ := int_open h0
  obtain ⟨a1, rfl, k1⟩ := int_open h1
  refine ⟨⟨a0, a1⟩, list_eq _ (by rw [hcl]; rfl) fun i v hv => ?_, trivial⟩
  match i, hv with
  | 0, hv => simp [cRG] at hv; subst hv; exact c0
  | 1, hv => simp [cRG] at hv; subst hv; exact c1
  | i + 2, hv => simp [cRG] at hv
theorem st_open (n : Nat) (cs : List Value) (y : DataW H × List MemPlace) (h : DataW.trod enc Tryz.prog W 0 spare held n 9 cs = some y) : ∃ x : List Int, cs = cN x ∧ okX (Rows.uptoBulk y.1) x := by
  obtain ⟨s, e, _⟩ := DataW.trod_string Tryz.underlying9 h
  subst e
  obtain ⟨x, e, k⟩ := str_open h
  exact ⟨x, by rw [e]; rfl, k⟩
theorem tv_open (n : Nat) (cs : List Value) (y : DataW H × List MemPlace) (h : DataW.trod enc Tryz.prog W 0 spare held n 50 cs = some y) : ∃ x : TV, cs = cTV x ∧ (TyR W x ∧ (Rows.uptoBulk y.1 ≤ 1048576 → OkV x ∧ x.t.name.length < 4000000)) := by
  obtain ⟨f0, f1, f2, f3, f4, f5, hs, hone, hsz, t0, t1, t2, t3, t4, t5⟩ := fieldsT
  obtain ⟨xs, m, hy, hxl, hcl, hi⟩ := struct_open hs hone hsz h
  obtain ⟨v0, y0, c0, x0, h0⟩ := hi 0 f0 rfl
  rw [t0] at h0
  have b0 := bulk_get x0
  obtain ⟨v1, y1, c1, x1, h1⟩ := hi 1 f1 rfl
  rw [t1] at h1
  have b1 := bulk_get x1
  obtain ⟨v2, y2, c2, x2, h2⟩ := hi 2 f2 rfl
  rw [t2] at h2
  have b2 := bulk_get x2
  obtain ⟨v3, y3, c3, x3, h3⟩ := hi 3 f3 rfl
  rw [t3] at h3
  have b3 := bulk_get x3
  obtain ⟨v4, y4, c4, x4, h4⟩ := hi 4 f4 rfl
  rw [t4] at h4
  have b4 := bulk_get x4
  obtain ⟨v5, y5, c5, x5, h5⟩ := hi 5 f5 rfl
  rw [t5] at h5
  have b5 := bulk_get x5
  rw [← hy] at b0 b1 b2 b3 b4 b5
  obtain ⟨a0, rfl, k0⟩ := str_open h0
  obtain ⟨e1, he1, _⟩ := DataW.trod_bool Tryz.underlying4 h1
  simp at he1
  subst he1
  obtain ⟨fa, fc, fs, rfl, rf, lf, qf⟩ := rows_open cFT 7 (by decide) (fun x d => okX (Rows.uptoBulk d) x.name) Tryz.underlying45 (by kernel_rfl) (fun _ => rfl) ft_open h2
  obtain ⟨oa, oc, os, rfl, ro, lo, qo⟩ := rows_open cN 1 (by decide) (fun x d => okX (Rows.uptoBulk d) x) Tryz.underlying46 (by kernel_rfl) (fun _ => rfl) st_open h3
  obtain ⟨sa, sc, ss, rfl, rs, ls, qs⟩ := rows_open cSY 2 (by decide) (fun x d => okX (Rows.uptoBulk d) x.name ∧ I64 x.num) Tryz.underlying47 (by kernel_rfl) (fun _ => rfl) sy_open h4
  obtain ⟨ra, rc, gs, rfl, rr, lr, qr⟩ := rows_open cRG 2 (by decide) (fun _ _ => True) Tryz.underlying48 (by kernel_rfl) (fun _ => rfl) rg_open h5
  refine ⟨⟨⟨a0, e1, fs, os, ss, gs⟩, _, _, _, _⟩, list_eq _ (by rw [hcl]; rfl) fun i v hv => ?_, ⟨rf, ro, rs, rr⟩, fun hb => ⟨⟨⟨k0.1, fun x hx => ?_, fun x hx => ?_, fun x hx => ?_⟩, ?_, ?_⟩, ?_⟩⟩
  · match i, hv with
    | 0, hv => simp [cTV] at hv; subst hv; exact c0
    | 1, hv => simp [cTV] at hv; subst hv; exact c1
    | 2, hv => simp [cTV] at hv; subst hv; exact c2
    | 3, hv => simp [cTV] at hv; subst hv; exact c3
    | 4, hv => simp [cTV] at hv; subst hv; exact c4
    | 5, hv => simp [cTV] at hv; subst hv; exact c5
    | i + 6, hv => simp [cTV] at hv
  · obtain ⟨d, hd, _⟩ := qf x hx
    exact hd.1
  · obtain ⟨d, hd, _⟩ := qo x hx
    exact hd.1
  · obtain ⟨d, hd, _⟩ := qs x hx
    exact ⟨hd.1.1, hd.2⟩
  · have := k0.2
    dsimp only
    omega
  · dsimp only
    omega
  · have := k0.2
    dsimp only
    omega
theorem fieldsB : ∃ f0, Tryz.prog.underlying 24 = some (.struct #[f0]) ∧ oneCellFields Tryz.prog #[f0] = true ∧ Tryz.prog.cellsOf 24 = 1 ∧ Tryz.prog.underlying f0.type = some (.slice 50) :=
  ⟨_, Tryz.underlying24, by kernel_rfl, by kernel_rfl, by kernel_rfl⟩
theorem tb_open {n : Nat} {v : Value} {y : DataW H × List MemPlace} (h : DataW.trod enc Tryz.prog W 0 spare held n 24 [v] = some y) : ∃ (a : Option Addr) (c : Nat) (l : List TV), v = .slice a l.length c ∧ TbR W (.slice a l.length c) l ∧ (Rows.uptoBulk y.1 ≤ 1048576 → ∀ x ∈ l, OkV x ∧ x.t.name.length < 4000000) := by
  obtain ⟨f0, hs, hone, hsz, t0⟩ := fieldsB
  obtain ⟨xs, m, hy, hxl, hcl, hi⟩ := struct_open hs hone hsz h
  obtain ⟨v0, y0, c0, x0, h0⟩ := hi 0 f0 rfl
  simp at c0
  subst c0
  have b0 := bulk_get x0
  rw [← hy] at b0
  obtain ⟨a, c, l, rfl, r, hl, q⟩ := rows_open cTV 6 (by decide) (fun x d => TyR W x ∧ (Rows.uptoBulk d ≤ 1048576 → OkV x ∧ x.t.name.length < 4000000)) t0 (by kernel_rfl) (fun _ => rfl) tv_open h0
  exact ⟨a, c, l, rfl, ⟨r, fun x hx => by obtain ⟨d, hd, _⟩ := q x hx; exact hd.1⟩, fun hb x hx => by obtain ⟨d, hd, hdb⟩ := q x hx; exact hd.2 (by omega)⟩
end
end Go.Proofs.YtmfaakimhgkedaaGreatDoor
namespace Go.Proofs.YtmfaakimhgkedaaGreatDoor
open Go.ChangeShapes Go.WideShapes Go.ChangeAt Go.RowKit
set_option maxRecDepth 1000000
set_option maxRecDepth 100000
/-- The rows' list. -/
def laidL : List (String × DataW Unit) := [("unicode/utf8.acceptRanges", Rows.laid_unicode_utf8_acceptRanges), ("unicode/utf8.first", Rows.laid_unicode_utf8_first)]
theorem laid_plain {W : World} (h : laidMetH Tryz.prog laidL W) : laidMet Tryz.prog laidL W := h
/-- A block's cells laid anew. -/
noncomputable def layAt (g : Nat) (cs : Array Value) (w : World) : World := { w with heap := w.heap.modify g fun
      | .cells _ t frozen => .cells cs t frozen
      | o => o }
def numV : DataW Unit → Value
  | .lit (.int k n) => .int k n
  | _ => undef
def ldRow : DataW Unit → List Value
  | .agg ds => ds.map numV
  | _ => []
def ldRows : DataW Unit → List Value
  | .agg ds => ds.flatMap ldRow
  | _ => []
noncomputable def laidWorld (os : Os) : World :=
  layAt 2 (List.toArray (ldRows Rows.laid_unicode_utf8_acceptRanges)) (layAt 1 (List.toArray (ldRow Rows.laid_unicode_utf8_first)) (World.holding Tryz.prog os ⟨#[], #[], []⟩))
theorem laid_met (os : Os) (args : Array Value) : laidMet Tryz.prog laidL ((laidWorld os).forCall (fun _ _ => 0) ⟨#[], args, []⟩).memory :=
  laidMet_of_run' 8 (by kernel_rfl) (by kernel_rfl)
theorem maxLen_cell {W : World} (h : W.ShapedOpen Tryz.prog) : ∃ m, W.cell? ⟨0, 0, none⟩ = some (.int .i64 m) :=
  Go.Proofs.cell_of_shapedOpen_int (zero := #[.int .i64 0]) (t := 3) h (of_decide_eq_true (by kernel_rfl)) (by kernel_rfl) rfl (by kernel_rfl) (by kernel_rfl) Tryz.underlying3
end Go.Proofs.YtmfaakimhgkedaaGreatDoor
