/-
  What becomes of a field that both messages have.
  Numbers in a row of one's own: is one among them?
  Fields without the rivals of others.
-/
import Derived.Test.YtkifjpaoncjokaaGreatDoorCGN
import Derived.Test.YtkifjpaoncjokaaGreatDoorCBN
import Derived.Test.YtkifjpaoncjokaaGreatDoorCAK
import Derived.Test.YtkifjpaoncjokaaGreatDoorCAZ
namespace Go.Proofs.YtkifjpaoncjokaaGreatDoor
open Go.RowKit
set_option maxRecDepth 1000000
set_option linter.unusedVariables false
set_option linter.unusedSimpArgs false
set_option maxHeartbeats 4000000
theorem keepR {w : World} (p : Nat) (x y z : Value) : Keep (fun b => b ≠ p) w (((w.setCell ⟨p, 0, none⟩ x).setCell ⟨p, 1, none⟩ y).setCell ⟨p, 2, none⟩ z) := ((Keep.setCell _ _ _ (by simp)).trans (Keep.setCell _ _ _ (by simp))).trans (Keep.setCell _ _ _ (by simp))
/-- A field that lies in old memory, or in new memory behind the block q, is told in q. -/
theorem fld_ans {d q : Nat} {w W : World} {Z : Nat → Prop} {es : List Value} {f : CF CM} (hq : w.heap.size ≤ q) (hb : Below w.heap.size w W) (h : FmF d W (fun b => (Z b ∧ b < w.heap.size) ∨ q < b) es f) (x y z : Value) : FmF d (((W.setCell ⟨q, 0, none⟩ x).setCell ⟨q, 1, none⟩ y).setCell ⟨q, 2, none⟩ z) (fun b => Z b ∨ w.heap.size ≤ b) es f ∧ Below w.heap.size w (((W.setCell ⟨q, 0, none⟩ x).setCell ⟨q, 1, none⟩ y).setCell ⟨q, 2, none⟩ z) :=
  ⟨Fam.go (famF d) h (keepR q x y z) (fun b hb => by rcases hb with hb | hb <;> (show b ≠ q) <;> omega) (fun b hb => hb.elim (fun h => Or.inl h.1) (fun h => Or.inr (by omega))), Below.trans hb ((keepR q x y z).below hb.size (fun k hk => by show k ≠ q; omega))⟩
theorem rows2 {α : Type} {P : α → Prop} {a b : α} (h1 : P a) (h2 : P b) : ∀ r ∈ [a, b], P r := fun r hr => by
  simp only [List.mem_cons, List.not_mem_nil, or_false] at hr
  rcases hr with rfl | rfl
  · exact h1
  · exact h2
theorem fld_vals {d : Nat} {w : World} {Z : Nat → Prop} {x : CF CM} {ka va : Option Addr} {kc vc : Nat} (h : FmF d w Z [.int .i64 x.num, .slice ka x.ks.length kc, .slice va x.vs.length vc] x) : VlsR w Z d (.slice va x.vs.length vc) x.vs := by
  obtain ⟨_, _, _, _, e, -, g, -⟩ := fld_open h
  simp only [List.cons.injEq, Value.slice.injEq, true_and, and_true] at e
  obtain ⟨-, rfl, rfl⟩ := e
  exact g
theorem both_last (d : Nat) (w : World) (ts : Value) (Z : Nat → Prop) (o : FT) (cs ds : List Value) (a b : CF CM) (ha : FmF d w Z cs a) (hb : FmF d w Z ds b) (h1 : ¬ (o.lab = 1 ∧ o.kind = 17)) (h2 : o.lab ≠ 2) (h3 : o.lab ≠ 3) (h5 : o.lab ≠ 5) : Calls Tryz.prog 55 #[ts, .agg #[.string (strOfNums o.name), .int .i64 o.num, .int .i64 o.kind, .int .i64 o.ref, .int .i64 o.lab, .int .i64 o.one, .int .i64 o.key], .agg cs.toArray, .agg ds.toArray] w fun e w' => ∃ es : List Value, e = .returned (.agg es.toArray) ∧ FmF d w' (fun b => Z b ∨ w.heap.size ≤ b) es (b) ∧ Below w.heap.size w w' := by
  have H1 := hid (Fam.old (famF d) ha)
  have H2 := hid (Fam.old (famF d) hb)
  obtain ⟨ka, kc, va, vc, rfl, -⟩ := fld_open ha
  obtain ⟨kb, kd, vb, vd, rfl, -⟩ := fld_open hb
  have kw : (o.lab == 1 && o.kind == 17) = false := by
    simp only [Bool.and_eq_false_iff, beq_eq_false_iff_ne]
    by_cases q : o.lab = 1
    · exact Or.inr (fun e => h1 ⟨q, e⟩)
    · exact Or.inl q
  have k2 : (o.lab == 2) = false := by simp [h2]
  have k3 : (o.lab == 3) = false := by simp [h3]
  have k5 : (o.lab == 5) = false := by simp [h5]
  clear h1 h2 h3 h5 ha hb
  go_enter Tryz.func55, Tryz.ntmps55
  go_wp2_with fail
  refine (isWayT o _).mono ?_
  rintro e w0 ⟨rfl, hbx⟩
  have BF : Hid (Blk w0 w.heap.size 65 #[.string (strOfNums o.name), .int .i64 o.num, .int .i64 o.kind, .int .i64 o.ref, .int .i64 o.lab, .int .i64 o.one, .int .i64 o.key]) := hid (((((Blk.new _ _ _).kept (below_alloc _)).kept (below_alloc _)).kept (below_alloc _)).kept hbx)
  have BA : Hid (Blk w0 (w.heap.size + 1) 33 #[.int .i64 a.num, .slice ka a.ks.length kc, .slice va a.vs.length vc]) := hid ((((Blk.newAt (by simp)).kept (below_alloc _)).kept (below_alloc _)).kept hbx)
  have BB : Hid (Blk w0 (w.heap.size + 1 + 1) 33 #[.int .i64 b.num, .slice kb b.ks.length kd, .slice vb b.vs.length vd]) := hid (((Blk.newAt (by simp)).kept (below_alloc _)).kept hbx)
  have BR : Hid (Blk w0 (w.heap.size + 1 + 1 + 1) 33 #[.int .i64 0, .slice none 0 0, .slice none 0 0]) := hid ((Blk.newAt (by simp)).kept hbx)
  have HB0 : Hid (Below w.heap.size w w0) := hid (bl_then (by exact blBy) hbx)
  have HS0 : Hid (w.heap.size + 4 ≤ w0.heap.size) := hid (by have := hbx.size; simpa using this)
  clear hbx
  generalize hq1 : w.heap.size + 1 = q1 at *
  generalize hq2 : q1 + 1 = q2 at *
  generalize hq3 : q2 + 1 = q3 at *
  have HQ : Hid (q1 = w.heap.size + 1 ∧ q2 = w.heap.size + 2 ∧ q3 = w.heap.size + 3) := hid (by omega)
  have hq3' : w.heap.size ≤ q3 := by omega
  clear hq1 hq2 hq3
  have HW : Hid (Below w0.heap.size w0 w0) := hid (Below.refl _ _)
  rw [kw]
  have f0 : w0.cell? ⟨w.heap.size, 0, none⟩ = some (.string (strOfNums o.name)) := BF.out.cell 0 _ rfl
  have f1 : w0.cell? ⟨w.heap.size, 1, none⟩ = some (.int .i64 o.num) := BF.out.cell 1 _ rfl
  have f2 : w0.cell? ⟨w.heap.size, 2, none⟩ = some (.int .i64 o.kind) := BF.out.cell 2 _ rfl
  have f3 : w0.cell? ⟨w.heap.size, 3, none⟩ = some (.int .i64 o.ref) := BF.out.cell 3 _ rfl
  have f4 : w0.cell? ⟨w.heap.size, 4, none⟩ = some (.int .i64 o.lab) := BF.out.cell 4 _ rfl
  have f5 : w0.cell? ⟨w.heap.size, 5, none⟩ = some (.int .i64 o.one) := BF.out.cell 5 _ rfl
  have f6 : w0.cell? ⟨w.heap.size, 6, none⟩ = some (.int .i64 o.key) := BF.out.cell 6 _ rfl
  have b0 : w0.cell? ⟨q2, 0, none⟩ = some (.int .i64 b.num) := BB.out.cell 0 _ rfl
  have b1 : w0.cell? ⟨q2, 1, none⟩ = some (.slice kb b.ks.length kd) := BB.out.cell 1 _ rfl
  have b2 : w0.cell? ⟨q2, 2, none⟩ = some (.slice vb b.vs.length vd) := BB.out.cell 2 _ rfl
  have xr := BR.out.cellF
  have yr := BR.out.frz
  have zr := BR.out.lt
  have hne : q2 ≠ q3 := by have := HQ.out; omega
  have zf := BF.out.lt
  have zb := BB.out.lt
  have HA := hid fun (x y z : Value) => fld_ans (q := q3) hq3' HB0.out (Fam.go (famF d) H2.out (keepT HB0.out) (fun _ _ => trivial) (fun b hb => Or.inl hb)) x y z
  go_wp2
  exact bodyPost_ret (v := .agg #[.int .i64 b.num, .slice kb b.ks.length kd, .slice vb b.vs.length vd]) (by simp [results, Tryz.results55, go_sem, xr, yr, zr]) rfl ⟨[.int .i64 b.num, .slice kb b.ks.length kd, .slice vb b.vs.length vd], rfl, (HA.out _ _ _).1, (HA.out _ _ _).2⟩
theorem both_map (d : Nat) (w : World) (ts : Value) (Z : Nat → Prop) (o : FT) (cs ds : List Value) (a b : CF CM) (ha : FmF d w Z cs a) (hb : FmF d w Z ds b) (h5 : o.lab = 5) (hl1 : a.ks.length ≤ a.vs.length) (hl2 : b.ks.length ≤ b.vs.length) (hn : a.ks.length + b.ks.length ≤ 4000000) (ho : I64 o.num) : Calls Tryz.prog 55 #[ts, .agg #[.string (strOfNums o.name), .int .i64 o.num, .int .i64 o.kind, .int .i64 o.ref, .int .i64 o.lab, .int .i64 o.one, .int .i64 o.key], .agg cs.toArray, .agg ds.toArray] w fun e w' => ∃ es : List Value, e = .returned (.agg es.toArray) ∧ FmF d w' (fun b => Z b ∨ w.heap.size ≤ b) es (mapM o a b) ∧ Below w.heap.size w w' := by
  have H1 := hid (Fam.old (famF d) ha)
  have H2 := hid (Fam.old (famF d) hb)
  obtain ⟨ka, kc, va, vc, rfl, -⟩ := fld_open ha
  obtain ⟨kb, kd, vb, vd, rfl, -⟩ := fld_open hb
  have HBM := hid fun W (hW : Below w.heap.size w W) => bothMapsT d W _ o _ _ a b (FldE.kept H1.out hW) (FldE.kept H2.out hW) hl1 hl2 hn ho
  have kw : (o.lab == 1 && o.kind == 17) = false := by rw [h5]; rfl
  have k2 : (o.lab == 2) = false := by rw [h5]; rfl
  have k3 : (o.lab == 3) = false := by rw [h5]; rfl
  have k5 : (o.lab == 5) = true := by rw [h5]; rfl
  clear h5 ha hb hl1 hl2 hn ho
  go_enter Tryz.func55, Tryz.ntmps55
  go_wp2_with fail
  refine (isWayT o _).mono ?_
  rintro e w0 ⟨rfl, hbx⟩
  have BF : Hid (Blk w0 w.heap.size 65 #[.string (strOfNums o.name), .int .i64 o.num, .int .i64 o.kind, .int .i64 o.ref, .int .i64 o.lab, .int .i64 o.one, .int .i64 o.key]) := hid (((((Blk.new _ _ _).kept (below_alloc _)).kept (below_alloc _)).kept (below_alloc _)).kept hbx)
  have BA : Hid (Blk w0 (w.heap.size + 1) 33 #[.int .i64 a.num, .slice ka a.ks.length kc, .slice va a.vs.length vc]) := hid ((((Blk.newAt (by simp)).kept (below_alloc _)).kept (below_alloc _)).kept hbx)
  have BB : Hid (Blk w0 (w.heap.size + 1 + 1) 33 #[.int .i64 b.num, .slice kb b.ks.length kd, .slice vb b.vs.length vd]) := hid (((Blk.newAt (by simp)).kept (below_alloc _)).kept hbx)
  have BR : Hid (Blk w0 (w.heap.size + 1 + 1 + 1) 33 #[.int .i64 0, .slice none 0 0, .slice none 0 0]) := hid ((Blk.newAt (by simp)).kept hbx)
  have HB0 : Hid (Below w.heap.size w w0) := hid (bl_then (by exact blBy) hbx)
  have HS0 : Hid (w.heap.size + 4 ≤ w0.heap.size) := hid (by have := hbx.size; simpa using this)
  clear hbx
  generalize hq1 : w.heap.size + 1 = q1 at *
  generalize hq2 : q1 + 1 = q2 at *
  generalize hq3 : q2 + 1 = q3 at *
  have HQ : Hid (q1 = w.heap.size + 1 ∧ q2 = w.heap.size + 2 ∧ q3 = w.heap.size + 3) := hid (by omega)
  have hq3' : w.heap.size ≤ q3 := by omega
  clear hq1 hq2 hq3
  have HW : Hid (Below w0.heap.size w0 w0) := hid (Below.refl _ _)
  rw [kw]
  have f0 : w0.cell? ⟨w.heap.size, 0, none⟩ = some (.string (strOfNums o.name)) := BF.out.cell 0 _ rfl
  have f1 : w0.cell? ⟨w.heap.size, 1, none⟩ = some (.int .i64 o.num) := BF.out.cell 1 _ rfl
  have f2 : w0.cell? ⟨w.heap.size, 2, none⟩ = some (.int .i64 o.kind) := BF.out.cell 2 _ rfl
  have f3 : w0.cell? ⟨w.heap.size, 3, none⟩ = some (.int .i64 o.ref) := BF.out.cell 3 _ rfl
  have f4 : w0.cell? ⟨w.heap.size, 4, none⟩ = some (.int .i64 o.lab) := BF.out.cell 4 _ rfl
  have f5 : w0.cell? ⟨w.heap.size, 5, none⟩ = some (.int .i64 o.one) := BF.out.cell 5 _ rfl
  have f6 : w0.cell? ⟨w.heap.size, 6, none⟩ = some (.int .i64 o.key) := BF.out.cell 6 _ rfl
  have a0 : w0.cell? ⟨q1, 0, none⟩ = some (.int .i64 a.num) := BA.out.cell 0 _ rfl
  have a1 : w0.cell? ⟨q1, 1, none⟩ = some (.slice ka a.ks.length kc) := BA.out.cell 1 _ rfl
  have a2 : w0.cell? ⟨q1, 2, none⟩ = some (.slice va a.vs.length vc) := BA.out.cell 2 _ rfl
  have b0 : w0.cell? ⟨q2, 0, none⟩ = some (.int .i64 b.num) := BB.out.cell 0 _ rfl
  have b1 : w0.cell? ⟨q2, 1, none⟩ = some (.slice kb b.ks.length kd) := BB.out.cell 1 _ rfl
  have b2 : w0.cell? ⟨q2, 2, none⟩ = some (.slice vb b.vs.length vd) := BB.out.cell 2 _ rfl
  go_wp2_with fail
  refine (HBM.out _ HB0.out).mono ?_
  rintro e w1 ⟨es, rfl, hes, hbx⟩
  have HB1 : Hid (Below w.heap.size w w1) := hid (bl_then HB0.out hbx)
  replace BR := hid (BR.out.kept hbx)
  have HE : Hid (FmF d w1 (fun b => (Z b ∧ b < w.heap.size) ∨ q3 < b) es (mapM o a b)) := hid (Fam.go (famF d) hes (Keep.refl (fun _ => True) _) (fun _ _ => trivial) (fun k hk => hk.elim Or.inl (fun h => Or.inr (by have h3 := HW.out.size; have h4 := HS0.out; have h5 := HQ.out; first | omega | (have h6 : _ ≤ k := h; simp at h6; omega)))))
  obtain ⟨ra, rc, sa, sc, rfl, -⟩ := fld_open HE.out
  clear hes hbx
  clear f0
  clear f1
  clear f2
  clear f3
  clear f4
  clear f5
  clear f6
  clear a0
  clear a1
  clear a2
  clear b0
  clear b1
  clear b2
  have xr := BR.out.cellF
  have yr := BR.out.frz
  have zr := BR.out.lt
  have HA := hid fun (x y z : Value) => fld_ans (q := q3) hq3' HB1.out HE.out x y z
  go_wp2
  exact bodyPost_ret (v := .agg #[.int .i64 (mapM o a b).num, .slice ra (mapM o a b).ks.length rc, .slice sa (mapM o a b).vs.length sc]) (by simp [results, Tryz.results55, go_sem, xr, yr, zr]) rfl ⟨[.int .i64 (mapM o a b).num, .slice ra (mapM o a b).ks.length rc, .slice sa (mapM o a b).vs.length sc], rfl, (HA.out _ _ _).1, (HA.out _ _ _).2⟩
theorem both_list2 (d : Nat) (w : World) (ts : Value) (Z : Nat → Prop) (o : FT) (cs ds : List Value) (a b : CF CM) (ha : FmF d w Z cs a) (hb : FmF d w Z ds b) (h23 : o.lab = 2) (vs : List (CV CM)) (hvs : a.vs ++ b.vs = vs) (hn : vs.length ≤ 4000000) (ho : I64 o.num) : Calls Tryz.prog 55 #[ts, .agg #[.string (strOfNums o.name), .int .i64 o.num, .int .i64 o.kind, .int .i64 o.ref, .int .i64 o.lab, .int .i64 o.one, .int .i64 o.key], .agg cs.toArray, .agg ds.toArray] w fun e w' => ∃ es : List Value, e = .returned (.agg es.toArray) ∧ FmF d w' (fun b => Z b ∨ w.heap.size ≤ b) es (⟨o.num, [], vs⟩) ∧ Below w.heap.size w w' := by
  have H1 := hid (Fam.old (famF d) ha)
  have H2 := hid (Fam.old (famF d) hb)
  obtain ⟨ka, kc, va, vc, rfl, -⟩ := fld_open ha
  obtain ⟨kb, kd, vb, vd, rfl, -⟩ := fld_open hb
  have HV1 := hid fun W (hW : Below w.heap.size w W) => VlsR.kept (fld_vals H1.out) hW
  have HV2 := hid fun W (hW : Below w.heap.size w W) => VlsR.kept (fld_vals H2.out) hW
  have HRW : rwL [(va, vc, a.vs), (vb, vd, b.vs)] = vs := by rw [← hvs]; simp [rwL]
  have kw : (o.lab == 1 && o.kind == 17) = false := by rw [h23]; rfl
  have k2 : (o.lab == 2) = true := by rw [h23]; rfl
  have HN := hid hn
  have HO := hid ho
  clear ha hb hn ho h23 hvs
  go_enter Tryz.func55, Tryz.ntmps55
  go_wp2_with fail
  refine (isWayT o _).mono ?_
  rintro e w0 ⟨rfl, hbx⟩
  have BF : Hid (Blk w0 w.heap.size 65 #[.string (strOfNums o.name), .int .i64 o.num, .int .i64 o.kind, .int .i64 o.ref, .int .i64 o.lab, .int .i64 o.one, .int .i64 o.key]) := hid (((((Blk.new _ _ _).kept (below_alloc _)).kept (below_alloc _)).kept (below_alloc _)).kept hbx)
  have BA : Hid (Blk w0 (w.heap.size + 1) 33 #[.int .i64 a.num, .slice ka a.ks.length kc, .slice va a.vs.length vc]) := hid ((((Blk.newAt (by simp)).kept (below_alloc _)).kept (below_alloc _)).kept hbx)
  have BB : Hid (Blk w0 (w.heap.size + 1 + 1) 33 #[.int .i64 b.num, .slice kb b.ks.length kd, .slice vb b.vs.length vd]) := hid (((Blk.newAt (by simp)).kept (below_alloc _)).kept hbx)
  have BR : Hid (Blk w0 (w.heap.size + 1 + 1 + 1) 33 #[.int .i64 0, .slice none 0 0, .slice none 0 0]) := hid ((Blk.newAt (by simp)).kept hbx)
  have HB0 : Hid (Below w.heap.size w w0) := hid (bl_then (by exact blBy) hbx)
  have HS0 : Hid (w.heap.size + 4 ≤ w0.heap.size) := hid (by have := hbx.size; simpa using this)
  clear hbx
  generalize hq1 : w.heap.size + 1 = q1 at *
  generalize hq2 : q1 + 1 = q2 at *
  generalize hq3 : q2 + 1 = q3 at *
  have HQ : Hid (q1 = w.heap.size + 1 ∧ q2 = w.heap.size + 2 ∧ q3 = w.heap.size + 3) := hid (by omega)
  have hq3' : w.heap.size ≤ q3 := by omega
  clear hq1 hq2 hq3
  have HW : Hid (Below w0.heap.size w0 w0) := hid (Below.refl _ _)
  rw [kw]
  have hne : w.heap.size ≠ q3 ∧ q1 ≠ q3 ∧ q2 ≠ q3 := by have := HQ.out; omega
  have HSF : Hid (∀ W, Below w0.heap.size w0 W → (fun W => W.cell? ⟨w.heap.size, 1, none⟩ = some (.int .i64 o.num) ∧ W.cell? ⟨q1, 2, none⟩ = some (.slice va a.vs.length vc) ∧ W.cell? ⟨q2, 2, none⟩ = some (.slice vb b.vs.length vd)) W) := hid fun W hW => ⟨(BF.out.kept hW).cell 1 _ rfl, (BA.out.kept hW).cell 2 _ rfl, (BB.out.kept hW).cell 2 _ rfl⟩
  have HSS : Hid (∀ (W : World) (u1 u2 u3 : Value), Below w0.heap.size w0 W → (fun W => W.cell? ⟨w.heap.size, 1, none⟩ = some (.int .i64 o.num) ∧ W.cell? ⟨q1, 2, none⟩ = some (.slice va a.vs.length vc) ∧ W.cell? ⟨q2, 2, none⟩ = some (.slice vb b.vs.length vd)) (((W.setCell ⟨q3, 0, none⟩ u1).setCell ⟨q3, 1, none⟩ u2).setCell ⟨q3, 2, none⟩ u3)) := hid fun W u1 u2 u3 hW => ⟨cs3 (HSF.out W hW).1 hne.1, cs3 (HSF.out W hW).2.1 hne.2.1, cs3 (HSF.out W hW).2.2 hne.2.2⟩
  have f0 : w0.cell? ⟨w.heap.size, 0, none⟩ = some (.string (strOfNums o.name)) := BF.out.cell 0 _ rfl
  have f1 : w0.cell? ⟨w.heap.size, 1, none⟩ = some (.int .i64 o.num) := BF.out.cell 1 _ rfl
  have f2 : w0.cell? ⟨w.heap.size, 2, none⟩ = some (.int .i64 o.kind) := BF.out.cell 2 _ rfl
  have f3 : w0.cell? ⟨w.heap.size, 3, none⟩ = some (.int .i64 o.ref) := BF.out.cell 3 _ rfl
  have f4 : w0.cell? ⟨w.heap.size, 4, none⟩ = some (.int .i64 o.lab) := BF.out.cell 4 _ rfl
  have f5 : w0.cell? ⟨w.heap.size, 5, none⟩ = some (.int .i64 o.one) := BF.out.cell 5 _ rfl
  have f6 : w0.cell? ⟨w.heap.size, 6, none⟩ = some (.int .i64 o.key) := BF.out.cell 6 _ rfl
  have xr := BR.out.cellF
  have yr := BR.out.frz
  have zr := BR.out.lt
  have zf := BF.out.lt
  go_wp2_with fail
  clear f0 f1 f2 f3 f4 f5 f6 zf
  go_region_held3 (fun W => W.cell? ⟨w.heap.size, 1, none⟩ = some (.int .i64 o.num) ∧ W.cell? ⟨q1, 2, none⟩ = some (.slice va a.vs.length vc) ∧ W.cell? ⟨q2, 2, none⟩ = some (.slice vb b.vs.length vd)) (first | (with_reducible exact HSS.out _ _ _ _ (by have := HW.out; exact blBy)) | exact HSF.out _ (by have := HW.out; exact blBy)) (first | (go_at_call 84; refine (concatVal d _ (fun b => Z b ∧ b < w.heap.size) [(va, vc, a.vs), (vb, vd, b.vs)] _ (by first | exact Blk.new _ _ _ | exact (Blk.new _ _ _).kept (below_drew1 _)) (rows2 (HV1.out _ (bl_then HB0.out (by have := HW.out; exact blBy))) (HV2.out _ (bl_then HB0.out (by have := HW.out; exact blBy)))) (by rw [HRW]; exact HN.out) (by simp)).mono ?_; rintro e w1 ⟨ra, rc, rfl, ho, hbx⟩; rw [HRW] at ho ⊢; have HE : Hid (FmF d w1 (fun b => (Z b ∧ b < w.heap.size) ∨ q3 < b) [.int .i64 o.num, .slice none 0 0, .slice ra vs.length rc] ⟨o.num, [], vs⟩) := hid ⟨_, _, rfl, RowM.nil _ _ _ _, VlsR.go (ho.row (famV d) HN.out) (Keep.refl (fun _ => True) _) (fun _ _ => trivial) (fun k hk => hk.elim Or.inl (fun h => Or.inr (by have h3 := HW.out.size; have h4 := HS0.out; have h5 := HQ.out; first | omega | (have h6 : _ ≤ k := h; simp at h6; omega)))), HO.out⟩; clear ho; replace HW := hid (bl_then HW.out (below_trans (by exact blBy) hbx)); replace BR := hid (BR.out.kept (below_trans (by exact blBy) hbx)); replace xr := BR.out.cellF; replace yr := BR.out.frz; replace zr := BR.out.lt; clear hbx))
  have HA := hid fun (x y z : Value) => fld_ans (q := q3) hq3' (bl_then HB0.out HW.out) HE.out x y z
  go_wp2
  exact bodyPost_ret (v := .agg #[.int .i64 o.num, .slice none 0 0, .slice ra vs.length rc]) (by simp [results, Tryz.results55, go_sem, xr, yr, zr]) rfl ⟨[.int .i64 o.num, .slice none 0 0, .slice ra vs.length rc], rfl, (HA.out _ _ _).1, (HA.out _ _ _).2⟩
theorem both_list3 (d : Nat) (w : World) (ts : Value) (Z : Nat → Prop) (o : FT) (cs ds : List Value) (a b : CF CM) (ha : FmF d w Z cs a) (hb : FmF d w Z ds b) (h23 : o.lab = 3) (vs : List (CV CM)) (hvs : a.vs ++ b.vs = vs) (hn : vs.length ≤ 4000000) (ho : I64 o.num) : Calls Tryz.prog 55 #[ts, .agg #[.string (strOfNums o.name), .int .i64 o.num, .int .i64 o.kind, .int .i64 o.ref, .int .i64 o.lab, .int .i64 o.one, .int .i64 o.key], .agg cs.toArray, .agg ds.toArray] w fun e w' => ∃ es : List Value, e = .returned (.agg es.toArray) ∧ FmF d w' (fun b => Z b ∨ w.heap.size ≤ b) es (⟨o.num, [], vs⟩) ∧ Below w.heap.size w w' := by
  have H1 := hid (Fam.old (famF d) ha)
  have H2 := hid (Fam.old (famF d) hb)
  obtain ⟨ka, kc, va, vc, rfl, -⟩ := fld_open ha
  obtain ⟨kb, kd, vb, vd, rfl, -⟩ := fld_open hb
  have HV1 := hid fun W (hW : Below w.heap.size w W) => VlsR.kept (fld_vals H1.out) hW
  have HV2 := hid fun W (hW : Below w.heap.size w W) => VlsR.kept (fld_vals H2.out) hW
  have HRW : rwL [(va, vc, a.vs), (vb, vd, b.vs)] = vs := by rw [← hvs]; simp [rwL]
  have kw : (o.lab == 1 && o.kind == 17) = false := by rw [h23]; rfl
  have k2 : (o.lab == 2) = false := by rw [h23]; rfl
  have k3 : (o.lab == 3) = true := by rw [h23]; rfl
  have HN := hid hn
  have HO := hid ho
  clear ha hb hn ho h23 hvs
  go_enter Tryz.func55, Tryz.ntmps55
  go_wp2_with fail
  refine (isWayT o _).mono ?_
  rintro e w0 ⟨rfl, hbx⟩
  have BF : Hid (Blk w0 w.heap.size 65 #[.string (strOfNums o.name), .int .i64 o.num, .int .i64 o.kind, .int .i64 o.ref, .int .i64 o.lab, .int .i64 o.one, .int .i64 o.key]) := hid (((((Blk.new _ _ _).kept (below_alloc _)).kept (below_alloc _)).kept (below_alloc _)).kept hbx)
  have BA : Hid (Blk w0 (w.heap.size + 1) 33 #[.int .i64 a.num, .slice ka a.ks.length kc, .slice va a.vs.length vc]) := hid ((((Blk.newAt (by simp)).kept (below_alloc _)).kept (below_alloc _)).kept hbx)
  have BB : Hid (Blk w0 (w.heap.size + 1 + 1) 33 #[.int .i64 b.num, .slice kb b.ks.length kd, .slice vb b.vs.length vd]) := hid (((Blk.newAt (by simp)).kept (below_alloc _)).kept hbx)
  have BR : Hid (Blk w0 (w.heap.size + 1 + 1 + 1) 33 #[.int .i64 0, .slice none 0 0, .slice none 0 0]) := hid ((Blk.newAt (by simp)).kept hbx)
  have HB0 : Hid (Below w.heap.size w w0) := hid (bl_then (by exact blBy) hbx)
  have HS0 : Hid (w.heap.size + 4 ≤ w0.heap.size) := hid (by have := hbx.size; simpa using this)
  clear hbx
  generalize hq1 : w.heap.size + 1 = q1 at *
  generalize hq2 : q1 + 1 = q2 at *
  generalize hq3 : q2 + 1 = q3 at *
  have HQ : Hid (q1 = w.heap.size + 1 ∧ q2 = w.heap.size + 2 ∧ q3 = w.heap.size + 3) := hid (by omega)
  have hq3' : w.heap.size ≤ q3 := by omega
  clear hq1 hq2 hq3
  have HW : Hid (Below w0.heap.size w0 w0) := hid (Below.refl _ _)
  rw [kw]
  have hne : w.heap.size ≠ q3 ∧ q1 ≠ q3 ∧ q2 ≠ q3 := by have := HQ.out; omega
  have HSF : Hid (∀ W, Below w0.heap.size w0 W → (fun W => W.cell? ⟨w.heap.size, 1, none⟩ = some (.int .i64 o.num) ∧ W.cell? ⟨q1, 2, none⟩ = some (.slice va a.vs.length vc) ∧ W.cell? ⟨q2, 2, none⟩ = some (.slice vb b.vs.length vd)) W) := hid fun W hW => ⟨(BF.out.kept hW).cell 1 _ rfl, (BA.out.kept hW).cell 2 _ rfl, (BB.out.kept hW).cell 2 _ rfl⟩
  have HSS : Hid (∀ (W : World) (u1 u2 u3 : Value), Below w0.heap.size w0 W → (fun W => W.cell? ⟨w.heap.size, 1, none⟩ = some (.int .i64 o.num) ∧ W.cell? ⟨q1, 2, none⟩ = some (.slice va a.vs.length vc) ∧ W.cell? ⟨q2, 2, none⟩ = some (.slice vb b.vs.length vd)) (((W.setCell ⟨q3, 0, none⟩ u1).setCell ⟨q3, 1, none⟩ u2).setCell ⟨q3, 2, none⟩ u3)) := hid fun W u1 u2 u3 hW => ⟨cs3 (HSF.out W hW).1 hne.1, cs3 (HSF.out W hW).2.1 hne.2.1, cs3 (HSF.out W hW).2.2 hne.2.2⟩
  have f0 : w0.cell? ⟨w.heap.size, 0, none⟩ = some (.string (strOfNums o.name)) := BF.out.cell 0 _ rfl
  have f1 : w0.cell? ⟨w.heap.size, 1, none⟩ = some (.int .i64 o.num) := BF.out.cell 1 _ rfl
  have f2 : w0.cell? ⟨w.heap.size, 2, none⟩ = some (.int .i64 o.kind) := BF.out.cell 2 _ rfl
  have f3 : w0.cell? ⟨w.heap.size, 3, none⟩ = some (.int .i64 o.ref) := BF.out.cell 3 _ rfl
  have f4 : w0.cell? ⟨w.heap.size, 4, none⟩ = some (.int .i64 o.lab) := BF.out.cell 4 _ rfl
  have f5 : w0.cell? ⟨w.heap.size, 5, none⟩ = some (.int .i64 o.one) := BF.out.cell 5 _ rfl
  have f6 : w0.cell? ⟨w.heap.size, 6, none⟩ = some (.int .i64 o.key) := BF.out.cell 6 _ rfl
  have xr := BR.out.cellF
  have yr := BR.out.frz
  have zr := BR.out.lt
  have zf := BF.out.lt
  go_wp2_with fail
  clear f0 f1 f2 f3 f4 f5 f6 zf
  go_region_held3 (fun W => W.cell? ⟨w.heap.size, 1, none⟩ = some (.int .i64 o.num) ∧ W.cell? ⟨q1, 2, none⟩ = some (.slice va a.vs.length vc) ∧ W.cell? ⟨q2, 2, none⟩ = some (.slice vb b.vs.length vd)) (first | (with_reducible exact HSS.out _ _ _ _ (by have := HW.out; exact blBy)) | exact HSF.out _ (by have := HW.out; exact blBy)) (first | (go_at_call 84; refine (concatVal d _ (fun b => Z b ∧ b < w.heap.size) [(va, vc, a.vs), (vb, vd, b.vs)] _ (by first | exact Blk.new _ _ _ | exact (Blk.new _ _ _).kept (below_drew1 _)) (rows2 (HV1.out _ (bl_then HB0.out (by have := HW.out; exact blBy))) (HV2.out _ (bl_then HB0.out (by have := HW.out; exact blBy)))) (by rw [HRW]; exact HN.out) (by simp)).mono ?_; rintro e w1 ⟨ra, rc, rfl, ho, hbx⟩; rw [HRW] at ho ⊢; have HE : Hid (FmF d w1 (fun b => (Z b ∧ b < w.heap.size) ∨ q3 < b) [.int .i64 o.num, .slice none 0 0, .slice ra vs.length rc] ⟨o.num, [], vs⟩) := hid ⟨_, _, rfl, RowM.nil _ _ _ _, VlsR.go (ho.row (famV d) HN.out) (Keep.refl (fun _ => True) _) (fun _ _ => trivial) (fun k hk => hk.elim Or.inl (fun h => Or.inr (by have h3 := HW.out.size; have h4 := HS0.out; have h5 := HQ.out; first | omega | (have h6 : _ ≤ k := h; simp at h6; omega)))), HO.out⟩; clear ho; replace HW := hid (bl_then HW.out (below_trans (by exact blBy) hbx)); replace BR := hid (BR.out.kept (below_trans (by exact blBy) hbx)); replace xr := BR.out.cellF; replace yr := BR.out.frz; replace zr := BR.out.lt; clear hbx))
  have HA := hid fun (x y z : Value) => fld_ans (q := q3) hq3' (bl_then HB0.out HW.out) HE.out x y z
  go_wp2
  exact bodyPost_ret (v := .agg #[.int .i64 o.num, .slice none 0 0, .slice ra vs.length rc]) (by simp [results, Tryz.results55, go_sem, xr, yr, zr]) rfl ⟨[.int .i64 o.num, .slice none 0 0, .slice ra vs.length rc], rfl, (HA.out _ _ _).1, (HA.out _ _ _).2⟩
theorem both_way (d : Nat) (w : World) (Z : Nat → Prop) (o : FT) (cs ds : List Value) (a b : CF CM) (ha : FmF d w Z cs a) (hb : FmF d w Z ds b) (l : List TV) (ta : Option Addr) (tc : Nat) (h : TbR w (.slice ta l.length tc) l) (h1 : o.lab = 1) (h17 : o.kind = 17) (hr0 : 0 ≤ o.ref) (y : TV) (hy : l[o.ref.toNat]? = some y) (ho : I64 o.num) (m1 m2 mm : CM) (hv1 : a.vs = [⟨0, [], [m1]⟩]) (hv2 : b.vs = [⟨0, [], [m2]⟩]) (r : CF CM) (hr : (⟨o.num, [], [⟨0, [], [mm]⟩]⟩ : CF CM) = r)
    (hM : ∀ (W : World), Below w.heap.size w W → ∀ ys zs : List Value, MsgE W (fun b => Z b ∧ b < w.heap.size) d ys m1 → MsgE W (fun b => Z b ∧ b < w.heap.size) d zs m2 → Calls Tryz.prog 35 #[.slice ta l.length tc, .agg (cTV y).toArray, .agg ys.toArray, .agg zs.toArray] W fun e w' => ∃ es : List Value, e = .returned (.agg es.toArray) ∧ MsgE w' (fun b => (Z b ∧ b < w.heap.size) ∨ W.heap.size ≤ b) d es mm ∧ Below W.heap.size W w') : Calls Tryz.prog 55 #[.slice ta l.length tc, .agg #[.string (strOfNums o.name), .int .i64 o.num, .int .i64 o.kind, .int .i64 o.ref, .int .i64 o.lab, .int .i64 o.one, .int .i64 o.key], .agg cs.toArray, .agg ds.toArray] w fun e w' => ∃ es : List Value, e = .returned (.agg es.toArray) ∧ FmF d w' (fun b => Z b ∨ w.heap.size ≤ b) es (r) ∧ Below w.heap.size w w' := by
  have H1 := hid (Fam.old (famF d) ha)
  have H2 := hid (Fam.old (famF d) hb)
  obtain ⟨ka, kc, va, vc, rfl, -⟩ := fld_open ha
  obtain ⟨kb, kd, vb, vd, rfl, -⟩ := fld_open hb
  obtain ⟨j, hj⟩ := Int.eq_ofNat_of_zero_le hr0
  have ht : o.ref.toNat = j := by omega
  rw [ht] at hy
  have hyl : j < l.length := (List.getElem?_eq_some_iff.1 hy).1
  have hye : l[j] = y := (List.getElem?_eq_some_iff.1 hy).2
  have TYY := h.ty y (by rw [← hye]; exact List.getElem_mem hyl)
  obtain ⟨sa1, sc1, sa2, sc2, sa3, sc3, sa4, sc4, g1, g2, g3, g4⟩ := shT_of TYY
  have ecy : cTV y = [.string (strOfNums y.t.name), .bool y.t.enum, .slice sa1 y.t.fs.length sc1, .slice sa2 y.t.os.length sc2, .slice sa3 y.t.ss.length sc3, .slice sa4 y.t.rs.length sc4] := by unfold cTV; rw [g1, g2, g3, g4]
  obtain ⟨tb, tof, rfl, hbl, c0, c1, c2, c3, c4, c5⟩ := row6 h.row hyl
  rw [hye] at c0 c1 c2 c3 c4 c5
  rw [g1] at c2
  rw [g2] at c3
  rw [g3] at c4
  rw [g4] at c5
  have HWA := hid fun W (hW : Below w.heap.size w W) => withinT d W _ _ a (FldE.kept H1.out hW) _ _ hv1 m1 [] rfl
  have HWB := hid fun W (hW : Below w.heap.size w W) => withinT d W _ _ b (FldE.kept H2.out hW) _ _ hv2 m2 [] rfl
  rw [ecy] at hM
  have HMG := hid hM
  have HR := hid hr
  have HO := hid ho
  have kw : (o.lab == 1 && o.kind == 17) = true := by rw [h1, h17]; rfl
  have HJ := hid hj
  have k0 : (0 : Int) ≤ (j : Int) := by omega
  have k1 : (j : Int) < (l.length : Int) := by omega
  clear ha hb hM hr ho h1 h17 hr0 hy hye hyl TYY g1 g2 g3 g4 ecy ht h hv1 hv2 hj
  go_enter Tryz.func55, Tryz.ntmps55
  go_wp2_with fail
  refine (isWayT o _).mono ?_
  rintro e w0 ⟨rfl, hbx⟩
  have BF : Hid (Blk w0 w.heap.size 65 #[.string (strOfNums o.name), .int .i64 o.num, .int .i64 o.kind, .int .i64 o.ref, .int .i64 o.lab, .int .i64 o.one, .int .i64 o.key]) := hid (((((Blk.new _ _ _).kept (below_alloc _)).kept (below_alloc _)).kept (below_alloc _)).kept hbx)
  have BA : Hid (Blk w0 (w.heap.size + 1) 33 #[.int .i64 a.num, .slice ka a.ks.length kc, .slice va a.vs.length vc]) := hid ((((Blk.newAt (by simp)).kept (below_alloc _)).kept (below_alloc _)).kept hbx)
  have BB : Hid (Blk w0 (w.heap.size + 1 + 1) 33 #[.int .i64 b.num, .slice kb b.ks.length kd, .slice vb b.vs.length vd]) := hid (((Blk.newAt (by simp)).kept (below_alloc _)).kept hbx)
  have BR : Hid (Blk w0 (w.heap.size + 1 + 1 + 1) 33 #[.int .i64 0, .slice none 0 0, .slice none 0 0]) := hid ((Blk.newAt (by simp)).kept hbx)
  have HB0 : Hid (Below w.heap.size w w0) := hid (bl_then (by exact blBy) hbx)
  have HS0 : Hid (w.heap.size + 4 ≤ w0.heap.size) := hid (by have := hbx.size; simpa using this)
  clear hbx
  generalize hq1 : w.heap.size + 1 = q1 at *
  generalize hq2 : q1 + 1 = q2 at *
  generalize hq3 : q2 + 1 = q3 at *
  have HQ : Hid (q1 = w.heap.size + 1 ∧ q2 = w.heap.size + 2 ∧ q3 = w.heap.size + 3) := hid (by omega)
  have hq3' : w.heap.size ≤ q3 := by omega
  clear hq1 hq2 hq3
  have HW : Hid (Below w0.heap.size w0 w0) := hid (Below.refl _ _)
  rw [kw]
  have hne : w.heap.size ≠ q3 ∧ q1 ≠ q3 ∧ q2 ≠ q3 ∧ tb ≠ q3 := by have := HQ.out; omega
  have HSF : Hid (∀ W, Below w0.heap.size w0 W → (fun W => W.cell? ⟨w.heap.size, 1, none⟩ = some (.int .i64 o.num) ∧ W.cell? ⟨w.heap.size, 3, none⟩ = some (.int .i64 (j : Int)) ∧ W.cell? ⟨tb, tof + j * 6, none⟩ = some (.string (strOfNums y.t.name)) ∧ W.cell? ⟨tb, tof + j * 6 + 1, none⟩ = some (.bool y.t.enum) ∧ W.cell? ⟨tb, tof + j * 6 + 2, none⟩ = some (.slice sa1 y.t.fs.length sc1) ∧ W.cell? ⟨tb, tof + j * 6 + 3, none⟩ = some (.slice sa2 y.t.os.length sc2) ∧ W.cell? ⟨tb, tof + j * 6 + 4, none⟩ = some (.slice sa3 y.t.ss.length sc3) ∧ W.cell? ⟨tb, tof + j * 6 + 5, none⟩ = some (.slice sa4 y.t.rs.length sc4) ∧ W.cell? ⟨q1, 0, none⟩ = some (.int .i64 a.num) ∧ W.cell? ⟨q1, 1, none⟩ = some (.slice ka a.ks.length kc) ∧ W.cell? ⟨q1, 2, none⟩ = some (.slice va a.vs.length vc) ∧ W.cell? ⟨q2, 0, none⟩ = some (.int .i64 b.num) ∧ W.cell? ⟨q2, 1, none⟩ = some (.slice kb b.ks.length kd) ∧ W.cell? ⟨q2, 2, none⟩ = some (.slice vb b.vs.length vd)) W) := hid fun W hW => ⟨(BF.out.kept hW).cell 1 _ rfl, HJ.out ▸ (BF.out.kept hW).cell 3 _ rfl, cell_below c0 (bl_then HB0.out hW), cell_below c1 (bl_then HB0.out hW), cell_below c2 (bl_then HB0.out hW), cell_below c3 (bl_then HB0.out hW), cell_below c4 (bl_then HB0.out hW), cell_below c5 (bl_then HB0.out hW), (BA.out.kept hW).cell 0 _ rfl, (BA.out.kept hW).cell 1 _ rfl, (BA.out.kept hW).cell 2 _ rfl, (BB.out.kept hW).cell 0 _ rfl, (BB.out.kept hW).cell 1 _ rfl, (BB.out.kept hW).cell 2 _ rfl⟩
  have HSS : Hid (∀ (W : World) (u1 u2 u3 : Value), Below w0.heap.size w0 W → (fun W => W.cell? ⟨w.heap.size, 1, none⟩ = some (.int .i64 o.num) ∧ W.cell? ⟨w.heap.size, 3, none⟩ = some (.int .i64 (j : Int)) ∧ W.cell? ⟨tb, tof + j * 6, none⟩ = some (.string (strOfNums y.t.name)) ∧ W.cell? ⟨tb, tof + j * 6 + 1, none⟩ = some (.bool y.t.enum) ∧ W.cell? ⟨tb, tof + j * 6 + 2, none⟩ = some (.slice sa1 y.t.fs.length sc1) ∧ W.cell? ⟨tb, tof + j * 6 + 3, none⟩ = some (.slice sa2 y.t.os.length sc2) ∧ W.cell? ⟨tb, tof + j * 6 + 4, none⟩ = some (.slice sa3 y.t.ss.length sc3) ∧ W.cell? ⟨tb, tof + j * 6 + 5, none⟩ = some (.slice sa4 y.t.rs.length sc4) ∧ W.cell? ⟨q1, 0, none⟩ = some (.int .i64 a.num) ∧ W.cell? ⟨q1, 1, none⟩ = some (.slice ka a.ks.length kc) ∧ W.cell? ⟨q1, 2, none⟩ = some (.slice va a.vs.length vc) ∧ W.cell? ⟨q2, 0, none⟩ = some (.int .i64 b.num) ∧ W.cell? ⟨q2, 1, none⟩ = some (.slice kb b.ks.length kd) ∧ W.cell? ⟨q2, 2, none⟩ = some (.slice vb b.vs.length vd)) (((W.setCell ⟨q3, 0, none⟩ u1).setCell ⟨q3, 1, none⟩ u2).setCell ⟨q3, 2, none⟩ u3)) := hid fun W u1 u2 u3 hW => ⟨cs3 (HSF.out W hW).1 hne.1, cs3 (HSF.out W hW).2.1 hne.1, cs3 (HSF.out W hW).2.2.1 hne.2.2.2, cs3 (HSF.out W hW).2.2.2.1 hne.2.2.2, cs3 (HSF.out W hW).2.2.2.2.1 hne.2.2.2, cs3 (HSF.out W hW).2.2.2.2.2.1 hne.2.2.2, cs3 (HSF.out W hW).2.2.2.2.2.2.1 hne.2.2.2, cs3 (HSF.out W hW).2.2.2.2.2.2.2.1 hne.2.2.2, cs3 (HSF.out W hW).2.2.2.2.2.2.2.2.1 hne.2.1, cs3 (HSF.out W hW).2.2.2.2.2.2.2.2.2.1 hne.2.1, cs3 (HSF.out W hW).2.2.2.2.2.2.2.2.2.2.1 hne.2.1, cs3 (HSF.out W hW).2.2.2.2.2.2.2.2.2.2.2.1 hne.2.2.1, cs3 (HSF.out W hW).2.2.2.2.2.2.2.2.2.2.2.2.1 hne.2.2.1, cs3 (HSF.out W hW).2.2.2.2.2.2.2.2.2.2.2.2.2 hne.2.2.1⟩
  have xr := BR.out.cellF
  have yr := BR.out.frz
  have zr := BR.out.lt
  clear c0 c1 c2 c3 c4 c5
  go_wp2_with fail
  go_region_held3 (fun W => W.cell? ⟨w.heap.size, 1, none⟩ = some (.int .i64 o.num) ∧ W.cell? ⟨w.heap.size, 3, none⟩ = some (.int .i64 (j : Int)) ∧ W.cell? ⟨tb, tof + j * 6, none⟩ = some (.string (strOfNums y.t.name)) ∧ W.cell? ⟨tb, tof + j * 6 + 1, none⟩ = some (.bool y.t.enum) ∧ W.cell? ⟨tb, tof + j * 6 + 2, none⟩ = some (.slice sa1 y.t.fs.length sc1) ∧ W.cell? ⟨tb, tof + j * 6 + 3, none⟩ = some (.slice sa2 y.t.os.length sc2) ∧ W.cell? ⟨tb, tof + j * 6 + 4, none⟩ = some (.slice sa3 y.t.ss.length sc3) ∧ W.cell? ⟨tb, tof + j * 6 + 5, none⟩ = some (.slice sa4 y.t.rs.length sc4) ∧ W.cell? ⟨q1, 0, none⟩ = some (.int .i64 a.num) ∧ W.cell? ⟨q1, 1, none⟩ = some (.slice ka a.ks.length kc) ∧ W.cell? ⟨q1, 2, none⟩ = some (.slice va a.vs.length vc) ∧ W.cell? ⟨q2, 0, none⟩ = some (.int .i64 b.num) ∧ W.cell? ⟨q2, 1, none⟩ = some (.slice kb b.ks.length kd) ∧ W.cell? ⟨q2, 2, none⟩ = some (.slice vb b.vs.length vd)) (first | (with_reducible exact HSS.out _ _ _ _ (by have := HW.out; exact blBy)) | exact HSF.out _ (by have := HW.out; exact blBy)) (first | (go_at_call_of 44 (Value.slice va a.vs.length vc); refine (HWA.out _ (bl_then HB0.out (by have := HW.out; exact blBy))).mono ?_; rintro e w1 ⟨ys, rfl, hm, hbx⟩; have HMA := hid hm; clear hm; (try replace HMB := hid (MsgE.kept HMB.out (below_trans (by exact blBy) hbx))); replace HW := hid (bl_then HW.out (below_trans (by exact blBy) hbx)); replace BR := hid (BR.out.kept (below_trans (by exact blBy) hbx)); replace xr := BR.out.cellF; replace yr := BR.out.frz; replace zr := BR.out.lt; clear hbx) | (go_at_call_of 44 (Value.slice vb b.vs.length vd); refine (HWB.out _ (bl_then HB0.out (by have := HW.out; exact blBy))).mono ?_; rintro e w2 ⟨zs, rfl, hm, hbx⟩; have HMB := hid hm; clear hm; (try replace HMA := hid (MsgE.kept HMA.out (below_trans (by exact blBy) hbx))); replace HW := hid (bl_then HW.out (below_trans (by exact blBy) hbx)); replace BR := hid (BR.out.kept (below_trans (by exact blBy) hbx)); replace xr := BR.out.cellF; replace yr := BR.out.frz; replace zr := BR.out.lt; clear hbx) | (go_at_call 35; refine (HMG.out _ (bl_then HB0.out (by have := HW.out; exact blBy)) ys zs (MsgE.kept HMA.out (by exact blBy)) (MsgE.kept HMB.out (by exact blBy))).mono ?_; rintro e w3 ⟨es, rfl, hm, hbx⟩; have HMM : Hid (MsgE w3 (fun b => (Z b ∧ b < w.heap.size) ∨ q3 < b) d es mm) := hid (MsgE.go (Keep.refl (fun _ => True) _) (fun _ _ => trivial) (fun k hk => hk.elim Or.inl (fun h => Or.inr (by have h3 := HW.out.size; have h4 := HS0.out; have h5 := HQ.out; first | omega | (have h6 : _ ≤ k := h; simp at h6; omega)))) d _ _ hm); clear hm; replace HW := hid (bl_then HW.out (below_trans (by exact blBy) hbx)); replace BR := hid (BR.out.kept (below_trans (by exact blBy) hbx)); replace xr := BR.out.cellF; replace yr := BR.out.frz; replace zr := BR.out.lt; clear hbx) | (go_at_call 68; refine (aroundT d _ (fun b => (Z b ∧ b < w.heap.size) ∨ q3 < b) es mm o.num (MsgE.kept HMM.out (by exact blBy)) HO.out).mono ?_; rintro e w4 ⟨rs, rfl, hm, hbx⟩; rw [HR.out] at hm; have HE : Hid (FmF d w4 (fun b => (Z b ∧ b < w.heap.size) ∨ q3 < b) rs r) := hid (Fam.go (famF d) hm (Keep.refl (fun _ => True) _) (fun _ _ => trivial) (fun k hk => hk.elim id (fun h => Or.inr (by have h3 := HW.out.size; have h4 := HS0.out; have h5 := HQ.out; first | omega | (have h6 : _ ≤ k := h; simp at h6; omega))))); clear hm; obtain ⟨ra, rc, sa, sc, rfl, -⟩ := fld_open HE.out; replace HW := hid (bl_then HW.out (below_trans (by exact blBy) hbx)); replace BR := hid (BR.out.kept (below_trans (by exact blBy) hbx)); replace xr := BR.out.cellF; replace yr := BR.out.frz; replace zr := BR.out.lt; clear hbx))
  have HA := hid fun (x y z : Value) => fld_ans (q := q3) hq3' (bl_then HB0.out HW.out) HE.out x y z
  go_wp2
  exact bodyPost_ret (v := .agg #[.int .i64 r.num, .slice ra r.ks.length rc, .slice sa r.vs.length sc]) (by simp [results, Tryz.results55, go_sem, xr, yr, zr]) rfl ⟨[.int .i64 r.num, .slice ra r.ks.length rc, .slice sa r.vs.length sc], rfl, (HA.out _ _ _).1, (HA.out _ _ _).2⟩
theorem bothT (l : List TV) (mg : TV → CM → CM → CM) (d : Nat) (w : World) (ta : Option Addr) (tc : Nat) (h : TbR w (.slice ta l.length tc) l) (hg : goodB l = true) (x : TV) (hx : x ∈ l) (Z : Nat → Prop) (cs ds : List Value) (a b : CF CM) (ha : FmF d w Z cs a) (hb : FmF d w Z ds b) (hh : hasF x.t.fs a.num = true) (tya : fieldB l (ownF x.t.fs a.num) a = true) (tyb : fieldB l (ownF x.t.fs a.num) b = true) (hs1 : a.ks.length + b.ks.length ≤ 4000000) (hs2 : a.vs.length + b.vs.length ≤ 4000000)
    (hM : (ownF x.t.fs a.num).lab = 1 → (ownF x.t.fs a.num).kind = 17 → ∀ (W : World), Below w.heap.size w W → ∀ ys zs : List Value, MsgE W (fun b => Z b ∧ b < w.heap.size) d ys (wM a) → MsgE W (fun b => Z b ∧ b < w.heap.size) d zs (wM b) → Calls Tryz.prog 35 #[.slice ta l.length tc, .agg (cTV (blwB l x a)).toArray, .agg ys.toArray, .agg zs.toArray] W fun e w' => ∃ es : List Value, e = .returned (.agg es.toArray) ∧ MsgE w' (fun b => (Z b ∧ b < w.heap.size) ∨ W.heap.size ≤ b) d es (mg (blwB l x a) (wM a) (wM b)) ∧ Below W.heap.size W w') :
    Calls Tryz.prog 55 #[.slice ta l.length tc, .agg #[.string (strOfNums (ownF x.t.fs a.num).name), .int .i64 (ownF x.t.fs a.num).num, .int .i64 (ownF x.t.fs a.num).kind, .int .i64 (ownF x.t.fs a.num).ref, .int .i64 (ownF x.t.fs a.num).lab, .int .i64 (ownF x.t.fs a.num).one, .int .i64 (ownF x.t.fs a.num).key], .agg cs.toArray, .agg ds.toArray] w fun e w' => ∃ es : List Value, e = .returned (.agg es.toArray) ∧ FmF d w' (fun b => Z b ∨ w.heap.size ≤ b) es (bothF l mg x a b) ∧ Below w.heap.size w w' := by
  have hi : I64 (ownF x.t.fs a.num).num := by
    rw [(ownF_hasF hh).2]
    obtain ⟨-, -, -, -, -, -, -, -, -, i1⟩ := fld_open ha
    exact i1
  have hin := (ownF_hasF hh).1
  rw [both_def]
  split
  · rename_i q
    obtain ⟨r0, r1⟩ := good_refs hg hx hin
    have e1 := (wM_in tya q.1 q.2).2
    have e2 := (wM_in tyb q.1 q.2).2
    have ey : l[(ownF x.t.fs a.num).ref.toNat]? = some (blwB l x a) := by
      unfold blwB
      rw [List.getElem?_eq_getElem r1]
      rfl
    exact both_way d w Z (ownF x.t.fs a.num) cs ds a b ha hb l ta tc h q.1 q.2 r0 (blwB l x a) ey hi (wM a) (wM b) _ (by rw [e1]; rfl) (by rw [e2]; rfl) _ rfl (hM q.1 q.2)
  · rename_i q
    split
    · rename_i q2
      rcases q2 with q2 | q2
      · exact both_list2 d w _ Z (ownF x.t.fs a.num) cs ds a b ha hb q2 _ rfl (by rw [List.length_append]; exact hs2) hi
      · exact both_list3 d w _ Z (ownF x.t.fs a.num) cs ds a b ha hb q2 _ rfl (by rw [List.length_append]; exact hs2) hi
    · rename_i q2
      split
      · rename_i q5
        have s1 := (fld_facts tya).1
        have s2 := (fld_facts tyb).1
        unfold shapeB at s1 s2
        rw [if_neg q2, if_pos q5, decide_eq_true_eq] at s1 s2
        exact both_map d w _ Z (ownF x.t.fs a.num) cs ds a b ha hb q5 (by omega) (by omega) hs1 hi
      · rename_i q5
        exact both_last d w _ Z (ownF x.t.fs a.num) cs ds a b ha hb q (fun e => q2 (Or.inl e)) (fun e => q2 (Or.inr e)) q5
/-- A number. -/
def FmI : World → (Nat → Prop) → List Value → Int → Prop := fun _ _ cs x => cs = [.int .i64 x]
theorem famI : Fam 1 FmI where
  go h _ _ _ := h
  old h := h
  one h u hu := by
    unfold FmI at h
    subst h
    simp at hu
    subst hu
    rfl
  len h := by
    unfold FmI at h
    subst h
    rfl
theorem ints_at {w : World} {Z : Nat → Prop} {a : Option Addr} {n c : Nat} {xs : List Int} (h : RowM w Z 1 (FmI w Z) (.slice a n c) xs) {i : Nat} (hi : i < xs.length) : ∃ b o, a = some ⟨b, o, none⟩ ∧ b < w.heap.size ∧ w.cell? ⟨b, o + i, none⟩ = some (.int .i64 xs[i]) := by
  obtain ⟨b, o, cs, e, hz, hb, hl, he, hc⟩ := RowM.at h (by decide) hi
  unfold FmI at he
  subst he
  exact ⟨b, o, e, hb, by have := hc 0 _ rfl; simpa using this⟩
def IdxR (ns : List Int) (x r : Int) : Prop := decide (0 ≤ r) = ns.contains x
def NotI (ns : List Int) (x : Int) : Prop := ns.contains x = false
theorem indexI (w : World) (Z : Nat → Prop) (ns : List Int) (x : Int) (a : Option Addr) (c : Nat) (h : RowM w Z 1 (FmI w Z) (.slice a ns.length c) ns) : Calls Tryz.prog 110 #[.slice a ns.length c, .int .i64 x] w fun e w' => (∃ r : Int, e = .returned (.int .i64 r) ∧ IdxR ns x r) ∧ w' = w := by
  obtain ⟨_, _, -, l1⟩ := RowM.sl h
  have m1 : (ns.length : Int) ≤ 9223372036854775807 := by omega
  have H := hid h
  clear h
  go_enter Tryz.func110, Tryz.ntmps110
  go_wp2
  go_loopw [8] (fun s8 wr => ∃ j : Nat, s8 = .int .i64 (j : Int) ∧ j ≤ ns.length ∧ NotI (ns.take j) x ∧ wr = w) (fun s8 wr => ns.length - numAt wr s8)
  case atStart => exact ⟨0, rfl, by omega, (by simp [NotI]), rfl⟩
  case round =>
    obtain ⟨j, rfl, hj, HN, rfl⟩ := hrel
    by_cases hlt : j < ns.length
    · have k2 : (j : Int) < (ns.length : Int) := by omega
      obtain ⟨b, o, rfl, hb, hc⟩ := ints_at H.out hlt
      have HT : Hid (ns.take (j + 1) = ns.take j ++ [ns[j]]) := hid (by rw [List.take_succ_eq_append_getElem hlt])
      have HM : Hid (ns[j] ∈ ns) := hid (List.getElem_mem hlt)
      generalize ns[j] = y at *
      by_cases hq : x = y
      · have k3 : (x == y) = true := by simp [hq]
        have HC : IdxR ns x (j : Int) := by unfold IdxR; rw [hq]; simpa using HM.out
        clear hq
        go_wp2
        go_ret
        exact ⟨⟨(j : Int), rfl, HC⟩, rfl⟩
      · have k3 : (x == y) = false := by simp [hq]
        have HC : NotI (ns.take (j + 1)) x := by rw [HT.out]; unfold NotI at HN ⊢; simp at HN ⊢; exact ⟨HN, hq⟩
        clear hq
        go_wp2
        exact ⟨⟨j + 1, by simp, by omega, HC, trivial⟩, by simp [numAt]; omega⟩
    · have k2 : ¬ (j : Int) < (ns.length : Int) := by omega
      have e1 : ns.take j = ns := List.take_of_length_le (by omega)
      rw [e1] at HN
      have HC : IdxR ns x (-1) := by unfold IdxR; rw [HN]; rfl
      go_wp2
      go_ret
      exact ⟨⟨-1, rfl, HC⟩, rfl⟩
theorem containsI (w : World) (Z : Nat → Prop) (ns : List Int) (x : Int) (a : Option Addr) (c : Nat) (h : RowM w Z 1 (FmI w Z) (.slice a ns.length c) ns) : Calls Tryz.prog 87 #[.slice a ns.length c, .int .i64 x] w fun e w' => e = .returned (.bool (ns.contains x)) ∧ w' = w := by
  have H := hid h
  clear h
  go_enter Tryz.func87, Tryz.ntmps87
  go_wp2_with (go_at_call 110; refine (indexI _ Z ns x a c H.out).mono ?_; rintro e w1 ⟨⟨r, rfl, HR⟩, rfl⟩)
  go_ret
  exact ⟨ret_bool HR, rfl⟩
theorem Tryz.infoIn3 : (Tryz.prog.info? 3).map (fun i => (i.zero, i.size, i.bytes)) = some (some (.int .i64 0), 1, 8) := by kernel_rfl
/-- The oneofs of which there is a member. -/
def tkn (fs : List FT) (l : List (CF CM)) : List Int := (l.filter (fun o => (ownF fs o.num).lab == 4)).map (fun o => (ownF fs o.num).one)
theorem tkn_take {fs : List FT} {l : List (CF CM)} {j : Nat} (h : j < l.length) : tkn fs (l.take (j + 1)) = tkn fs (l.take j) ++ (if (ownF fs l[j].num).lab = 4 then [(ownF fs l[j].num).one] else []) := by
  unfold tkn
  rw [List.take_succ_eq_append_getElem h, List.filter_append, List.map_append]
  congr 1
  by_cases q : (ownF fs l[j].num).lab = 4 <;> simp [q]
theorem tkn_le {fs : List FT} (l : List (CF CM)) : (tkn fs l).length ≤ l.length := by unfold tkn; rw [List.length_map]; exact List.length_filter_le _ _
theorem tkn_riv {fs : List FT} {l : List (CF CM)} {o : CF CM} : rivB fs l o = (!decide ((ownF fs o.num).lab = 4) || !(tkn fs l).contains (ownF fs o.num).one) := by
  unfold rivB tkn
  have : (l.any (memB fs (ownF fs o.num).one)) = ((l.filter (fun o => (ownF fs o.num).lab == 4)).map (fun o => (ownF fs o.num).one)).contains (ownF fs o.num).one := by
    rw [Bool.eq_iff_iff]
    simp [memB, and_assoc]
  rw [this]
  generalize ((l.filter (fun o => (ownF fs o.num).lab == 4)).map (fun o => (ownF fs o.num).one)).contains (ownF fs o.num).one = t
  by_cases q : (ownF fs o.num).lab = 4 <;> cases t <;> simp [q]
theorem rivalsT (d : Nat) (w : World) (Z : Nat → Prop) (x : TV) (hx : TyR w x) (hr : Rise x.t.fs) (hl : x.t.fs.length ≤ 128) (xs ys : List (CF CM)) (a b : Option Addr) (ac bc : Nat) (h1 : FlsR w Z d (.slice a xs.length ac) xs) (h2 : FlsR w Z d (.slice b ys.length bc) ys) : Calls Tryz.prog 57 #[.agg (cTV x).toArray, .slice a xs.length ac, .slice b ys.length bc] w fun e w' => ∃ a' c', e = .returned (.slice a' (xs.filter (rivB x.t.fs ys)).length c') ∧ FlsR w' (fun b => Z b ∨ w.heap.size ≤ b) d (.slice a' (xs.filter (rivB x.t.fs ys)).length c') (xs.filter (rivB x.t.fs ys)) ∧ Below w.heap.size w w' := by
  obtain ⟨a1, c1, a2, c2, a3, c3, a4, c4, e1, e2, e3, e4⟩ := shT_of hx
  have ec : cTV x = [.string (strOfNums x.t.name), .bool x.t.enum, .slice a1 x.t.fs.length c1, .slice a2 x.t.os.length c2, .slice a3 x.t.ss.length c3, .slice a4 x.t.rs.length c4] := by unfold cTV; rw [e1, e2, e3, e4]
  have HFI := hid fun W (hW : Below w.heap.size w W) (n : Int) => findT x.t.fs n W a1 c1 (by rw [← e1]; exact (hx.kept hW).f) hr hl
  obtain ⟨_, _, -, l1⟩ := RowM.sl h1
  obtain ⟨_, _, -, l2⟩ := RowM.sl h2
  have m1 : (xs.length : Int) ≤ 9223372036854775807 := by omega
  have m2 : (ys.length : Int) ≤ 9223372036854775807 := by omega
  have H1 := hid h1
  have H2 := hid h2
  rw [ec]
  clear hx e1 e2 e3 e4 ec h1 h2
  go_enter Tryz.func57, Tryz.ntmps57
  go_wp2
  generalize hw0 : w.alloc _ = w0
  have HB0 : Hid (Below w.heap.size w w0) := hid (hw0 ▸ below_alloc _)
  have BX : Hid (Blk w0 w.heap.size 63 #[.string (strOfNums x.t.name), .bool x.t.enum, .slice a1 x.t.fs.length c1, .slice a2 x.t.os.length c2, .slice a3 x.t.ss.length c3, .slice a4 x.t.rs.length c4]) := hid (hw0 ▸ Blk.new _ _ _)
  have HS0 : w0.heap.size = w.heap.size + 1 := by rw [← hw0]; simp
  clear hw0
  go_loopw [7, 19] (fun s7 s19 wr => ∃ (j n : Nat) (oa : Option Addr) (oc : Nat), s7 = .slice oa n oc ∧ s19 = .int .i64 (j : Int) ∧ j ≤ ys.length ∧ Hid ((tkn x.t.fs (ys.take j)).length = n) ∧ Hid (OwnA wr w0.heap.size Z 3 1 FmI (.slice oa n oc) (tkn x.t.fs (ys.take j))) ∧ Hid (Below w0.heap.size w0 wr)) (fun s7 s19 wr => ys.length - numAt wr s19)
  case atStart => exact ⟨0, 0, none, 0, rfl, rfl, by omega, hid rfl, hid (OwnA.nil _ _ _ _ _ _), hid (Below.refl _ _)⟩
  case round =>
    obtain ⟨j, n, oa, oc, rfl, rfl, hj, HN, HO, HB⟩ := hrel
    have HBw : Hid (Below w.heap.size w wr) := hid (Below.trans HB0.out ⟨HB.out.os, HB.out.tape, HB.out.output, HB.out.size, fun b hb => HB.out.block b (by omega)⟩)
    by_cases hlt : j < ys.length
    · have k2 : (j : Int) < (ys.length : Int) := by omega
      obtain ⟨b1, o1, ka, kc, va, vc, rfl, -, hb1, c0, c1, c2, he⟩ := fls_at (FlsR.kept H2.out HBw.out) hlt
      have HTK := hid (tkn_take (fs := x.t.fs) hlt)
      have HNL : Hid ((tkn x.t.fs (ys.take j)).length ≤ 4000000) := hid (Nat.le_trans (tkn_le _) (by rw [List.length_take]; omega))
      have BX1 := hid (BX.out.kept HB.out)
      have xx := BX1.out.cellF
      have zx := BX1.out.lt
      clear he
      generalize ys[j] = z at *
      go_wp2_with fail
      refine (HFI.out _ (by have := HBw.out; exact blBy) _).mono ?_
      rintro e w1 ⟨rfl, hbx⟩
      have HB1 := hid (below_trans HB.out (below_trans (below_alloc _) hbx))
      have HO1 := hid (HO.out.kept famI (below_trans (below_alloc _) hbx))
      have BX2 := hid (BX.out.kept HB1.out)
      clear hbx HO HB xx zx c0 c1 c2 BX1
      unfold tFT
      generalize ownF x.t.fs z.num = o at *
      by_cases hq : o.lab = 4
      · rw [if_pos hq] at HTK
        obtain ⟨q1, q2, q3, q4, q5, q6, q7⟩ := o
        obtain rfl : q5 = 4 := hq
        dsimp only at HTK ⊢
        have HO2 := hid (HO1.out.kept famI (below_alloc (w := w1) (.cells #[.string (strOfNums q1), .int .i64 q2, .int .i64 q3, .int .i64 q4, .int .i64 4, .int .i64 q6, .int .i64 q7] 65)))
        have HB2 := hid (below_trans HB1.out (below_alloc (w := w1) (.cells #[.string (strOfNums q1), .int .i64 q2, .int .i64 q3, .int .i64 q4, .int .i64 4, .int .i64 q6, .int .i64 q7] 65)))
        obtain ⟨la, lc, x1, HRUN, HO3, HG⟩ := OwnA.push famI 3 66 8 (.int .i64 0) Tryz.underlying66 Tryz.infoIn3 rfl (by decide) (by decide) HO2.out (cs := [.int .i64 q6]) (x := q6) rfl HB2.out.size HNL.out
        rw [HN.out] at HRUN HO3 HG
        have hsz1 : (w1.alloc (.cells #[.string (strOfNums q1), .int .i64 q2, .int .i64 q3, .int .i64 q4, .int .i64 4, .int .i64 q6, .int .i64 q7] 65)).heap.size = w1.heap.size + 1 := by simp
        rw [hsz1] at HRUN
        clear hsz1
        have HB3 := hid (HB2.out.trans (HO2.out.bel HG.out (Nat.le_refl _) HB2.out.size))
        clear HO1 HO2 HB2 HG HB1 BX2
        go_wp2_with (first | (at_builtin; refine wpList_append_ran rfl _ _ 66 66 rfl rfl _ _ (.slice la (n + 1) lc) x1 rfl rfl HRUN.out ?_))
        exact ⟨⟨j + 1, n + 1, la, lc, rfl, by simp, by omega, hid (by rw [HTK.out, List.length_append, HN.out]; rfl), hid (by rw [HTK.out]; exact HO3.out), HB3⟩, by simp [numAt]; omega⟩
      · have k4 : (o.lab == 4) = false := by simp [hq]
        rw [if_neg hq, List.append_nil] at HTK
        clear BX2
        go_wp2
        exact ⟨⟨j + 1, n, oa, oc, rfl, by simp, by omega, hid (by rw [HTK.out]; exact HN.out), hid (by rw [HTK.out]; exact HO1.out.kept famI (by exact blBy)), hid (by have := HB1.out; exact blBy)⟩, by simp [numAt]; omega⟩
    · have k2 : ¬ (j : Int) < (ys.length : Int) := by omega
      have e1 : ys.take j = ys := List.take_of_length_le (by omega)
      rw [e1] at HO HN
      have hn9 := HN.out
      subst hn9
      obtain ⟨w2, hw2⟩ : ∃ w2, w2 = wr := ⟨_, rfl⟩
      subst hw2
      have HTR := hid fun W (hW : Below w2.heap.size w2 W) => (show RowM W (fun b => Z b ∨ w0.heap.size ≤ b) 1 (FmI W (fun b => Z b ∨ w0.heap.size ≤ b)) (.slice oa (tkn x.t.fs ys).length oc) (tkn x.t.fs ys) from RowM.keep (HO.out.row famI (Nat.le_trans (tkn_le _) l2)) (keepT hW) (fun _ _ => trivial))
      have HRV := hid fun (z : CF CM) => tkn_riv (fs := x.t.fs) (l := ys) (o := z)
      have BX2 := hid (BX.out.kept HB.out)
      have HSZ := HBw.out.size
      generalize tkn x.t.fs ys = tk at *
      generalize hP : rivB x.t.fs ys = P at *
      have HPE := hid hP
      clear hP
      clear HN HO BX HB e1
      obtain ⟨ta, hta⟩ : ∃ ta, ta = oa := ⟨_, rfl⟩
      subst hta
      obtain ⟨tc, htc⟩ : ∃ tc, tc = oc := ⟨_, rfl⟩
      subst htc
      go_wp2
      go_loopw [12, 42] (fun s12 s42 wx => ∃ (j n : Nat) (oa : Option Addr) (oc : Nat), s12 = .slice oa n oc ∧ s42 = .int .i64 (j : Int) ∧ j ≤ xs.length ∧ Hid (((xs.take j).filter P).length = n) ∧ Hid (OwnA wx w2.heap.size Z 33 3 (FmF d) (.slice oa n oc) ((xs.take j).filter P)) ∧ Hid (Below w2.heap.size w2 wx)) (fun s12 s42 wx => xs.length - numAt wx s42)
      case atStart => exact ⟨0, 0, none, 0, rfl, rfl, by omega, hid rfl, hid (OwnA.nil _ _ _ _ _ _), hid (Below.refl _ _)⟩
      case round =>
        clear hj k2
        obtain ⟨j, n, oa, oc, rfl, rfl, hj, HN, HO, HB⟩ := hrel
        have HBx : Hid (Below w.heap.size w wr) := hid (Below.trans HBw.out ⟨HB.out.os, HB.out.tape, HB.out.output, HB.out.size, fun b hb => HB.out.block b (Nat.lt_of_lt_of_le hb HBw.out.size)⟩)
        by_cases hlt : j < xs.length
        · have k3 : (j : Int) < (xs.length : Int) := by omega
          obtain ⟨b1, o1, ka, kc, va, vc, rfl, -, hb1, c0, c1, c2, he⟩ := fls_at (FlsR.kept H1.out HBw.out) hlt
          have HE := hid he
          have HTK : Hid ((xs.take (j + 1)).filter P = (xs.take j).filter P ++ (if P xs[j] = true then [xs[j]] else [])) := hid (by rw [List.take_succ_eq_append_getElem hlt, List.filter_append]; congr 1; by_cases q : P xs[j] = true <;> simp [q])
          have HNL : Hid (((xs.take j).filter P).length ≤ 4000000) := hid (Nat.le_trans (List.length_filter_le _ _) (by rw [List.length_take]; omega))
          have BX1 := hid (BX2.out.kept HB.out)
          have xx := BX1.out.cellF
          have zx := BX1.out.lt
          replace c0 := cell_below c0 HB.out
          replace c1 := cell_below c1 HB.out
          replace c2 := cell_below c2 HB.out
          clear he
          generalize xs[j] = z at *
          have HPZ := hid (HRV.out z)
          go_wp2_with fail
          refine (HFI.out _ (by have := HBx.out; exact blBy) _).mono ?_
          rintro e w1 ⟨rfl, hbx⟩
          have HB1 := hid (below_trans HB.out (below_trans (below_alloc _) hbx))
          have HO1 := hid (HO.out.kept (famF d) (below_trans (below_alloc _) hbx))
          have BZ : Hid (Blk w1 wr.heap.size 33 #[.int .i64 z.num, .slice ka z.ks.length kc, .slice va z.vs.length vc]) := hid ((Blk.new _ _ _).kept hbx)
          clear hbx HO HB xx zx c0 c1 c2 BX1 HBx
          generalize wr.heap.size = pz at *
          unfold tFT
          generalize ownF x.t.fs z.num = o at *
          by_cases hq : o.lab = 4
          · obtain ⟨q1, q2, q3, q4, q5, q6, q7⟩ := o
            obtain rfl : q5 = 4 := hq
            dsimp only at HPZ ⊢
            cases ht : tk.contains q6 with
            | true =>
              rw [HPZ.out, ht] at HTK
              simp only [decide_true, Bool.not_true, Bool.or_self, if_neg (show ¬ (false = true) by decide), List.append_nil] at HTK
              have HTK2 := hid HTK
              clear HPZ HTK
              go_wp2_with (go_at_call 87; refine (containsI _ _ tk q6 ta tc (HTR.out _ (by have := HB1.out; exact blBy))).mono ?_; rintro e w9 ⟨rfl, rfl⟩; rw [ht])
              exact ⟨⟨j + 1, n, oa, oc, rfl, by simp, by omega, hid (by rw [HTK2.out.out]; exact HN.out), hid (by rw [HTK2.out.out]; exact HO1.out.kept (famF d) (by exact blBy)), hid (by have := HB1.out; exact blBy)⟩, by simp [numAt]; omega⟩
            | false =>
              rw [HPZ.out, ht] at HTK
              simp only [decide_true, Bool.not_true, Bool.not_false, Bool.false_or, if_true] at HTK
              clear HPZ
              have HO2 := hid (HO1.out.kept (famF d) (below_alloc (w := w1) (.cells #[.string (strOfNums q1), .int .i64 q2, .int .i64 q3, .int .i64 q4, .int .i64 4, .int .i64 q6, .int .i64 q7] 65)))
              have HB2 := hid (below_trans HB1.out (below_alloc (w := w1) (.cells #[.string (strOfNums q1), .int .i64 q2, .int .i64 q3, .int .i64 q4, .int .i64 4, .int .i64 q6, .int .i64 q7] 65)))
              have HZ := hid (zofA_old (famF d) HO2.out HE.out HB2.out)
              obtain ⟨la, lc, x1, HRUN, HO3, HG⟩ := OwnA.push (famF d) 33 26 56 (.agg #[.int .i64 0, .slice none 0 0, .slice none 0 0]) Tryz.underlying26 Tryz.infoF rfl (by decide) (by decide) HO2.out HZ.out HB2.out.size HNL.out
              rw [HN.out] at HRUN HO3 HG
              have hsz1 : (w1.alloc (.cells #[.string (strOfNums q1), .int .i64 q2, .int .i64 q3, .int .i64 q4, .int .i64 4, .int .i64 q6, .int .i64 q7] 65)).heap.size = w1.heap.size + 1 := by simp
              rw [hsz1] at HRUN
              clear hsz1
              have HB3 := hid (HB2.out.trans (HO2.out.bel HG.out (Nat.le_refl _) HB2.out.size))
              have xb := BZ.out.cellF
              have zb := BZ.out.lt
              clear HO2 HB2 HG HZ HO1
              go_wp2_with (first | (at_builtin; refine wpList_append_ran rfl _ _ 26 26 rfl rfl _ _ (.slice la (n + 1) lc) x1 rfl rfl HRUN.out ?_) | (go_at_call 87; refine (containsI _ _ tk q6 ta tc (HTR.out _ (by have := HB1.out; exact blBy))).mono ?_; rintro e w9 ⟨rfl, rfl⟩; rw [ht]))
              exact ⟨⟨j + 1, n + 1, la, lc, rfl, by simp, by omega, hid (by rw [HTK.out, List.length_append, HN.out]; rfl), hid (by rw [HTK.out]; exact HO3.out), HB3⟩, by simp [numAt]; omega⟩
          · have hk : decide (o.lab = 4) = false := by simp [hq]
            rw [HPZ.out, hk] at HTK
            simp only [Bool.not_false, Bool.true_or, if_true] at HTK
            have k4 : (o.lab == 4) = false := by simp [hq]
            clear HPZ hk
            have HO2 := hid (HO1.out.kept (famF d) (below_alloc (w := w1) (.cells #[.string (strOfNums o.name), .int .i64 o.num, .int .i64 o.kind, .int .i64 o.ref, .int .i64 o.lab, .int .i64 o.one, .int .i64 o.key] 65)))
            have HB2 := hid (below_trans HB1.out (below_alloc (w := w1) (.cells #[.string (strOfNums o.name), .int .i64 o.num, .int .i64 o.kind, .int .i64 o.ref, .int .i64 o.lab, .int .i64 o.one, .int .i64 o.key] 65)))
            have HZ := hid (zofA_old (famF d) HO2.out HE.out HB2.out)
            obtain ⟨la, lc, x1, HRUN, HO3, HG⟩ := OwnA.push (famF d) 33 26 56 (.agg #[.int .i64 0, .slice none 0 0, .slice none 0 0]) Tryz.underlying26 Tryz.infoF rfl (by decide) (by decide) HO2.out HZ.out HB2.out.size HNL.out
            rw [HN.out] at HRUN HO3 HG
            have hsz1 : (w1.alloc (.cells #[.string (strOfNums o.name), .int .i64 o.num, .int .i64 o.kind, .int .i64 o.ref, .int .i64 o.lab, .int .i64 o.one, .int .i64 o.key] 65)).heap.size = w1.heap.size + 1 := by simp
            rw [hsz1] at HRUN
            clear hsz1
            have HB3 := hid (HB2.out.trans (HO2.out.bel HG.out (Nat.le_refl _) HB2.out.size))
            have xb := BZ.out.cellF
            have zb := BZ.out.lt
            clear HO2 HB2 HG HZ HO1
            go_wp2_with (first | (at_builtin; refine wpList_append_ran rfl _ _ 26 26 rfl rfl _ _ (.slice la (n + 1) lc) x1 rfl rfl HRUN.out ?_))
            exact ⟨⟨j + 1, n + 1, la, lc, rfl, by simp, by omega, hid (by rw [HTK.out, List.length_append, HN.out]; rfl), hid (by rw [HTK.out]; exact HO3.out), HB3⟩, by simp [numAt]; omega⟩
        · have k3 : ¬ (j : Int) < (xs.length : Int) := by omega
          have e1 : xs.take j = xs := List.take_of_length_le (by omega)
          rw [e1] at HO HN
          have hn9 := HN.out
          subst hn9
          have HRW := hid (HO.out.row (famF d) (fl_le l1))
          clear e1 HN HO
          have hP := HPE.out
          subst hP
          go_wp2
          go_ret
          exact ⟨oa, oc, rfl, FlsR.go HRW.out (Keep.refl (fun _ => True) wr) (fun _ _ => trivial) (fun b hz => hz.elim Or.inl (fun h => Or.inr (Nat.le_trans HSZ h))), HBx.out⟩
end Go.Proofs.YtkifjpaoncjokaaGreatDoor
