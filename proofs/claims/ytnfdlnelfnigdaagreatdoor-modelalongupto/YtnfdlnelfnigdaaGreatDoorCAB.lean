/-
  Equal: what the program answers.
  Rows of one's own, of structs that hold other rows.
  What a function makes of each one of a list.
  The messages of a field, one by one: the iterator's contract.
-/
import Derived.Test.YtnfdlnelfnigdaaGreatDoorCTI
import Derived.Test.YtnfdlnelfnigdaaGreatDoorTO
import Derived.Laws.OwnMore
import Derived.RangeFuncNested
import Derived.RangeFuncBound
import Derived.RangeFuncCalls
import Derived.RangeFuncLeaves
import Derived.Shelf.Abstract
import Derived.Shelf.RegionOpen
import Derived.WalkKit
import Derived.OwnWalkIn
import Derived.TacticsInMore
import Derived.LoopNIn
import Derived.LoopIn
namespace Go.Proofs.YtnfdlnelfnigdaaGreatDoor
open Go.RowKit
set_option maxRecDepth 1000000
set_option linter.unusedVariables false
set_option linter.unusedSimpArgs false
set_option maxHeartbeats 1000000
theorem mgs_at' {w : World} {Z : Nat → Prop} {d : Nat} {a : Option Addr} {n c : Nat} {xs : List CM} (h : MgsR w Z d (.slice a n c) xs) {i : Nat} (hi : i < xs.length) : ∃ b o fa fc ua uc, a = some ⟨b, o, none⟩ ∧ Z b ∧ b < w.heap.size ∧ w.cell? ⟨b, o + i * 2, none⟩ = some (.slice fa xs[i].fs.length fc) ∧ w.cell? ⟨b, o + i * 2 + 1, none⟩ = some (.slice ua xs[i].us.length uc) ∧ MsgE w Z d [.slice fa xs[i].fs.length fc, .slice ua xs[i].us.length uc] xs[i] := by
  cases d with
  | zero => rw [mgs_zero h] at hi; simp at hi
  | succ d => exact mgs_at h hi
/-- A bool that says P. -/
def EqR (w : World) (P : Prop) (e : Ending) (w' : World) : Prop := ∃ r : Bool, e = .returned (.bool r) ∧ (r = true ↔ P) ∧ Below w.heap.size w w'
theorem EqR.mk {w : World} {P : Prop} {w' : World} (r : Bool) (h : r = true ↔ P) (hb : Below w.heap.size w w') : EqR w P (.returned (.bool r)) w' := ⟨r, rfl, h, hb⟩
theorem EqR.yes {w : World} {P : Prop} {w' : World} (h : P) (hb : Below w.heap.size w w') : EqR w P (.returned (.bool true)) w' := ⟨true, rfl, ⟨fun _ => h, fun _ => rfl⟩, hb⟩
theorem EqR.no {w : World} {P : Prop} {w' : World} (h : ¬ P) (hb : Below w.heap.size w w') : EqR w P (.returned (.bool false)) w' := ⟨false, rfl, ⟨fun q => (by cases q), fun q => absurd q h⟩, hb⟩
theorem take_next {α : Type} {xs ys : List α} {i : Nat} (h1 : i < xs.length) (h2 : i < ys.length) (h : xs.take i = ys.take i) (he : xs[i] = ys[i]) : xs.take (i + 1) = ys.take (i + 1) := by
  rw [List.take_succ_eq_append_getElem h1, List.take_succ_eq_append_getElem h2, h, he]
theorem take_all {α : Type} {xs ys : List α} {i : Nat} (h1 : xs.length ≤ i) (h2 : ys.length ≤ i) (h : xs.take i = ys.take i) : xs = ys := by
  rw [List.take_of_length_le h1, List.take_of_length_le h2] at h
  exact h
theorem ne_at {α : Type} {xs ys : List α} {i : Nat} (h1 : i < xs.length) (h2 : i < ys.length) (h : ¬ xs[i] = ys[i]) : ¬ xs = ys := by
  intro e
  subst e
  exact h rfl
/-- Bytes as a string. -/
theorem by_conv {w : World} {Z : Nat → Prop} {a : Option Addr} {n c : Nat} {b : List Int} (h : ByE w Z (.slice a n c) b) : (convert 23 9 (.slice a n c)).run Tryz.prog w = .ok (.string (strOfNums b)) w := by
  obtain ⟨⟨a', c', e, hv⟩, hbd, -⟩ := h
  cases e
  rcases hv.cells with ⟨h0, hn⟩ | ⟨b', off, rfl, _, hc⟩
  · have hx : b = [] := List.eq_nil_of_length_eq_zero h0
    subst hx
    cases a with
    | none => exact run_convert_bytes_nil w 23 5 Tryz.underlying23 Tryz.underlying5 0 c 9 Tryz.underlying9
    | some x =>
      show (convert 23 9 (.slice (some x) 0 c)).run Tryz.prog w = _
      rw [run_convert_bytes_string w 23 9 5 _ 0 c Tryz.underlying23 Tryz.underlying5 Tryz.underlying9, run_bytesToString w _ 0 c [] (by simp [loadCells, loadCellsFrom])]
      rfl
  · exact run_convert_bytes_arg w 23 5 Tryz.underlying23 Tryz.underlying5 b' off b.length c b rfl (fun i hi => hc i _ (by simp [List.getD, hi])) 9 Tryz.underlying9
theorem bytesEqT (w : World) (Z Z' : Nat → Prop) (a1 a2 : Option Addr) (c1 c2 : Nat) (x y : List Int) (h1 : ByE w Z (.slice a1 x.length c1) x) (h2 : ByE w Z' (.slice a2 y.length c2) y) : Calls Tryz.prog 96 #[.slice a1 x.length c1, .slice a2 y.length c2] w (EqR w (x = y)) := by
  have k1 := by_conv h1
  have k2 := by_conv h2
  have HS := hid (str_eq (xs := x) (ys := y) (fun v hv => h1.2.1 v hv) (fun v hv => h2.2.1 v hv))
  clear h1 h2
  go_enter Tryz.func96, Tryz.ntmps96
  go_wp2
  go_ret
  exact EqR.mk _ (by have := HS.out; rw [this]; simp) (Below.refl _ _)
theorem eqfF (w : World) (Z Z2 : Nat → Prop) (d : Nat) (xs ys : List (CF CM)) (a1 a2 : Option Addr) (c1 c2 : Nat) (h1 : FlsR w Z d (.slice a1 xs.length c1) xs) (h2 : FlsR w Z2 d (.slice a2 ys.length c2) ys)
    (hf : ∀ (W : World), Below w.heap.size w W → ∀ (cs ds : List Value) (x y : CF CM), FldE W Z (MsgE W Z d) cs x → FldE W Z2 (MsgE W Z2 d) ds y → Calls Tryz.prog 51 #[.agg cs.toArray, .agg ds.toArray] W (EqR W (x = y))) : Calls Tryz.prog 50 #[.slice a1 xs.length c1, .slice a2 ys.length c2, .func (.func 51) #[] #[]] w (EqR w (xs = ys)) := by
  obtain ⟨_, _, e1, l1⟩ := RowM.sl h1
  clear e1
  obtain ⟨_, _, e2, l2⟩ := RowM.sl h2
  clear e2
  have m1 : (xs.length : Int) ≤ 9223372036854775807 := by omega
  have H1 := hid h1
  have H2 := hid h2
  have HF := hid hf
  clear h1 h2 hf
  by_cases hl : xs.length = ys.length
  · have HL := hid hl
    rw [← hl] at H2
    rw [← hl]
    clear hl l2
    go_enter Tryz.func50, Tryz.ntmps50
    go_wp2
    go_loopw [17] (fun r wr => ∃ j : Nat, r = .int .i64 j ∧ j ≤ xs.length ∧ Hid (xs.take j = ys.take j) ∧ Hid (Below w.heap.size w wr)) (fun r wr => xs.length - numAt wr r)
    case atStart => exact ⟨0, rfl, by omega, hid rfl, hid (Below.refl _ _)⟩
    case round =>
      obtain ⟨j, rfl, hj, hT, hb⟩ := hrel
      by_cases hlt : j < xs.length
      · have k2 : (j : Int) < (xs.length : Int) := by omega
        have hlt2 : j < ys.length := by have := HL.out; omega
        obtain ⟨b1, o1, ka1, kc1, va1, vc1, rfl, -, hb1, c10, c11, c12, he1⟩ := fls_at (H1.out.kept hb.out) hlt
        obtain ⟨b2, o2, ka2, kc2, va2, vc2, rfl, -, hb2, c20, c21, c22, he2⟩ := fls_at (H2.out.kept hb.out) hlt2
        have HE1 := hid he1
        have HE2 := hid he2
        have HN := hid (fun h => take_next hlt hlt2 hT.out h)
        have HNO := hid (fun h => ne_at (xs := xs) (ys := ys) hlt hlt2 h)
        clear he1 he2
        generalize xs[j] = x at *
        generalize ys[j] = y at *
        go_wp2_with fail
        refine (HF.out _ (by have := hb.out; exact blBy) [.int .i64 x.num, .slice ka1 x.ks.length kc1, .slice va1 x.vs.length vc1] [.int .i64 y.num, .slice ka2 y.ks.length kc2, .slice va2 y.vs.length vc2] x y (HE1.out.kept (by exact blBy)) (HE2.out.kept (by exact blBy))).mono ?_
        rintro e w1 ⟨r, rfl, hr, hbx⟩
        have HR := hid hr
        have HB1 : Hid (Below w.heap.size w w1) := hid (bl_then (by have := hb.out; exact blBy) hbx)
        clear hbx hr
        cases r with
        | true =>
          have HX : Hid (x = y) := hid (HR.out.1 rfl)
          clear HR
          go_wp2
          exact ⟨⟨j + 1, by simp, by omega, hid (HN.out HX.out), HB1⟩, by simp [numAt]; omega⟩
        | false =>
          have HX : Hid (¬ x = y) := hid (fun e => (by have := HR.out.2 e; cases this))
          clear HR
          go_wp2
          go_ret
          exact EqR.no (HNO.out HX.out) HB1.out
      · have k2 : ¬ (j : Int) < (xs.length : Int) := by omega
        go_wp2
        go_ret
        exact EqR.yes (take_all (by omega) (by have := HL.out; omega) hT.out) hb.out
  · have q0 : ((xs.length : Int) == (ys.length : Int)) = false := by simp; omega
    have HL := hid hl
    clear hl
    go_enter Tryz.func50, Tryz.ntmps50
    go_wp2
    go_ret
    exact EqR.no (fun q => HL.out (by rw [q])) (Below.refl _ _)
theorem eqfV (w : World) (Z Z2 : Nat → Prop) (d : Nat) (xs ys : List (CV CM)) (a1 a2 : Option Addr) (c1 c2 : Nat) (h1 : VlsR w Z d (.slice a1 xs.length c1) xs) (h2 : VlsR w Z2 d (.slice a2 ys.length c2) ys)
    (hf : ∀ (W : World), Below w.heap.size w W → ∀ (cs ds : List Value) (x y : CV CM), ValE W Z (MsgE W Z d) cs x → ValE W Z2 (MsgE W Z2 d) ds y → Calls Tryz.prog 95 #[.agg cs.toArray, .agg ds.toArray] W (EqR W (x = y))) : Calls Tryz.prog 94 #[.slice a1 xs.length c1, .slice a2 ys.length c2, .func (.func 95) #[] #[]] w (EqR w (xs = ys)) := by
  obtain ⟨_, _, e1, l1⟩ := RowM.sl h1
  clear e1
  obtain ⟨_, _, e2, l2⟩ := RowM.sl h2
  clear e2
  have m1 : (xs.length : Int) ≤ 9223372036854775807 := by omega
  have H1 := hid h1
  have H2 := hid h2
  have HF := hid hf
  clear h1 h2 hf
  by_cases hl : xs.length = ys.length
  · have HL := hid hl
    rw [← hl] at H2
    rw [← hl]
    clear hl l2
    go_enter Tryz.func94, Tryz.ntmps94
    go_wp2
    go_loopw [17] (fun r wr => ∃ j : Nat, r = .int .i64 j ∧ j ≤ xs.length ∧ Hid (xs.take j = ys.take j) ∧ Hid (Below w.heap.size w wr)) (fun r wr => xs.length - numAt wr r)
    case atStart => exact ⟨0, rfl, by omega, hid rfl, hid (Below.refl _ _)⟩
    case round =>
      obtain ⟨j, rfl, hj, hT, hb⟩ := hrel
      by_cases hlt : j < xs.length
      · have k2 : (j : Int) < (xs.length : Int) := by omega
        have hlt2 : j < ys.length := by have := HL.out; omega
        obtain ⟨b1, o1, ka1, kc1, va1, vc1, rfl, -, hb1, c10, c11, c12, he1⟩ := vls_at (H1.out.kept hb.out) hlt
        obtain ⟨b2, o2, ka2, kc2, va2, vc2, rfl, -, hb2, c20, c21, c22, he2⟩ := vls_at (H2.out.kept hb.out) hlt2
        have HE1 := hid he1
        have HE2 := hid he2
        have HN := hid (fun h => take_next hlt hlt2 hT.out h)
        have HNO := hid (fun h => ne_at (xs := xs) (ys := ys) hlt hlt2 h)
        clear he1 he2
        generalize xs[j] = x at *
        generalize ys[j] = y at *
        go_wp2_with fail
        refine (HF.out _ (by have := hb.out; exact blBy) [.int .u64 x.n, .slice ka1 x.b.length kc1, .slice va1 x.ms.length vc1] [.int .u64 y.n, .slice ka2 y.b.length kc2, .slice va2 y.ms.length vc2] x y (HE1.out.kept (by exact blBy)) (HE2.out.kept (by exact blBy))).mono ?_
        rintro e w1 ⟨r, rfl, hr, hbx⟩
        have HR := hid hr
        have HB1 : Hid (Below w.heap.size w w1) := hid (bl_then (by have := hb.out; exact blBy) hbx)
        clear hbx hr
        cases r with
        | true =>
          have HX : Hid (x = y) := hid (HR.out.1 rfl)
          clear HR
          go_wp2
          exact ⟨⟨j + 1, by simp, by omega, hid (HN.out HX.out), HB1⟩, by simp [numAt]; omega⟩
        | false =>
          have HX : Hid (¬ x = y) := hid (fun e => (by have := HR.out.2 e; cases this))
          clear HR
          go_wp2
          go_ret
          exact EqR.no (HNO.out HX.out) HB1.out
      · have k2 : ¬ (j : Int) < (xs.length : Int) := by omega
        go_wp2
        go_ret
        exact EqR.yes (take_all (by omega) (by have := HL.out; omega) hT.out) hb.out
  · have q0 : ((xs.length : Int) == (ys.length : Int)) = false := by simp; omega
    have HL := hid hl
    clear hl
    go_enter Tryz.func94, Tryz.ntmps94
    go_wp2
    go_ret
    exact EqR.no (fun q => HL.out (by rw [q])) (Below.refl _ _)
theorem eqfM (w : World) (Z Z2 : Nat → Prop) (d : Nat) (xs ys : List (CM)) (a1 a2 : Option Addr) (c1 c2 : Nat) (h1 : MgsR w Z d (.slice a1 xs.length c1) xs) (h2 : MgsR w Z2 d (.slice a2 ys.length c2) ys)
    (hf : ∀ (W : World), Below w.heap.size w W → ∀ (cs ds : List Value) (x y : CM), MsgE W Z d cs x → MsgE W Z2 d ds y → Calls Tryz.prog 24 #[.agg cs.toArray, .agg ds.toArray] W (EqR W (x = y))) : Calls Tryz.prog 126 #[.slice a1 xs.length c1, .slice a2 ys.length c2, .func (.func 24) #[] #[]] w (EqR w (xs = ys)) := by
  obtain ⟨_, _, e1, l1⟩ := RowM.sl h1
  clear e1
  obtain ⟨_, _, e2, l2⟩ := RowM.sl h2
  clear e2
  have m1 : (xs.length : Int) ≤ 9223372036854775807 := by omega
  have H1 := hid h1
  have H2 := hid h2
  have HF := hid hf
  clear h1 h2 hf
  by_cases hl : xs.length = ys.length
  · have HL := hid hl
    rw [← hl] at H2
    rw [← hl]
    clear hl l2
    go_enter Tryz.func126, Tryz.ntmps126
    go_wp2
    go_loopw [17] (fun r wr => ∃ j : Nat, r = .int .i64 j ∧ j ≤ xs.length ∧ Hid (xs.take j = ys.take j) ∧ Hid (Below w.heap.size w wr)) (fun r wr => xs.length - numAt wr r)
    case atStart => exact ⟨0, rfl, by omega, hid rfl, hid (Below.refl _ _)⟩
    case round =>
      obtain ⟨j, rfl, hj, hT, hb⟩ := hrel
      by_cases hlt : j < xs.length
      · have k2 : (j : Int) < (xs.length : Int) := by omega
        have hlt2 : j < ys.length := by have := HL.out; omega
        obtain ⟨b1, o1, ka1, kc1, va1, vc1, rfl, -, hb1, c10, c11, he1⟩ := mgs_at' (H1.out.kept hb.out) hlt
        obtain ⟨b2, o2, ka2, kc2, va2, vc2, rfl, -, hb2, c20, c21, he2⟩ := mgs_at' (H2.out.kept hb.out) hlt2
        have HE1 := hid he1
        have HE2 := hid he2
        have HN := hid (fun h => take_next hlt hlt2 hT.out h)
        have HNO := hid (fun h => ne_at (xs := xs) (ys := ys) hlt hlt2 h)
        clear he1 he2
        generalize xs[j] = x at *
        generalize ys[j] = y at *
        go_wp2_with fail
        refine (HF.out _ (by have := hb.out; exact blBy) [.slice ka1 x.fs.length kc1, .slice va1 x.us.length vc1] [.slice ka2 y.fs.length kc2, .slice va2 y.us.length vc2] x y (HE1.out.kept (by exact blBy)) (HE2.out.kept (by exact blBy))).mono ?_
        rintro e w1 ⟨r, rfl, hr, hbx⟩
        have HR := hid hr
        have HB1 : Hid (Below w.heap.size w w1) := hid (bl_then (by have := hb.out; exact blBy) hbx)
        clear hbx hr
        cases r with
        | true =>
          have HX : Hid (x = y) := hid (HR.out.1 rfl)
          clear HR
          go_wp2
          exact ⟨⟨j + 1, by simp, by omega, hid (HN.out HX.out), HB1⟩, by simp [numAt]; omega⟩
        | false =>
          have HX : Hid (¬ x = y) := hid (fun e => (by have := HR.out.2 e; cases this))
          clear HR
          go_wp2
          go_ret
          exact EqR.no (HNO.out HX.out) HB1.out
      · have k2 : ¬ (j : Int) < (xs.length : Int) := by omega
        go_wp2
        go_ret
        exact EqR.yes (take_all (by omega) (by have := HL.out; omega) hT.out) hb.out
  · have q0 : ((xs.length : Int) == (ys.length : Int)) = false := by simp; omega
    have HL := hid hl
    clear hl
    go_enter Tryz.func126, Tryz.ntmps126
    go_wp2
    go_ret
    exact EqR.no (fun q => HL.out (by rw [q])) (Below.refl _ _)
theorem eqfE (w : World) (Z Z2 : Nat → Prop) (xs ys : List (CE)) (a1 a2 : Option Addr) (c1 c2 : Nat) (h1 : EnsR w Z (.slice a1 xs.length c1) xs) (h2 : EnsR w Z2 (.slice a2 ys.length c2) ys)
    (hf : ∀ (W : World), Below w.heap.size w W → ∀ (cs ds : List Value) (x y : CE), EntE W Z cs x → EntE W Z2 ds y → Calls Tryz.prog 53 #[.agg cs.toArray, .agg ds.toArray] W (EqR W (x = y))) : Calls Tryz.prog 52 #[.slice a1 xs.length c1, .slice a2 ys.length c2, .func (.func 53) #[] #[]] w (EqR w (xs = ys)) := by
  obtain ⟨_, _, e1, l1⟩ := RowM.sl h1
  clear e1
  obtain ⟨_, _, e2, l2⟩ := RowM.sl h2
  clear e2
  have m1 : (xs.length : Int) ≤ 9223372036854775807 := by omega
  have H1 := hid h1
  have H2 := hid h2
  have HF := hid hf
  clear h1 h2 hf
  by_cases hl : xs.length = ys.length
  · have HL := hid hl
    rw [← hl] at H2
    rw [← hl]
    clear hl l2
    go_enter Tryz.func52, Tryz.ntmps52
    go_wp2
    go_loopw [17] (fun r wr => ∃ j : Nat, r = .int .i64 j ∧ j ≤ xs.length ∧ Hid (xs.take j = ys.take j) ∧ Hid (Below w.heap.size w wr)) (fun r wr => xs.length - numAt wr r)
    case atStart => exact ⟨0, rfl, by omega, hid rfl, hid (Below.refl _ _)⟩
    case round =>
      obtain ⟨j, rfl, hj, hT, hb⟩ := hrel
      by_cases hlt : j < xs.length
      · have k2 : (j : Int) < (xs.length : Int) := by omega
        have hlt2 : j < ys.length := by have := HL.out; omega
        obtain ⟨b1, o1, ka1, kc1, rfl, -, hb1, c10, c11, c12, c13, he1⟩ := ens_at (H1.out.kept hb.out) hlt
        obtain ⟨b2, o2, ka2, kc2, rfl, -, hb2, c20, c21, c22, c23, he2⟩ := ens_at (H2.out.kept hb.out) hlt2
        have HE1 := hid he1
        have HE2 := hid he2
        have HN := hid (fun h => take_next hlt hlt2 hT.out h)
        have HNO := hid (fun h => ne_at (xs := xs) (ys := ys) hlt hlt2 h)
        clear he1 he2
        generalize xs[j] = x at *
        generalize ys[j] = y at *
        go_wp2_with fail
        refine (HF.out _ (by have := hb.out; exact blBy) [.int .i64 x.num, .int .i64 x.kind, .int .u64 x.n, .slice ka1 x.b.length kc1] [.int .i64 y.num, .int .i64 y.kind, .int .u64 y.n, .slice ka2 y.b.length kc2] x y (HE1.out.kept (by exact blBy)) (HE2.out.kept (by exact blBy))).mono ?_
        rintro e w1 ⟨r, rfl, hr, hbx⟩
        have HR := hid hr
        have HB1 : Hid (Below w.heap.size w w1) := hid (bl_then (by have := hb.out; exact blBy) hbx)
        clear hbx hr
        cases r with
        | true =>
          have HX : Hid (x = y) := hid (HR.out.1 rfl)
          clear HR
          go_wp2
          exact ⟨⟨j + 1, by simp, by omega, hid (HN.out HX.out), HB1⟩, by simp [numAt]; omega⟩
        | false =>
          have HX : Hid (¬ x = y) := hid (fun e => (by have := HR.out.2 e; cases this))
          clear HR
          go_wp2
          go_ret
          exact EqR.no (HNO.out HX.out) HB1.out
      · have k2 : ¬ (j : Int) < (xs.length : Int) := by omega
        go_wp2
        go_ret
        exact EqR.yes (take_all (by omega) (by have := HL.out; omega) hT.out) hb.out
  · have q0 : ((xs.length : Int) == (ys.length : Int)) = false := by simp; omega
    have HL := hid hl
    clear hl
    go_enter Tryz.func52, Tryz.ntmps52
    go_wp2
    go_ret
    exact EqR.no (fun q => HL.out (by rw [q])) (Below.refl _ _)
end Go.Proofs.YtnfdlnelfnigdaaGreatDoor
namespace Go.Proofs.YtnfdlnelfnigdaaGreatDoor
open Go.RowKit
set_option maxRecDepth 1000000
set_option linter.unusedVariables false
set_option linter.unusedSimpArgs false
set_option maxHeartbeats 1000000
/-- What is needed of a struct's relation. -/
structure Fam {α : Type} (k : Nat) (E : World → (Nat → Prop) → List Value → α → Prop) : Prop where
  go : ∀ {w w' : World} {Z Z' f : Nat → Prop} {cs : List Value} {x : α}, E w Z cs x → Keep f w w' → (∀ b, Z b → f b) → (∀ b, Z b → Z' b) → E w' Z' cs x
  old : ∀ {w : World} {Z : Nat → Prop} {cs : List Value} {x : α}, E w Z cs x → E w (fun b => Z b ∧ b < w.heap.size) cs x
  one : ∀ {w : World} {Z : Nat → Prop} {cs : List Value} {x : α}, E w Z cs x → ∀ u ∈ cs, u.oneCell' = true
  len : ∀ {w : World} {Z : Nat → Prop} {cs : List Value} {x : α}, E w Z cs x → cs.length = k
theorem row_oldZ {w : World} {Z : Nat → Prop} {k : Nat} {v : Value} {n : Nat} {fl : List Value} (hk : 0 < k) (h : RowS w Z k v n fl) : RowS w (fun b => Z b ∧ b < w.heap.size) k v n fl := by
  obtain ⟨a, c, e, h⟩ := h
  refine ⟨a, c, e, h.length, h.le, h.max, ?_⟩
  rcases h.cells with h0 | ⟨b, off, rfl, hz, hc⟩
  · exact .inl h0
  · by_cases hn : n = 0
    · exact .inl ⟨hn, fun q => by cases q⟩
    · have hlt : 0 < fl.length := by rw [h.length]; exact Nat.mul_pos (by omega) hk
      exact .inr ⟨b, off, rfl, ⟨hz, World.block_lt_of_cell? _ _ (hc 0 _ (List.getElem?_eq_getElem hlt))⟩, hc⟩
theorem RowM.old {α : Type} {w : World} {Z : Nat → Prop} {k : Nat} {E E' : List Value → α → Prop} {v : Value} {xs : List α} (hk : 0 < k) (h : RowM w Z k E v xs) (hE : ∀ cs x, x ∈ xs → E cs x → E' cs x) : RowM w (fun b => Z b ∧ b < w.heap.size) k E' v xs := by
  obtain ⟨ts, hr, hl, hn, he⟩ := h
  exact ⟨ts, row_oldZ hk hr, hl, hn, fun i t x ht hx => hE _ _ (List.mem_of_getElem? hx) (he i t x ht hx)⟩
theorem ByE.old {w : World} {Z : Nat → Prop} {v : Value} {b : List Int} (h : ByE w Z v b) : ByE w (fun b => Z b ∧ b < w.heap.size) v b := ⟨row_oldZ (by decide) h.1, h.2⟩
theorem EntE.old {w : World} {Z : Nat → Prop} {cs : List Value} {x : CE} (h : EntE w Z cs x) : EntE w (fun b => Z b ∧ b < w.heap.size) cs x := by
  obtain ⟨bv, e, h1, h2⟩ := h
  exact ⟨bv, e, h1.old, h2⟩
theorem ValE.old' {w : World} {Z : Nat → Prop} {R R' : List Value → CM → Prop} {cs : List Value} {x : CV CM} (h : ValE w Z R cs x) (hR : ∀ cs m, R cs m → R' cs m) : ValE w (fun b => Z b ∧ b < w.heap.size) R' cs x := by
  obtain ⟨bv, mv, e, h1, h2, h3⟩ := h
  exact ⟨bv, mv, e, h1.old, h2.old (by decide) (fun cs m _ => hR cs m), h3⟩
theorem FldE.old' {w : World} {Z : Nat → Prop} {R R' : List Value → CM → Prop} {cs : List Value} {x : CF CM} (h : FldE w Z R cs x) (hR : ∀ cs m, R cs m → R' cs m) : FldE w (fun b => Z b ∧ b < w.heap.size) R' cs x := by
  obtain ⟨kv, vv, e, h1, h2, h3⟩ := h
  exact ⟨kv, vv, e, h1.old (by decide) (fun cs v _ hv => hv.old' hR), h2.old (by decide) (fun cs v _ hv => hv.old' hR), h3⟩
theorem MsgE.old {w : World} {Z : Nat → Prop} : ∀ (d : Nat) (cs : List Value) (m : CM), MsgE w Z d cs m → MsgE w (fun b => Z b ∧ b < w.heap.size) d cs m
  | 0, _, _, h => h.elim
  | d + 1, cs, m, ⟨fv, uv, e, h1, h2⟩ => ⟨fv, uv, e, h1.old (by decide) (fun cs x _ hx => hx.old' (MsgE.old d)), h2.old (by decide) (fun cs x _ hx => hx.old)⟩
theorem famM (d : Nat) : Fam 2 (fun w Z => MsgE w Z d) where
  go h g hf hz := MsgE.go g hf hz d _ _ h
  old h := MsgE.old d _ _ h
  one h u hu := by
    cases d with
    | zero => exact h.elim
    | succ d =>
      obtain ⟨fa, fc, ua, uc, rfl, _⟩ := msg_open h
      simp at hu
      rcases hu with rfl | rfl <;> rfl
  len h := by
    cases d with
    | zero => exact h.elim
    | succ d =>
      obtain ⟨fa, fc, ua, uc, rfl, _⟩ := msg_open h
      rfl
theorem famV (d : Nat) : Fam 3 (fun w Z => ValE w Z (MsgE w Z d)) where
  go h g hf hz := h.go g hf hz (fun cs m _ hm => MsgE.go g hf hz d cs m hm)
  old h := h.old' (MsgE.old d)
  one h u hu := by
    obtain ⟨ba, bc, ma, mc, rfl, _⟩ := val_open h
    simp at hu
    rcases hu with rfl | rfl | rfl <;> rfl
  len h := by
    obtain ⟨ba, bc, ma, mc, rfl, _⟩ := val_open h
    rfl
theorem famF (d : Nat) : Fam 3 (fun w Z => FldE w Z (MsgE w Z d)) where
  go h g hf hz := h.go g hf hz (MsgE.go g hf hz d)
  old h := h.old' (MsgE.old d)
  one h u hu := by
    obtain ⟨ba, bc, ma, mc, rfl, _⟩ := fld_open h
    simp at hu
    rcases hu with rfl | rfl | rfl <;> rfl
  len h := by
    obtain ⟨ba, bc, ma, mc, rfl, _⟩ := fld_open h
    rfl
theorem famE : Fam 4 (fun w Z => EntE w Z) where
  go h g hf hz := (h.keep g hf).weak hz
  old h := h.old
  one h u hu := by
    obtain ⟨ba, bc, rfl, _⟩ := ent_open h
    simp at hu
    rcases hu with rfl | rfl | rfl | rfl <;> rfl
  len h := by
    obtain ⟨ba, bc, rfl, _⟩ := ent_open h
    rfl
/-- Old memory from base on, but for v's own block. -/
def Zof (w : World) (base : Nat) (v : Value) (b : Nat) : Prop := base ≤ b ∧ b < w.heap.size ∧ v.ownBlock ≠ some b
/-- A row of one's own, each struct as E says, in other memory. -/
def OwnM {α : Type} (w : World) (base : Nat) (t : TypeId) (k : Nat) (E : World → (Nat → Prop) → List Value → α → Prop) (v : Value) (xs : List α) : Prop :=
  ∃ ts : List (Tup k), w.ownsRow base t k v xs.length (ts.flatMap Subtype.val) ∧ ts.length = xs.length ∧ ∀ (i : Nat) (t : Tup k) (x : α), ts[i]? = some t → xs[i]? = some x → E w (Zof w base v) t.1 x
theorem OwnM.nil {α : Type} (w : World) (base : Nat) (t : TypeId) (k : Nat) (E : World → (Nat → Prop) → List Value → α → Prop) : OwnM w base t k E (.slice none 0 0) [] := ⟨[], World.ownsRow_nil _ _ _ _, rfl, fun i t x ht => by simp at ht⟩
theorem OwnM.own {α : Type} {w : World} {base : Nat} {t : TypeId} {k : Nat} {E : World → (Nat → Prop) → List Value → α → Prop} {v : Value} {xs : List α} (h : OwnM w base t k E v xs) {b : Nat} (hb : v.ownBlock = some b) : base ≤ b ∧ b < w.heap.size := by
  obtain ⟨ts, h1, _⟩ := h
  have := own_type h1 hb
  exact ⟨this.1, this.2.1⟩
theorem OwnM.kept {α : Type} {w w' : World} {base : Nat} {t : TypeId} {k : Nat} {E : World → (Nat → Prop) → List Value → α → Prop} (F : Fam k E) {v : Value} {xs : List α} (h : OwnM w base t k E v xs) (hb : Below w.heap.size w w') : OwnM w' base t k E v xs := by
  obtain ⟨ts, h1, h2, h3⟩ := h
  exact ⟨ts, own_kept h1 hb, h2, fun i t x ht hx => F.go (h3 i t x ht hx) (keepT hb) (fun _ _ => trivial) (fun b hz => ⟨hz.1, Nat.lt_of_lt_of_le hz.2.1 hb.size, hz.2.2⟩)⟩
theorem OwnM.row {α : Type} {w : World} {base : Nat} {t : TypeId} {k : Nat} {E : World → (Nat → Prop) → List Value → α → Prop} (F : Fam k E) {v : Value} {xs : List α} (h : OwnM w base t k E v xs) (hn : xs.length ≤ 4000000) : RowM w (base ≤ ·) k (E w (base ≤ ·)) v xs := by
  obtain ⟨ts, h1, h2, h3⟩ := h
  exact ⟨ts, own_row h1 (fun b hb => (own_type h1 hb).1), h2, hn, fun i t x ht hx => F.go (h3 i t x ht hx) (Keep.refl (fun _ => True) w) (fun _ _ => trivial) (fun b hz => hz.1)⟩
/-- One struct more. -/
theorem OwnM.push {α : Type} {k : Nat} {E : World → (Nat → Prop) → List Value → α → Prop} (F : Fam k E) (t ts : TypeId) (bytes : Nat) (z : Value) (hts : Tryz.prog.underlying ts = some (.slice t)) (hinfo : (Tryz.prog.info? t).map (fun i => (i.zero, i.size, i.bytes)) = some (some z, k, bytes)) (hzs : z.cells.size = k) (h0 : 0 < k) (hby : bytes ≤ 400)
    {base : Nat} {v : Value} {xs : List α} {w : World} {cs : List Value} {x : α} (h : OwnM w base t k E v xs) (hx : E w (Zof w base v) cs x) (hb : base ≤ w.heap.size) (hn : xs.length ≤ 4000000) :
    ∃ a c w', Hid ((Builtin.append_ #[ts, ts] ts #[v, .slice (some ⟨w.heap.size, 0, none⟩) 1 1]).run Tryz.prog (w.alloc (.cells cs.toArray t)) = .ok (.slice a (xs.length + 1) c) w') ∧ Hid (OwnM w' base t k E (.slice a (xs.length + 1) c) (xs ++ [x])) ∧ Hid (Grow w w' v (.slice a (xs.length + 1) c)) := by
  obtain ⟨us, h1, h2, h3⟩ := h
  obtain ⟨v', w', r1, r2, r3⟩ := append_st t ts k bytes z hts hinfo hzs h0 hby base v xs.length (us.flatMap Subtype.val) w cs.toArray (by simp [F.len hx]) (by simpa using F.one hx) h1 hb hn
  obtain ⟨a, c, rfl⟩ := own_shape r2
  refine ⟨a, c, w', hid r1, hid ⟨us ++ [⟨cs, F.len hx⟩], ?_, by simp [h2], ?_⟩, hid r3⟩
  · rw [List.length_append, List.flatMap_append]
    simpa using r2
  · have hz : ∀ b, Zof w base v b → Zof w' base (.slice a (xs.length + 1) c) b := fun b hzb => by
      refine ⟨hzb.1, Nat.lt_of_lt_of_le hzb.2.1 r3.size, ?_⟩
      intro e
      rcases r3.own with q | q
      · rw [q] at e; exact hzb.2.2 e
      · have := q b e; have := hzb.2.1; omega
    have hk : Keep (fun b => v.ownBlock ≠ some b) w w' := Keep.ofGrow r3 (fun _ hk => hk)
    intro i u y hu hy
    by_cases hi : i < us.length
    · rw [List.getElem?_append_left hi] at hu
      rw [List.getElem?_append_left (by omega)] at hy
      exact F.go (h3 i u y hu hy) hk (fun b hz => hz.2.2) hz
    · have ei : i = us.length := by
        have := (List.getElem?_eq_some_iff.1 hu).1
        simp at this
        omega
      subst ei
      rw [List.getElem?_append_right (Nat.le_refl _), Nat.sub_self] at hu
      rw [h2, List.getElem?_append_right (Nat.le_refl _), Nat.sub_self] at hy
      simp at hu hy
      subst hu hy
      exact F.go hx hk (fun b hz => hz.2.2) hz
theorem OwnM.bel {α : Type} {w w' : World} {base : Nat} {t : TypeId} {k : Nat} {E : World → (Nat → Prop) → List Value → α → Prop} {v v' : Value} {xs : List α} (h : OwnM w base t k E v xs) (g : Grow w w' v v') {B : Nat} (hB : B ≤ base) (hs : B ≤ w.heap.size) : Below B w w' := g.below hs (fun b hb => Nat.le_trans hB (h.own hb).1)
/-- Bytes of one's own. -/
theorem Tryz.infoBy : (Tryz.prog.info? 5).map (fun i => (i.zero, i.size, i.bytes)) = some (some (.int .u8 0), 1, 1) := by kernel_rfl
theorem appendBy {w : World} {Z : Nat → Prop} {a : Option Addr} {c : Nat} {b : List Int} (h : ByE w Z (.slice a b.length c) b) : ∃ a' c' w', (Builtin.append_ #[23, 23] 23 #[.slice none 0 0, .slice a b.length c]).run Tryz.prog w = .ok (.slice a' b.length c') w' ∧ ByE w' (w.heap.size ≤ ·) (.slice a' b.length c') b ∧ Below w.heap.size w w' := by
  obtain ⟨⟨a2, c2, e, hv⟩, hbd, hlen⟩ := h
  cases e
  obtain ⟨i0, hi, hz0, hz1, hz2⟩ := info_parts Tryz.infoBy
  have key : ∀ (ad : Addr), a = some ad → (∀ j u, (b.map (Value.int .u8))[j]? = some u → w.cell? (ad.add j) = some u) → ∃ a' c' w', (Builtin.append_ #[23, 23] 23 #[.slice none 0 0, .slice a b.length c]).run Tryz.prog w = .ok (.slice a' b.length c') w' ∧ ByE w' (w.heap.size ≤ ·) (.slice a' b.length c') b ∧ Below w.heap.size w w' := by
    intro ad e hc
    subst e
    obtain ⟨v', w', r1, r2, r3⟩ := run_append_mine (P := Tryz.prog) w w.heap.size 23 23 5 i0 (.int .u8 0) 1 1 Tryz.underlying23 hi hz0 hz1 hz2 rfl (by decide) (.slice none 0 0) 0 [] (World.ownsRow_nil _ _ _ _) ad b.length c (b.map (Value.int .u8)) (by simp) hc (fun u hu => by
      obtain ⟨y, _, rfl⟩ := List.mem_map.1 hu
      rfl) (by unfold maxLen; omega) (by omega) (Nat.le_refl _)
    rw [Nat.zero_add, List.nil_append] at r2
    obtain ⟨a', c', rfl⟩ := own_shape r2
    exact ⟨a', c', w', r1, ⟨own_row r2 (fun k hk => (own_type r2 hk).1), hbd, hlen⟩, r3.below (Nat.le_refl _) (fun k hk => by simp [Value.ownBlock] at hk)⟩
  rcases hv.cells with ⟨h0, hn⟩ | ⟨b', off, rfl, _, hc⟩
  · have hx : b = [] := List.eq_nil_of_length_eq_zero h0
    subst hx
    cases a with
    | none =>
      have hc0 := hn rfl
      subst hc0
      refine ⟨none, 0, w, ?_, ⟨rowS_nil _ _ _, hbd, hlen⟩, Below.refl _ _⟩
      exact run_append_owned_none (P := Tryz.prog) (w := w) w.heap.size 23 23 5 i0 1 Tryz.underlying23 hi (.slice none 0 0) 0 [] (World.ownsRow_nil _ _ _ _)
    | some ad => exact key ad rfl (fun j u hu => by simp at hu)
  · exact key ⟨b', off, none⟩ rfl (fun j u hu => by rw [Addr.add_lit]; exact hc j u hu)
end Go.Proofs.YtnfdlnelfnigdaaGreatDoor
namespace Go.Proofs.YtnfdlnelfnigdaaGreatDoor
open Go.RowKit
set_option maxRecDepth 1000000
set_option linter.unusedVariables false
set_option linter.unusedSimpArgs false
set_option maxHeartbeats 1000000
/-- A struct in new memory. -/
def NewE {α : Type} (E : World → (Nat → Prop) → List Value → α → Prop) (w : World) (x : α) (e : Ending) (w' : World) : Prop := ∃ cs : List Value, e = .returned (.agg cs.toArray) ∧ E w' (w.heap.size ≤ ·) cs x ∧ Below w.heap.size w w'
/-- A list in new memory. -/
def NewL {α : Type} (k : Nat) (E : World → (Nat → Prop) → List Value → α → Prop) (w : World) (xs : List α) (e : Ending) (w' : World) : Prop := ∃ a c, e = .returned (.slice a xs.length c) ∧ RowM w' (w.heap.size ≤ ·) k (E w' (w.heap.size ≤ ·)) (.slice a xs.length c) xs ∧ Below w.heap.size w w'
theorem NewE.mk {α : Type} {E : World → (Nat → Prop) → List Value → α → Prop} {w : World} {x : α} {w' : World} (cs : List Value) (h : E w' (w.heap.size ≤ ·) cs x) (hb : Below w.heap.size w w') : NewE E w x (.returned (.agg cs.toArray)) w' := ⟨cs, rfl, h, hb⟩
theorem NewL.mk {α : Type} {k : Nat} {E : World → (Nat → Prop) → List Value → α → Prop} {w : World} {xs : List α} {w' : World} (a : Option Addr) (c n : Nat) (hn : n = xs.length) (h : RowM w' (w.heap.size ≤ ·) k (E w' (w.heap.size ≤ ·)) (.slice a n c) xs) (hb : Below w.heap.size w w') : NewL k E w xs (.returned (.slice a n c)) w' := by
  subst hn
  exact ⟨a, c, rfl, h, hb⟩
abbrev FmF (d : Nat) : World → (Nat → Prop) → List Value → CF CM → Prop := fun w Z => FldE w Z (MsgE w Z d)
abbrev FmV (d : Nat) : World → (Nat → Prop) → List Value → CV CM → Prop := fun w Z => ValE w Z (MsgE w Z d)
abbrev FmM (d : Nat) : World → (Nat → Prop) → List Value → CM → Prop := fun w Z => MsgE w Z d
abbrev FmE : World → (Nat → Prop) → List Value → CE → Prop := fun w Z => EntE w Z
theorem zof_new {α : Type} {w w1 W : World} {base : Nat} {t : TypeId} {k : Nat} {E : World → (Nat → Prop) → List Value → α → Prop} (F : Fam k E) {v : Value} {xs : List α} (h : OwnM w base t k E v xs) (hW : w.heap.size ≤ W.heap.size) (hb : base ≤ w.heap.size) {cs : List Value} {x : α} (hx : E w1 (W.heap.size ≤ ·) cs x) : E w1 (Zof w1 base v) cs x :=
  F.go (F.old hx) (Keep.refl (fun _ => True) w1) (fun _ _ => trivial) (fun b hz => ⟨by have := hz.1; omega, hz.2, fun e => by have := (h.own e).2; have := hz.1; omega⟩)
theorem newBytesT (w : World) (Z : Nat → Prop) (a : Option Addr) (c : Nat) (b : List Int) (h : ByE w Z (.slice a b.length c) b) : Calls Tryz.prog 62 #[.slice a b.length c] w fun e w' => ∃ a' c', e = .returned (.slice a' b.length c') ∧ ByE w' (w.heap.size ≤ ·) (.slice a' b.length c') b ∧ Below w.heap.size w w' := by
  obtain ⟨a', c', w', hr, h1, h2⟩ := appendBy h
  have HR := hid hr
  have H1 := hid h1
  have H2 := hid h2
  clear h hr h1 h2
  go_enter Tryz.func62, Tryz.ntmps62
  go_wp2_with (first | (at_builtin; refine wpList_append_ran rfl _ _ 23 23 rfl rfl _ _ (.slice a' b.length c') w' rfl rfl HR.out ?_))
  go_ret
  exact ⟨a', c', rfl, H1.out, H2.out⟩
theorem msg_openD {w : World} {Z : Nat → Prop} {d : Nat} {cs : List Value} {m : CM} (h : MsgE w Z d cs m) : ∃ fa fc ua uc, cs = [.slice fa m.fs.length fc, .slice ua m.us.length uc] ∧ True := by
  cases d with
  | zero => exact h.elim
  | succ d =>
    obtain ⟨fa, fc, ua, uc, e, _⟩ := msg_open h
    exact ⟨fa, fc, ua, uc, e, trivial⟩
theorem Tryz.infoF : (Tryz.prog.info? 29).map (fun i => (i.zero, i.size, i.bytes)) = some (some (.agg #[.int .i64 0, .slice none 0 0, .slice none 0 0]), 3, 56) := by kernel_rfl
theorem turnedF (w : World) (Z : Nat → Prop) (d d2 : Nat) (xs : List (CF CM)) (a : Option Addr) (c : Nat) (h : FlsR w Z d (.slice a xs.length c) xs) (fn : FuncId) (caps : Array Value) (hcf : ∀ (args : Array Value) (W : World), (callFunc fn args).run Tryz.prog W = .ok (.enter fn args) W) (g : CF CM → CF CM)
    (hf : ∀ (W : World), Below w.heap.size w W → ∀ (cs : List Value) (x : CF CM), x ∈ xs → FmF d W Z cs x → Calls Tryz.prog fn (#[.agg cs.toArray] ++ caps) W (NewE (FmF d2) W (g x))) : Calls Tryz.prog 65 #[.slice a xs.length c, .func (.func fn) #[] caps] w (NewL 3 (FmF d2) w (xs.map g)) := by
  obtain ⟨_, _, e1, l1⟩ := RowM.sl h
  clear e1
  have m1 : (xs.length : Int) ≤ 9223372036854775807 := by omega
  have H1 := hid h
  have HF := hid hf
  clear h hf
  go_enter Tryz.func65, Tryz.ntmps65
  go_wp2
  go_loopw [5, 10] (fun s5 s10 wr => ∃ (j : Nat) (oa : Option Addr) (oc : Nat), s5 = .slice oa j oc ∧ s10 = .int .i64 j ∧ j ≤ xs.length ∧ Hid (OwnM wr w.heap.size 29 3 (FmF d2) (.slice oa j oc) ((xs.take j).map g)) ∧ Hid (Below w.heap.size w wr)) (fun s5 s10 wr => xs.length - numAt wr s10)
  case atStart => exact ⟨0, none, 0, rfl, rfl, by omega, hid (OwnM.nil _ _ _ _ _), hid (Below.refl _ _)⟩
  case round =>
    obtain ⟨j, oa, oc, rfl, rfl, hj, HO, hb⟩ := hrel
    by_cases hlt : j < xs.length
    · have k2 : (j : Int) < (xs.length : Int) := by omega
      obtain ⟨b1, o1, ka1, kc1, va1, vc1, rfl, -, hb1, c0, c1, c2, he⟩ := fls_at (H1.out.kept hb.out) hlt
      have HE := hid he
      have HTK : Hid ((xs.take (j + 1)).map g = (xs.take j).map g ++ [g xs[j]]) := hid (by rw [List.take_succ_eq_append_getElem hlt, List.map_append]; rfl)
      have HLN : Hid (((xs.take j).map g).length = j) := hid (by simp; omega)
      have HME := hid (List.getElem_mem hlt)
      clear he
      generalize xs[j] = x at *
      go_wp2_with fail
      refine (HF.out _ (by have := hb.out; exact blBy) [.int .i64 x.num, .slice ka1 x.ks.length kc1, .slice va1 x.vs.length vc1] x HME.out (Fam.go (famF d) HE.out (keepT (below_alloc _)) (fun _ _ => trivial) (fun _ h => h))).mono ?_
      rintro e w1 ⟨ds, rfl, hn, hbx⟩
      have HZ := hid (zof_new (famF d2) HO.out (by simp) hb.out.size hn)
      have HO1 := hid (HO.out.kept (famF d2) (below_trans (below_alloc _) hbx))
      have hb1 : Hid (Below w.heap.size w w1) := hid (bl_then (by have := hb.out; exact blBy) hbx)
      clear hn hbx HO HE c0 c1 c2
      obtain ⟨ka2, kc2, va2, vc2, rfl, -⟩ := fld_open HZ.out
      generalize g x = y at *
      obtain ⟨la, lc, x1, HRUN, HO2, HG⟩ := OwnM.push (famF d2) 29 32 56 (.agg #[.int .i64 0, .slice none 0 0, .slice none 0 0]) Tryz.underlying32 Tryz.infoF rfl (by decide) (by decide) HO1.out HZ.out hb1.out.size (by rw [HLN.out]; omega)
      rw [HLN.out] at HRUN HO2 HG
      have hb2 : Hid (Below w.heap.size w x1) := hid (hb1.out.trans (HO1.out.bel HG.out (Nat.le_refl _) hb1.out.size))
      go_wp2_with (first | (at_builtin; refine wpList_append_ran rfl _ _ 32 32 rfl rfl _ _ (.slice la (j + 1) lc) x1 rfl rfl HRUN.out ?_))
      exact ⟨⟨j + 1, la, lc, rfl, by simp, by omega, hid (by rw [HTK.out]; exact HO2.out), hb2⟩, by simp [numAt]; omega⟩
    · have k2 : ¬ (j : Int) < (xs.length : Int) := by omega
      have ej : xs.length = j := by omega
      have e1 : xs.take j = xs := List.take_of_length_le (by omega)
      rw [e1] at HO
      have HRW := hid (HO.out.row (famF d2) (by simp; omega))
      have HEJ := hid ej
      clear ej e1
      go_wp2
      go_ret
      exact NewL.mk oa oc j (by simp; exact HEJ.out.symm) HRW.out hb.out
theorem Tryz.infoV : (Tryz.prog.info? 26).map (fun i => (i.zero, i.size, i.bytes)) = some (some (.agg #[.int .u64 0, .slice none 0 0, .slice none 0 0]), 3, 56) := by kernel_rfl
theorem turnedV (w : World) (Z : Nat → Prop) (d d2 : Nat) (xs : List (CV CM)) (a : Option Addr) (c : Nat) (h : VlsR w Z d (.slice a xs.length c) xs) (fn : FuncId) (caps : Array Value) (hcf : ∀ (args : Array Value) (W : World), (callFunc fn args).run Tryz.prog W = .ok (.enter fn args) W) (g : CV CM → CV CM)
    (hf : ∀ (W : World), Below w.heap.size w W → ∀ (cs : List Value) (x : CV CM), x ∈ xs → FmV d W Z cs x → Calls Tryz.prog fn (#[.agg cs.toArray] ++ caps) W (NewE (FmV d2) W (g x))) : Calls Tryz.prog 64 #[.slice a xs.length c, .func (.func fn) #[] caps] w (NewL 3 (FmV d2) w (xs.map g)) := by
  obtain ⟨_, _, e1, l1⟩ := RowM.sl h
  clear e1
  have m1 : (xs.length : Int) ≤ 9223372036854775807 := by omega
  have H1 := hid h
  have HF := hid hf
  clear h hf
  go_enter Tryz.func64, Tryz.ntmps64
  go_wp2
  go_loopw [5, 10] (fun s5 s10 wr => ∃ (j : Nat) (oa : Option Addr) (oc : Nat), s5 = .slice oa j oc ∧ s10 = .int .i64 j ∧ j ≤ xs.length ∧ Hid (OwnM wr w.heap.size 26 3 (FmV d2) (.slice oa j oc) ((xs.take j).map g)) ∧ Hid (Below w.heap.size w wr)) (fun s5 s10 wr => xs.length - numAt wr s10)
  case atStart => exact ⟨0, none, 0, rfl, rfl, by omega, hid (OwnM.nil _ _ _ _ _), hid (Below.refl _ _)⟩
  case round =>
    obtain ⟨j, oa, oc, rfl, rfl, hj, HO, hb⟩ := hrel
    by_cases hlt : j < xs.length
    · have k2 : (j : Int) < (xs.length : Int) := by omega
      obtain ⟨b1, o1, ka1, kc1, va1, vc1, rfl, -, hb1, c0, c1, c2, he⟩ := vls_at (H1.out.kept hb.out) hlt
      have HE := hid he
      have HTK : Hid ((xs.take (j + 1)).map g = (xs.take j).map g ++ [g xs[j]]) := hid (by rw [List.take_succ_eq_append_getElem hlt, List.map_append]; rfl)
      have HLN : Hid (((xs.take j).map g).length = j) := hid (by simp; omega)
      have HME := hid (List.getElem_mem hlt)
      clear he
      generalize xs[j] = x at *
      go_wp2_with fail
      refine (HF.out _ (by have := hb.out; exact blBy) [.int .u64 x.n, .slice ka1 x.b.length kc1, .slice va1 x.ms.length vc1] x HME.out (Fam.go (famV d) HE.out (keepT (below_alloc _)) (fun _ _ => trivial) (fun _ h => h))).mono ?_
      rintro e w1 ⟨ds, rfl, hn, hbx⟩
      have HZ := hid (zof_new (famV d2) HO.out (by simp) hb.out.size hn)
      have HO1 := hid (HO.out.kept (famV d2) (below_trans (below_alloc _) hbx))
      have hb1 : Hid (Below w.heap.size w w1) := hid (bl_then (by have := hb.out; exact blBy) hbx)
      clear hn hbx HO HE c0 c1 c2
      obtain ⟨ka2, kc2, va2, vc2, rfl, -⟩ := val_open HZ.out
      generalize g x = y at *
      obtain ⟨la, lc, x1, HRUN, HO2, HG⟩ := OwnM.push (famV d2) 26 27 56 (.agg #[.int .u64 0, .slice none 0 0, .slice none 0 0]) Tryz.underlying27 Tryz.infoV rfl (by decide) (by decide) HO1.out HZ.out hb1.out.size (by rw [HLN.out]; omega)
      rw [HLN.out] at HRUN HO2 HG
      have hb2 : Hid (Below w.heap.size w x1) := hid (hb1.out.trans (HO1.out.bel HG.out (Nat.le_refl _) hb1.out.size))
      go_wp2_with (first | (at_builtin; refine wpList_append_ran rfl _ _ 27 27 rfl rfl _ _ (.slice la (j + 1) lc) x1 rfl rfl HRUN.out ?_))
      exact ⟨⟨j + 1, la, lc, rfl, by simp, by omega, hid (by rw [HTK.out]; exact HO2.out), hb2⟩, by simp [numAt]; omega⟩
    · have k2 : ¬ (j : Int) < (xs.length : Int) := by omega
      have ej : xs.length = j := by omega
      have e1 : xs.take j = xs := List.take_of_length_le (by omega)
      rw [e1] at HO
      have HRW := hid (HO.out.row (famV d2) (by simp; omega))
      have HEJ := hid ej
      clear ej e1
      go_wp2
      go_ret
      exact NewL.mk oa oc j (by simp; exact HEJ.out.symm) HRW.out hb.out
theorem Tryz.infoM : (Tryz.prog.info? 35).map (fun i => (i.zero, i.size, i.bytes)) = some (some (.agg #[.slice none 0 0, .slice none 0 0]), 2, 48) := by kernel_rfl
theorem turnedM (w : World) (Z : Nat → Prop) (d d2 : Nat) (xs : List (CM)) (a : Option Addr) (c : Nat) (h : MgsR w Z d (.slice a xs.length c) xs) (fn : FuncId) (caps : Array Value) (hcf : ∀ (args : Array Value) (W : World), (callFunc fn args).run Tryz.prog W = .ok (.enter fn args) W) (g : CM → CM)
    (hf : ∀ (W : World), Below w.heap.size w W → ∀ (cs : List Value) (x : CM), x ∈ xs → FmM d W Z cs x → Calls Tryz.prog fn (#[.agg cs.toArray] ++ caps) W (NewE (FmM d2) W (g x))) : Calls Tryz.prog 63 #[.slice a xs.length c, .func (.func fn) #[] caps] w (NewL 2 (FmM d2) w (xs.map g)) := by
  obtain ⟨_, _, e1, l1⟩ := RowM.sl h
  clear e1
  have m1 : (xs.length : Int) ≤ 9223372036854775807 := by omega
  have H1 := hid h
  have HF := hid hf
  clear h hf
  go_enter Tryz.func63, Tryz.ntmps63
  go_wp2
  go_loopw [5, 10] (fun s5 s10 wr => ∃ (j : Nat) (oa : Option Addr) (oc : Nat), s5 = .slice oa j oc ∧ s10 = .int .i64 j ∧ j ≤ xs.length ∧ Hid (OwnM wr w.heap.size 35 2 (FmM d2) (.slice oa j oc) ((xs.take j).map g)) ∧ Hid (Below w.heap.size w wr)) (fun s5 s10 wr => xs.length - numAt wr s10)
  case atStart => exact ⟨0, none, 0, rfl, rfl, by omega, hid (OwnM.nil _ _ _ _ _), hid (Below.refl _ _)⟩
  case round =>
    obtain ⟨j, oa, oc, rfl, rfl, hj, HO, hb⟩ := hrel
    by_cases hlt : j < xs.length
    · have k2 : (j : Int) < (xs.length : Int) := by omega
      obtain ⟨b1, o1, ka1, kc1, va1, vc1, rfl, -, hb1, c0, c1, he⟩ := mgs_at' (H1.out.kept hb.out) hlt
      have HE := hid he
      have HTK : Hid ((xs.take (j + 1)).map g = (xs.take j).map g ++ [g xs[j]]) := hid (by rw [List.take_succ_eq_append_getElem hlt, List.map_append]; rfl)
      have HLN : Hid (((xs.take j).map g).length = j) := hid (by simp; omega)
      have HME := hid (List.getElem_mem hlt)
      clear he
      generalize xs[j] = x at *
      go_wp2_with fail
      refine (HF.out _ (by have := hb.out; exact blBy) [.slice ka1 x.fs.length kc1, .slice va1 x.us.length vc1] x HME.out (Fam.go (famM d) HE.out (keepT (below_alloc _)) (fun _ _ => trivial) (fun _ h => h))).mono ?_
      rintro e w1 ⟨ds, rfl, hn, hbx⟩
      have HZ := hid (zof_new (famM d2) HO.out (by simp) hb.out.size hn)
      have HO1 := hid (HO.out.kept (famM d2) (below_trans (below_alloc _) hbx))
      have hb1 : Hid (Below w.heap.size w w1) := hid (bl_then (by have := hb.out; exact blBy) hbx)
      clear hn hbx HO HE c0 c1
      obtain ⟨ka2, kc2, va2, vc2, rfl, -⟩ := msg_openD HZ.out
      generalize g x = y at *
      obtain ⟨la, lc, x1, HRUN, HO2, HG⟩ := OwnM.push (famM d2) 35 24 48 (.agg #[.slice none 0 0, .slice none 0 0]) Tryz.underlying24 Tryz.infoM rfl (by decide) (by decide) HO1.out HZ.out hb1.out.size (by rw [HLN.out]; omega)
      rw [HLN.out] at HRUN HO2 HG
      have hb2 : Hid (Below w.heap.size w x1) := hid (hb1.out.trans (HO1.out.bel HG.out (Nat.le_refl _) hb1.out.size))
      go_wp2_with (first | (at_builtin; refine wpList_append_ran rfl _ _ 24 24 rfl rfl _ _ (.slice la (j + 1) lc) x1 rfl rfl HRUN.out ?_))
      exact ⟨⟨j + 1, la, lc, rfl, by simp, by omega, hid (by rw [HTK.out]; exact HO2.out), hb2⟩, by simp [numAt]; omega⟩
    · have k2 : ¬ (j : Int) < (xs.length : Int) := by omega
      have ej : xs.length = j := by omega
      have e1 : xs.take j = xs := List.take_of_length_le (by omega)
      rw [e1] at HO
      have HRW := hid (HO.out.row (famM d2) (by simp; omega))
      have HEJ := hid ej
      clear ej e1
      go_wp2
      go_ret
      exact NewL.mk oa oc j (by simp; exact HEJ.out.symm) HRW.out hb.out
theorem Tryz.infoE : (Tryz.prog.info? 40).map (fun i => (i.zero, i.size, i.bytes)) = some (some (.agg #[.int .i64 0, .int .i64 0, .int .u64 0, .slice none 0 0]), 4, 48) := by kernel_rfl
theorem turnedE (w : World) (Z : Nat → Prop) (xs : List (CE)) (a : Option Addr) (c : Nat) (h : EnsR w Z (.slice a xs.length c) xs) (fn : FuncId) (caps : Array Value) (hcf : ∀ (args : Array Value) (W : World), (callFunc fn args).run Tryz.prog W = .ok (.enter fn args) W) (g : CE → CE)
    (hf : ∀ (W : World), Below w.heap.size w W → ∀ (cs : List Value) (x : CE), x ∈ xs → FmE W Z cs x → Calls Tryz.prog fn (#[.agg cs.toArray] ++ caps) W (NewE (FmE) W (g x))) : Calls Tryz.prog 66 #[.slice a xs.length c, .func (.func fn) #[] caps] w (NewL 4 (FmE) w (xs.map g)) := by
  obtain ⟨_, _, e1, l1⟩ := RowM.sl h
  clear e1
  have m1 : (xs.length : Int) ≤ 9223372036854775807 := by omega
  have H1 := hid h
  have HF := hid hf
  clear h hf
  go_enter Tryz.func66, Tryz.ntmps66
  go_wp2
  go_loopw [5, 10] (fun s5 s10 wr => ∃ (j : Nat) (oa : Option Addr) (oc : Nat), s5 = .slice oa j oc ∧ s10 = .int .i64 j ∧ j ≤ xs.length ∧ Hid (OwnM wr w.heap.size 40 4 (FmE) (.slice oa j oc) ((xs.take j).map g)) ∧ Hid (Below w.heap.size w wr)) (fun s5 s10 wr => xs.length - numAt wr s10)
  case atStart => exact ⟨0, none, 0, rfl, rfl, by omega, hid (OwnM.nil _ _ _ _ _), hid (Below.refl _ _)⟩
  case round =>
    obtain ⟨j, oa, oc, rfl, rfl, hj, HO, hb⟩ := hrel
    by_cases hlt : j < xs.length
    · have k2 : (j : Int) < (xs.length : Int) := by omega
      obtain ⟨b1, o1, ka1, kc1, rfl, -, hb1, c0, c1, c2, c3, he⟩ := ens_at (H1.out.kept hb.out) hlt
      have HE := hid he
      have HTK : Hid ((xs.take (j + 1)).map g = (xs.take j).map g ++ [g xs[j]]) := hid (by rw [List.take_succ_eq_append_getElem hlt, List.map_append]; rfl)
      have HLN : Hid (((xs.take j).map g).length = j) := hid (by simp; omega)
      have HME := hid (List.getElem_mem hlt)
      clear he
      generalize xs[j] = x at *
      go_wp2_with fail
      refine (HF.out _ (by have := hb.out; exact blBy) [.int .i64 x.num, .int .i64 x.kind, .int .u64 x.n, .slice ka1 x.b.length kc1] x HME.out (Fam.go (famE) HE.out (keepT (below_alloc _)) (fun _ _ => trivial) (fun _ h => h))).mono ?_
      rintro e w1 ⟨ds, rfl, hn, hbx⟩
      have HZ := hid (zof_new (famE) HO.out (by simp) hb.out.size hn)
      have HO1 := hid (HO.out.kept (famE) (below_trans (below_alloc _) hbx))
      have hb1 : Hid (Below w.heap.size w w1) := hid (bl_then (by have := hb.out; exact blBy) hbx)
      clear hn hbx HO HE c0 c1 c2 c3
      obtain ⟨ka2, kc2, rfl, -⟩ := ent_open HZ.out
      generalize g x = y at *
      obtain ⟨la, lc, x1, HRUN, HO2, HG⟩ := OwnM.push (famE) 40 33 48 (.agg #[.int .i64 0, .int .i64 0, .int .u64 0, .slice none 0 0]) Tryz.underlying33 Tryz.infoE rfl (by decide) (by decide) HO1.out HZ.out hb1.out.size (by rw [HLN.out]; omega)
      rw [HLN.out] at HRUN HO2 HG
      have hb2 : Hid (Below w.heap.size w x1) := hid (hb1.out.trans (HO1.out.bel HG.out (Nat.le_refl _) hb1.out.size))
      go_wp2_with (first | (at_builtin; refine wpList_append_ran rfl _ _ 33 33 rfl rfl _ _ (.slice la (j + 1) lc) x1 rfl rfl HRUN.out ?_))
      exact ⟨⟨j + 1, la, lc, rfl, by simp, by omega, hid (by rw [HTK.out]; exact HO2.out), hb2⟩, by simp [numAt]; omega⟩
    · have k2 : ¬ (j : Int) < (xs.length : Int) := by omega
      have ej : xs.length = j := by omega
      have e1 : xs.take j = xs := List.take_of_length_le (by omega)
      rw [e1] at HO
      have HRW := hid (HO.out.row (famE) (by simp; omega))
      have HEJ := hid ej
      clear ej e1
      go_wp2
      go_ret
      exact NewL.mk oa oc j (by simp; exact HEJ.out.symm) HRW.out hb.out
end Go.Proofs.YtnfdlnelfnigdaaGreatDoor
namespace Go.Proofs.YtnfdlnelfnigdaaGreatDoor
open Go.RowKit Go.Shelf
set_option maxRecDepth 1000000
attribute [local go_sem] Oper.semAt_some
set_option linter.unusedVariables false
set_option linter.unusedSimpArgs false
set_option maxHeartbeats 2000000
/-- A message that lies in w. -/
abbrev XM (w : World) (Z : Nat → Prop) (d : Nat) (L : List CM) : Type := {x : List Value × CM // MsgE w Z d x.1 x.2 ∧ x.2 ∈ L}
def encM {w : World} {Z : Nat → Prop} {d : Nat} {L : List CM} (x : XM w Z d L) : Array Value := #[.agg x.1.1.toArray]
def allM (x : CF CM) : List CM := x.ks.flatMap CV.ms ++ x.vs.flatMap CV.ms
theorem abide_alloc {β : Type} {B : Nat} {J : β → World → Prop} (h : AbidesFrom B J) {s : β} {W : World} (hs : J s W) (o : Obj) : J s (W.alloc o) := h s W _ none hs (World.grownBy_alloc W o none) (fun r e => by cases e)
theorem flat_split {l : List (CV CM)} {j k : Nat} (hj : j < l.length) (hk : k < l[j].ms.length) : l.flatMap CV.ms = (l.take j).flatMap CV.ms ++ (l[j].ms.take k ++ (l[j].ms[k] :: (l[j].ms.drop (k + 1) ++ (l.drop (j + 1)).flatMap CV.ms))) := by
  have e : l.flatMap CV.ms = (l.take j).flatMap CV.ms ++ (l[j].ms ++ (l.drop (j + 1)).flatMap CV.ms) := by
    conv => lhs; rw [← List.take_append_drop j l, List.drop_eq_getElem_cons hj]
    rw [List.flatMap_append, List.flatMap_cons]
  have e2 : l[j].ms = l[j].ms.take k ++ (l[j].ms[k] :: l[j].ms.drop (k + 1)) := by
    conv => lhs; rw [← List.take_append_drop k l[j].ms, List.drop_eq_getElem_cons hk]
  rw [e]
  conv => lhs; rw [e2]
  simp only [List.append_assoc, List.cons_append]
theorem flat_next {l : List (CV CM)} {j : Nat} (hj : j < l.length) : (l.take (j + 1)).flatMap CV.ms = (l.take j).flatMap CV.ms ++ l[j].ms := by
  rw [List.take_succ_eq_append_getElem hj, List.flatMap_append]
  simp
theorem msgsOf_in (w : World) (Z : Nat → Prop) (d : Nat) (n : Nat) (hn : 1 ≤ n) (p : Nat) (x : CF CM) (ka va : Option Addr) (kc vc : Nat) (hp : Blk w p 29 #[.int .i64 x.num, .slice ka x.ks.length kc, .slice va x.vs.length vc]) (h1 : VlsR w Z d (.slice ka x.ks.length kc) x.ks) (h2 : VlsR w Z d (.slice va x.vs.length vc) x.vs) :
    SeqStopsK Fence.wide n Tryz.prog 107 #[.pointer (some ⟨p, 0, none⟩)] (encM (w := w) (Z := Z) (d := d) (L := allM x)) (Below w.heap.size) (fun xs => xs.map (fun y => y.1.2) = allM x) (fun xs => xs.map (fun y => y.1.2) <+: allM x) (allM x).length w := by
  intro l J Jx W hW hJ hJx hY h0
  have H1 := hid h1
  have H2 := hid h2
  have HJ := hid hJ
  have HY := hid hY
  have HW := hid hW
  have Bp := hp.kept hW
  have xp := Bp.cellF
  have zp := Bp.lt
  clear h1 h2 hp hJ hJx hY hW Bp
  refine callsIn_of_wp Tryz.func107 rfl trivial ?_ rfl
  simp only [Tryz.ntmps107, List.size_toArray, List.length_cons, List.length_nil, Nat.reduceAdd, Nat.reduceSub, Array.replicate_succ, Array.replicate_zero, List.push_toArray, List.append_toArray, List.nil_append, List.cons_append]
  gi_wp2
  gi_loopw [14] (fun s wr => ∃ (i : Nat) (pre : List (XM w Z d (allM x))), s = .int .i64 i ∧ i ≤ 2 ∧ Hid (pre.map (fun y => y.1.2) = (([x.ks, x.vs] : List (List (CV CM))).take i).flatMap (fun l => l.flatMap CV.ms)) ∧ Hid (J pre wr) ∧ Hid (Below w.heap.size w wr)) (fun s _ => 2 - (intOf s).toNat)
  case atStart => exact ⟨0, [], rfl, by omega, hid rfl, hid h0, HW⟩
  case round =>
    obtain ⟨i, pre, rfl, hi, HP, HJ0, hb⟩ := hrel
    by_cases hlt : i < 2
    · have k0 : (i : Int) < 2 := by omega
      obtain ⟨xs, la, lc, P0, R0, hidx, HV, HP0, HAL, HNX⟩ : ∃ (xs : List (CV CM)) (la : Option Addr) (lc : Nat) (P0 R0 : List CM), (∀ W, (Instr.index 142 (.agg #[.slice ka x.ks.length kc, .slice va x.vs.length vc]) (.int .i64 (i : Int))).run Tryz.prog W = .ok (.slice la xs.length lc) W) ∧ Hid (VlsR w Z d (.slice la xs.length lc) xs) ∧ Hid (pre.map (fun y => y.1.2) = P0) ∧ Hid (allM x = P0 ++ (xs.flatMap CV.ms ++ R0)) ∧ Hid ((([x.ks, x.vs] : List (List (CV CM))).take (i + 1)).flatMap (fun l => l.flatMap CV.ms) = P0 ++ xs.flatMap CV.ms) := by
        have ei : i = 0 ∨ i = 1 := by omega
        rcases ei with rfl | rfl
        · exact ⟨x.ks, ka, kc, [], x.vs.flatMap CV.ms, fun W => by rfl, H1, hid (by rw [HP.out]; rfl), hid rfl, hid (by simp)⟩
        · exact ⟨x.vs, va, vc, x.ks.flatMap CV.ms, [], fun W => by rfl, H2, hid (by rw [HP.out]; simp), hid (by unfold allM; simp), hid (by simp)⟩
      obtain ⟨_, _, e1, l1⟩ := RowM.sl HV.out
      clear e1
      have m1 : (xs.length : Int) ≤ 9223372036854775807 := by omega
      clear HP
      gi_wp2
      gi_loopw [19] (fun s wr => ∃ (j : Nat) (pre : List (XM w Z d (allM x))), s = .int .i64 j ∧ j ≤ xs.length ∧ Hid (pre.map (fun y => y.1.2) = P0 ++ (xs.take j).flatMap CV.ms) ∧ Hid (J pre wr) ∧ Hid (Below w.heap.size w wr)) (fun s _ => xs.length - (intOf s).toNat)
      case atStart => exact ⟨0, pre, rfl, by omega, hid (by rw [HP0.out]; simp), HJ0, hb⟩
      case round =>
        clear HJ0 hb
        obtain ⟨j, pre, rfl, hj, HP, HJ0, hb⟩ := hrel
        by_cases hjl : j < xs.length
        · have k1 : (j : Int) < (xs.length : Int) := by omega
          obtain ⟨b1, o1, ba1, bc1, ma1, mc1, rfl, -, hb1, c0, c1, c2, he⟩ := vls_at HV.out hjl
          obtain ⟨_, _, _, _, e1, -, q1, -, ml1, -⟩ := val_open he
          simp only [List.cons.injEq, Value.slice.injEq, true_and, and_true] at e1
          obtain ⟨⟨rfl, rfl⟩, rfl, rfl⟩ := e1
          have Q := hid q1
          have HSP := hid (fun k (hk : k < xs[j].ms.length) => flat_split hjl hk)
          have HNJ := hid (flat_next hjl)
          replace c0 := cell_below c0 hb.out
          replace c1 := cell_below c1 hb.out
          replace c2 := cell_below c2 hb.out
          replace hb1 : b1 < wr.heap.size := World.block_lt_of_cell? _ _ c0
          clear he q1
          generalize xs[j] = v at *
          have ml3 : (v.ms.length : Int) ≤ 9223372036854775807 := by omega
          gi_wp2
          gi_loopw [26] (fun s wr => ∃ (k : Nat) (pre : List (XM w Z d (allM x))), s = .int .i64 k ∧ k ≤ v.ms.length ∧ Hid (pre.map (fun y => y.1.2) = P0 ++ ((xs.take j).flatMap CV.ms ++ v.ms.take k)) ∧ Hid (J pre wr) ∧ Hid (Below w.heap.size w wr)) (fun s _ => v.ms.length - (intOf s).toNat)
          case atStart => exact ⟨0, pre, rfl, by omega, hid (by rw [HP.out]; simp), hid (abide_alloc HJ.out HJ0.out _), hid (by have := hb.out; exact blBy)⟩
          case round =>
            clear HJ0 hb HP c0 c1 c2 hb1
            obtain ⟨k, pre, rfl, hk, HP, HJ0, hb⟩ := hrel
            by_cases hkl : k < v.ms.length
            · have k2 : (k : Int) < (v.ms.length : Int) := by omega
              obtain ⟨p1, r1, fa1, fc1, ua1, uc1, rfl, -, hp1, m10, m11, hm1⟩ := mgs_at' Q.out hkl
              have HSK := hid (HSP.out k hkl)
              have HTK : Hid (v.ms.take (k + 1) = v.ms.take k ++ [v.ms[k]]) := hid (List.take_succ_eq_append_getElem hkl)
              replace m10 := cell_below m10 hb.out
              replace m11 := cell_below m11 hb.out
              replace hp1 : p1 < wr.heap.size := World.block_lt_of_cell? _ _ m10
              generalize v.ms[k] = m at *
              have HLN : pre.length < (allM x).length := by
                have e1 : pre.length = (P0 ++ ((xs.take j).flatMap CV.ms ++ v.ms.take k)).length := by rw [← HP.out, List.length_map]
                rw [e1, HAL.out, HSK.out]
                simp only [List.length_append, List.length_cons]
                omega
              have HPX : Hid (P0 ++ ((xs.take j).flatMap CV.ms ++ v.ms.take (k + 1)) <+: allM x) := hid (by
                rw [HAL.out, HSK.out, HTK.out]
                exact ⟨v.ms.drop (k + 1) ++ (xs.drop (j + 1)).flatMap CV.ms ++ R0, by simp only [List.append_assoc, List.cons_append, List.nil_append]⟩)
              have HME : Hid (MsgE w Z d [.slice fa1 m.fs.length fc1, .slice ua1 m.us.length uc1] m) := hid hm1
              have HIN : Hid (m ∈ allM x) := hid (by rw [HAL.out, HSK.out]; simp)
              clear hm1
              obtain ⟨fn, tmps, assign, body, hy, hR⟩ := HY.out pre ⟨([.slice fa1 m.fs.length fc1, .slice ua1 m.us.length uc1], m), HME.out, HIN.out⟩ (wr.alloc (.cells #[.slice fa1 m.fs.length fc1, .slice ua1 m.us.length uc1] 35)) (abide_alloc HJ.out HJ0.out _) HLN
              dsimp only [encM] at hy
              have HR := hid hR
              clear hR HLN
              gi_wp2
              refine HR.out.mono ?_
              rintro e W3 (⟨rfl, hJ3, hk3⟩ | ⟨rfl, hJx3⟩)
              · have hb3 : Hid (Below w.heap.size w W3) := hid (Below.trans (by have := hb.out; exact blBy) hk3)
                have HJ3 := hid hJ3
                clear hJ3 hk3 hy m10 m11 hp1
                gi_wp2
                exact ⟨⟨k + 1, _, by simp, by omega, hid (by rw [List.map_append, HP.out, HTK.out]; simp), HJ3, hb3⟩, by simp [intOf]; omega⟩
              · have HJ3 := hid hJx3
                clear hJx3 hy m10 m11 hp1
                gi_wp2
                refine bodyPost_ret (results_none rfl _ _ _) rfl ?_
                exact ⟨⟨_, rfl⟩, .inr ⟨_, by rw [List.map_append, HP.out]; have := HPX.out; rw [HTK.out] at this; simpa using this, HJ3.out⟩⟩
            · have k2 : ¬ (k : Int) < (v.ms.length : Int) := by omega
              have e1 : v.ms.take k = v.ms := List.take_of_length_le (by omega)
              rw [e1] at HP
              clear e1
              gi_wp2
              exact ⟨⟨j + 1, pre, by simp, by omega, hid (by rw [HP.out, HNJ.out]), HJ0, hb⟩, by simp [intOf]; omega⟩
        · have k1 : ¬ (j : Int) < (xs.length : Int) := by omega
          have e1 : xs.take j = xs := List.take_of_length_le (by omega)
          rw [e1] at HP
          clear e1
          gi_wp2
          exact ⟨⟨i + 1, pre, by simp, by omega, hid (by rw [HP.out, HNX.out]), HJ0, hb⟩, by simp [intOf]; omega⟩
    · have k0 : ¬ (i : Int) < 2 := by omega
      have ei : i = 2 := by omega
      rw [ei] at HP
      clear ei
      gi_wp2
      go_end0
      exact ⟨⟨_, rfl⟩, .inl ⟨pre, by rw [HP.out]; unfold allM; simp, HJ0.out⟩⟩
end Go.Proofs.YtnfdlnelfnigdaaGreatDoor
