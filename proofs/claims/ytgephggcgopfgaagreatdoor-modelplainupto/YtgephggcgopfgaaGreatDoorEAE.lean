/-
  Equal: what the document answers, at every depth.
  ModelSets: a field put in as the document says.
  What comes in, opened: strings; and what the bound on it says.
  A table that comes in, opened.
  A table that comes in, opened: fields, symbols, ranges, types.
  A message that comes in, opened.
  The variables of Go's library that the rows list: a world that lays them; the one that is named alone.
  ModelPlain, walked.
-/
import Derived.Test.YtgephggcgopfgaaGreatDoorEBK
import Derived.Test.YtgephggcgopfgaaGreatDoorEAKx
import Derived.Test.YtgephggcgopfgaaGreatDoorCNG
import Derived.Test.YtgephggcgopfgaaGreatDoorCTY
import Derived.ProofKit
import Derived.OpenShut
import Derived.ShutString
import Derived.Lib.SmallJoins
import Derived.Deep.Slices
import Derived.Deep.Fields
import Derived.Test.YtgephggcgopfgaaGreatDoorCAA
import Derived.Test.YtgephggcgopfgaaGreatDoorRows
import Derived.Stop.LaidErr
import Derived.Deep.DeepHandedRow
import Derived.Deep.DeepWitnessRowRef
import Derived.LaidLaws
import Derived.Test.YtgephggcgopfgaaGreatDoorCCE
namespace Go.Proofs.YtgephggcgopfgaaGreatDoor
open Go.RowKit
set_option maxRecDepth 1000000
set_option linter.unusedVariables false
set_option linter.unusedSimpArgs false
set_option maxHeartbeats 2000000
theorem sameFieldD (d : Nat) (HE : EqDAt d) (w : World) (Z Z2 : Nat → Prop) (cs ds : List Value) (x y : CF CM) (h1 : FldE w Z (MsgE w Z d) cs x) (h2 : FldE w Z2 (MsgE w Z2 d) ds y) : Calls Tryz.prog 30 #[.agg cs.toArray, .agg ds.toArray] w (EqR w (x = y)) := by
  obtain ⟨ka1, kc1, va1, vc1, rfl, g1, m1, -⟩ := fld_open h1
  obtain ⟨ka2, kc2, va2, vc2, rfl, g2, m2, -⟩ := fld_open h2
  have G1 := hid g1
  have G2 := hid g2
  have M1 := hid m1
  have M2 := hid m2
  replace HE := hid HE
  clear g1 g2 h1 h2 m1 m2
  go_enter Tryz.func30, Tryz.ntmps30
  by_cases e1 : x.num = y.num
  case neg =>
    have kq : (x.num == y.num) = false := by simpa using e1
    have HX := hid e1
    clear e1
    go_wp2
    go_ret
    exact EqR.no (fun e => HX.out (by rw [e])) (by exact blBy)
  have kqe1 : (x.num == y.num) = true := by simpa using e1
  have He1 := hid e1
  clear e1
  go_wp2_with fail
  refine (valsD d HE.out _ Z Z2 x.ks y.ks ka1 ka2 kc1 kc2 (G1.out.kept (by exact blBy)) (G2.out.kept (by exact blBy))).mono ?_
  rintro e w1 ⟨r1, rfl, hr, hb⟩
  have HR := hid hr
  clear hr
  have Bx : Blk w1 w.heap.size 29 #[.int .i64 x.num, .slice ka1 x.ks.length kc1, .slice va1 x.vs.length vc1] := ((Blk.new _ _ _).kept (below_alloc _)).kept hb
  have By : Blk w1 (w.heap.size + 1) 29 #[.int .i64 y.num, .slice ka2 y.ks.length kc2, .slice va2 y.vs.length vc2] := (Blk.newAt (by simp)).kept hb
  have hbz : Hid (Below w.heap.size w w1) := hid (bl_then (by exact blBy) hb)
  clear hb
  cases r1 with
  | false =>
    have HX : Hid (¬ x.ks = y.ks) := hid (fun e => (by have := HR.out.2 e; cases this))
    clear HR
    go_wp2
    go_ret
    exact EqR.no (fun e => HX.out (by rw [e])) hbz.out
  | true =>
  have e2 : Hid (x.ks = y.ks) := hid (HR.out.1 rfl)
  clear HR
  have xx := Bx.cellF
  have zx := Bx.lt
  have xy := By.cellF
  have zy := By.lt
  go_wp2_with fail
  refine (valsD d HE.out _ Z Z2 x.vs y.vs va1 va2 vc1 vc2 (M1.out.kept hbz.out) (M2.out.kept hbz.out)).mono ?_
  rintro e w2 ⟨r2, rfl, hr, hb⟩
  have HR := hid hr
  clear hr
  replace Bx := Bx.kept hb
  replace By := By.kept hb
  replace hbz : Hid (Below w.heap.size w w2) := hid (bl_then (by have := hbz.out; exact blBy) hb)
  clear xx zx xy zy
  clear hb
  cases r2 with
  | false =>
    have HX : Hid (¬ x.vs = y.vs) := hid (fun e => (by have := HR.out.2 e; cases this))
    clear HR
    go_wp2
    go_ret
    exact EqR.no (fun e => HX.out (by rw [e])) hbz.out
  | true =>
  have e3 : Hid (x.vs = y.vs) := hid (HR.out.1 rfl)
  clear HR
  go_wp2
  go_ret
  exact EqR.yes (CF.ext3 He1.out e2.out e3.out) hbz.out
theorem equalD : ∀ d, EqDAt d
  | 0 => fun _ _ _ _ _ _ _ h => h.elim
  | d + 1 => fun w Z Z2 cs ds x y h1 h2 => by
    have HE := hid (equalD d)
    obtain ⟨ka1, kc1, va1, vc1, rfl, g1, m1, lf1, -⟩ := msg_open h1
    obtain ⟨ka2, kc2, va2, vc2, rfl, g2, m2, -⟩ := msg_open h2
    have G1 := hid g1
    have G2 := hid g2
    have M1 := hid m1
    have M2 := hid m2
    have ln : (x.fs.length : Int) ≤ 9223372036854775807 := by omega
    clear g1 g2 h1 h2 m1 m2
    by_cases hl : x.fs.length = y.fs.length
    · have HL := hid hl
      rw [← hl] at G2
      rw [← hl]
      clear hl
      go_enter Tryz.func27, Tryz.ntmps27
      go_wp2_with fail
      refine (listD _ Z Z2 x.us y.us va1 va2 vc1 vc2 (M1.out.kept (by exact blBy)) (M2.out.kept (by exact blBy))).mono ?_
      rintro e w1 ⟨r1, rfl, hr, hb⟩
      have HR := hid hr
      have Bx : Blk w1 w.heap.size 35 #[.slice ka1 x.fs.length kc1, .slice va1 x.us.length vc1] := ((Blk.new _ _ _).kept (below_alloc _)).kept hb
      have By : Blk w1 (w.heap.size + 1) 35 #[.slice ka2 x.fs.length kc2, .slice va2 y.us.length vc2] := (Blk.newAt (by simp)).kept hb
      have hbz : Hid (Below w.heap.size w w1) := hid (bl_then (by exact blBy) hb)
      clear hb hr
      cases r1 with
      | false =>
        have HX : Hid (¬ x.us = y.us) := hid (fun e => (by have := HR.out.2 e; cases this))
        clear HR
        go_wp2
        go_ret
        exact EqR.no (fun e => HX.out (by rw [e])) hbz.out
      | true =>
      have HU : Hid (x.us = y.us) := hid (HR.out.1 rfl)
      clear HR
      have HBx := hid Bx
      have HBy := hid By
      clear Bx By
      go_wp2
      go_loopw [5] (fun r wr => ∃ j : Nat, r = .int .i64 j ∧ j ≤ x.fs.length ∧ Hid (x.fs.take j = y.fs.take j) ∧ Hid (Below w1.heap.size w1 wr)) (fun r wr => x.fs.length - numAt wr r)
      case atStart => exact ⟨0, rfl, by omega, hid rfl, hid (Below.refl _ _)⟩
      case round =>
        obtain ⟨j, rfl, hj, hT, hb⟩ := hrel
        have Bx := HBx.out.kept hb.out
        have By := HBy.out.kept hb.out
        have xx := Bx.cellF
        have zx := Bx.lt
        have xy := By.cellF
        have zy := By.lt
        clear Bx By
        by_cases hlt : j < x.fs.length
        · have k2 : (j : Int) < (x.fs.length : Int) := by omega
          have hlt2 : j < y.fs.length := by have := HL.out; omega
          obtain ⟨p1, o1, pa1, pc1, qa1, qc1, rfl, -, hp1, c10, c11, c12, he1⟩ := fls_at (G1.out.kept (below_trans hbz.out hb.out)) hlt
          obtain ⟨p2, o2, pa2, pc2, qa2, qc2, rfl, -, hp2, c20, c21, c22, he2⟩ := fls_at (G2.out.kept (below_trans hbz.out hb.out)) hlt2
          have HE1 := hid he1
          have HE2 := hid he2
          have HN := hid (fun h => take_next hlt hlt2 hT.out h)
          have HNO := hid (fun h => ne_at (xs := x.fs) (ys := y.fs) hlt hlt2 h)
          clear he1 he2
          generalize x.fs[j] = f at *
          generalize y.fs[j] = g at *
          go_wp2_with fail
          go_region_with (go_at_call 30; refine (sameFieldD d HE.out _ Z Z2 [.int .i64 f.num, .slice pa1 f.ks.length pc1, .slice qa1 f.vs.length qc1] [.int .i64 g.num, .slice pa2 g.ks.length pc2, .slice qa2 g.vs.length qc2] f g (HE1.out.kept (bl_drewW _)) (HE2.out.kept (bl_drewW _))).mono ?_; rintro e w2 ⟨r, rfl, hr, hbx⟩; replace hr := hid hr; replace hbx : Hid (Below w1.heap.size w1 w2) := hid (bl_then (bl_drew hb.out) hbx))
          all_goals
            cases r with
            | true =>
              have HX : Hid (f = g) := hid (hr.out.1 rfl)
              clear hr
              go_wp2
              exact ⟨⟨j + 1, by simp, by omega, hid (HN.out HX.out), hbx⟩, by simp [numAt]; omega⟩
            | false =>
              have HX : Hid (¬ f = g) := hid (fun e => (by have := hr.out.2 e; cases this))
              clear hr
              go_wp2
              go_ret
              exact EqR.no (fun e => HNO.out HX.out (by rw [e])) (below_trans hbz.out hbx.out)
        · have k2 : ¬ (j : Int) < (x.fs.length : Int) := by omega
          go_wp2
          go_ret
          exact EqR.yes (CM.ext (take_all (by omega) (by have := HL.out; omega) hT.out) HU.out) (below_trans hbz.out hb.out)
    · have q0 : ((x.fs.length : Int) == (y.fs.length : Int)) = false := by simp; omega
      have HL := hid hl
      clear hl
      go_enter Tryz.func27, Tryz.ntmps27
      go_wp2
      go_ret
      exact EqR.no (fun q => HL.out (by rw [q])) (by exact blBy)
end Go.Proofs.YtgephggcgopfgaaGreatDoor
namespace Go.Proofs.YtgephggcgopfgaaGreatDoor
open Go.RowKit
set_option maxRecDepth 1000000
set_option linter.unusedVariables false
set_option linter.unusedSimpArgs false
set_option maxHeartbeats 2000000
end Go.Proofs.YtgephggcgopfgaaGreatDoor
namespace Go.Proofs.YtgephggcgopfgaaGreatDoor
open Go.ChangeShapes Go.WideShapes Go.ChangeAt Go.RowKit Go.Deep
set_option maxRecDepth 1000000
section
variable {H : Type}
theorem bulk_one (d : DataW H) : 1 ≤ Rows.uptoBulk d := by
  cases d with
  | lit l => cases l <;> simp [Rows.uptoBulk]
  | nil => simp [Rows.uptoBulk]
  | ptr d => simp [Rows.uptoBulk]
  | slice elems spare => simp [Rows.uptoBulk]
  | agg parts => simp [Rows.uptoBulk]
  | iface t d => simp [Rows.uptoBulk]
  | map entries => simp [Rows.uptoBulk]
  | held h => simp [Rows.uptoBulk]
theorem bulk_length (l : List (DataW H)) : l.length ≤ Rows.uptoBulkAll l := by
  induction l with
  | nil => simp [Rows.uptoBulkAll]
  | cons x r ih => have := bulk_one x; simp only [Rows.uptoBulkAll, List.length_cons]; omega
theorem small_le {l : List (DataW H)} (hk : Rows.uptoSmall H l = true) : Rows.uptoBulkAll l ≤ 1048576 := of_decide_eq_true hk
end
end Go.Proofs.YtgephggcgopfgaaGreatDoor
namespace Go.Proofs.YtgephggcgopfgaaGreatDoor
open Go.ChangeShapes Go.WideShapes Go.ChangeAt Go.RowKit Go.Deep
set_option maxRecDepth 1000000
set_option linter.unusedVariables false
set_option linter.unusedSimpArgs false
set_option maxHeartbeats 1000000
section
variable {H : Type} {enc : TypeId × Value → H} {W : World} {spare : Nat → Bool} {held : Bool}
/-- A struct of fields of one cell each, opened. -/
theorem struct_open {t : TypeId} {fs : Array Field} (ht : Tryz.prog.underlying t = some (.struct fs)) (hone : oneCellFields Tryz.prog fs = true) (hsz : Tryz.prog.cellsOf t = fs.size) {fuel : Nat} {cs : List Value} {y : DataW H × List MemPlace} (h : DataW.trod enc Tryz.prog W 0 spare held fuel t cs = some y) :
    ∃ (xs : List (DataW H × List MemPlace)) (n : Nat), y.1 = .agg (xs.map (·.1)) ∧ xs.length = fs.size ∧ cs.length = fs.size ∧ ∀ (i : Nat) (f : Field), fs[i]? = some f → ∃ v yi, cs[i]? = some v ∧ xs[i]? = some yi ∧ DataW.trod enc Tryz.prog W 0 spare held n f.type [v] = some yi := by
  obtain ⟨xs, n, _, rfl, hl, hlen, hf⟩ := DataW.trod_struct ht h
  refine ⟨xs, n, rfl, hlen, hl.trans hsz, fun i f hi => ?_⟩
  have hlt : i < fs.size := (Array.getElem?_eq_some_iff.1 hi).1
  obtain ⟨o1, o2⟩ := hone_of hone i f hi
  have hc : i < cs.length := by omega
  have hx : i < xs.length := by omega
  refine ⟨cs[i], xs[i], by simp [hc], by simp [hx], ?_⟩
  have := hf i f hi
  have e : (cs.drop i).take 1 = [cs[i]] := by rw [List.drop_eq_getElem_cons hc]; rfl
  rw [o1, o2, e] at this
  rw [this]
  simp [hx]
theorem bulk_mem {l : List (DataW H)} {d : DataW H} (h : d ∈ l) : Rows.uptoBulk d ≤ Rows.uptoBulkAll l := by
  induction l with
  | nil => cases h
  | cons x r ih =>
    simp only [Rows.uptoBulkAll]
    rcases List.mem_cons.1 h with rfl | h
    · omega
    · have := ih h; omega
theorem bulk_get {xs : List (DataW H × List MemPlace)} {i : Nat} {y : DataW H × List MemPlace} (h : xs[i]? = some y) : Rows.uptoBulk y.1 + 1 ≤ Rows.uptoBulk (DataW.agg (xs.map (·.1))) := by
  have := bulk_mem (l := xs.map (·.1)) (d := y.1) (List.mem_map.2 ⟨y, List.mem_of_getElem? h, rfl⟩)
  simp only [Rows.uptoBulk]
  omega
/-- A row of structs, opened. -/
theorem rows_open {α : Type} (g : α → List Value) (K : Nat) (hK0 : 0 < K) (Q : α → DataW H → Prop) {t e : TypeId} (ht : Tryz.prog.underlying t = some (.slice e)) (hK : Tryz.prog.cellsOf e = K) (hg : ∀ x, (g x).length = K)
    (hel : ∀ (n : Nat) (cs : List Value) (y : DataW H × List MemPlace), DataW.trod enc Tryz.prog W 0 spare held n e cs = some y → ∃ x, cs = g x ∧ Q x y.1) {fuel : Nat} {v : Value} {y : DataW H × List MemPlace} (hf : DataW.trod enc Tryz.prog W 0 spare held fuel t [v] = some y) :
    ∃ (a : Option Addr) (cap : Nat) (xs : List α), v = .slice a xs.length cap ∧ RowS W AnyZ K v xs.length (xs.flatMap g) ∧ xs.length + 1 ≤ Rows.uptoBulk y.1 ∧ ∀ x ∈ xs, ∃ d, Q x d ∧ Rows.uptoBulk d ≤ Rows.uptoBulk y.1 := by
  rcases open_slice ht hf with ⟨hcs, rfl⟩ | ⟨a, len, cap, m, n, D, Pl, hcs, _, hl, hm, hmm, rfl, hx⟩
  · simp at hcs
    subst hcs
    exact ⟨none, 0, [], rfl, rowS_nil _ _ _, by simp [Rows.uptoBulk], fun x hx => by cases hx⟩
  · simp at hcs
    subst hcs
    rw [hK] at hx
    have hlm : len ≤ m := by rw [hmm]; split <;> omega
    have hc : ∀ i, i < len → ∃ x : α, W.cells? 0 (a.add (i * K)) K = some (g x) ∧ Q x (D i) := fun i hi => by
      obtain ⟨cs', h1, h2⟩ := hx i (by omega)
      obtain ⟨x, rfl, hq⟩ := hel _ _ _ h2
      exact ⟨x, h1, hq⟩
    obtain ⟨xs, hxl, hxs⟩ : ∃ xs : List α, xs.length = len ∧ ∀ i (h : i < xs.length), W.cells? 0 (a.add (i * K)) K = some (g xs[i]) ∧ Q xs[i] (D i) := by
      clear hx hl hlm hmm hf
      induction len with
      | zero => exact ⟨[], rfl, fun i h => by simp at h⟩
      | succ k ih =>
        obtain ⟨xs, h1, h2⟩ := ih (fun i hi => hc i (by omega))
        obtain ⟨x, h3, h4⟩ := hc k (by omega)
        refine ⟨xs ++ [x], by simp [h1], fun i h => ?_⟩
        by_cases e : i < xs.length
        · rw [List.getElem_append_left e]; exact h2 i e
        · have ei : i = k := by simp at h; omega
          subst ei
          rw [List.getElem_append_right (by omega)]
          simp [h1, h3, h4]
    subst hxl
    have hb : ∀ i, i < xs.length → D i ∈ (List.range xs.length).map D := fun i hi => List.mem_map.2 ⟨i, List.mem_range.2 hi, rfl⟩
    refine ⟨some a, cap, xs, rfl, ⟨some a, cap, rfl, flatM_len hg xs, hl, by unfold maxLen at hm; omega, ?_⟩, ?_, fun x hxm => ?_⟩
    · by_cases h0 : xs.length = 0
      · exact .inl ⟨h0, fun e => by cases e⟩
      · obtain ⟨b, off, spot⟩ := a
        have hspot : spot = none := by
          have h1 := (World.cells?_some (hxs 0 (by omega)).1).2.2 0 hK0
          have h2 : (g xs[0])[0]? = some ((g xs[0])[0]'(by rw [hg]; exact hK0)) := by simp
          rw [h2] at h1
          simpa [Addr.add] using World.cell?_spot h1
        subst hspot
        refine .inr ⟨b, off, rfl, trivial, fun j u hu => ?_⟩
        have hj : j < xs.length * K := by rw [← flatM_len hg xs]; exact (List.getElem?_eq_some_iff.1 hu).1
        have hi : j / K < xs.length := (Nat.div_lt_iff_lt_mul hK0).2 hj
        have hr : j % K < K := Nat.mod_lt _ hK0
        have hjj : j / K * K + j % K = j := by rw [Nat.mul_comm]; exact Nat.div_add_mod j K
        have h2 : (g xs[j / K])[j % K]? = some ((g xs[j / K])[j % K]'(by rw [hg]; exact hr)) := by simp
        have h3 := flatM_get hg xs (j / K) (j % K) xs[j / K] _ (by simp [hi]) h2
        rw [hjj] at h3
        rw [h3] at hu
        have h1 := (World.cells?_some (hxs (j / K) hi).1).2.2 (j % K) hr
        have hadd : ((⟨b, off, none⟩ : Addr).add (j / K * K)).add (j % K) = ⟨b, off + j, none⟩ := by
          have e1 : ∀ (o i : Nat), (⟨b, o, none⟩ : Addr).add i = ⟨b, o + i, none⟩ := fun o i => by unfold Addr.add; split <;> simp_all
          rw [e1, e1, Nat.add_assoc, hjj]
        rw [hadd, h2] at h1
        rw [h1]
        exact hu
    · simp only [Rows.uptoBulk]
      have := bulk_length ((List.range xs.length).map D)
      simp at this
      omega
    · obtain ⟨i, hi, rfl⟩ := List.mem_iff_getElem.1 hxm
      refine ⟨D i, (hxs i hi).2, ?_⟩
      have := bulk_mem (hb i hi)
      simp only [Rows.uptoBulk]
      omega
theorem int_open {n : Nat} {v : Value} {y : DataW H × List MemPlace} (h : DataW.trod enc Tryz.prog W 0 spare held n 3 [v] = some y) : ∃ x : Int, v = .int .i64 x ∧ I64 x := by
  obtain ⟨x, e, rfl, hs⟩ := DataW.trod_int Tryz.underlying3 h
  simp at e
  subst e
  refine ⟨x, rfl, ?_⟩
  unfold I64
  simp [Lit.wf, IntKind.min, IntKind.max, IntKind.signed, IntKind.bits] at hs
  omega
end
end Go.Proofs.YtgephggcgopfgaaGreatDoor
namespace Go.Proofs.YtgephggcgopfgaaGreatDoor
open Go.ChangeShapes Go.WideShapes Go.ChangeAt Go.RowKit Go.Deep
set_option maxRecDepth 1000000
set_option linter.unusedVariables false
set_option linter.unusedSimpArgs false
set_option maxHeartbeats 1000000
theorem list_eq {cs : List Value} : ∀ (l : List Value), cs.length = l.length → (∀ (i : Nat) (v : Value), l[i]? = some v → cs[i]? = some v) → cs = l := fun l hl h => by
  apply List.ext_getElem? 
  intro i
  by_cases hi : i < l.length
  · rw [h i l[i] (by simp [hi])]; simp [hi]
  · rw [List.getElem?_eq_none (by omega), List.getElem?_eq_none (by omega)]
section
variable {H : Type} {enc : TypeId × Value → H} {W : World} {spare : Nat → Bool} {held : Bool}
end
end Go.Proofs.YtgephggcgopfgaaGreatDoor
namespace Go.Proofs.YtgephggcgopfgaaGreatDoor
open Go.ChangeShapes Go.WideShapes Go.ChangeAt Go.RowKit Go.Deep
set_option maxRecDepth 1000000
set_option linter.unusedVariables false
set_option linter.unusedSimpArgs false
set_option maxHeartbeats 1000000
theorem fieldsMM : ∃ f0 f1, Tryz.prog.underlying 35 = some (.struct #[f0, f1]) ∧ oneCellFields Tryz.prog #[f0, f1] = true ∧ Tryz.prog.cellsOf 35 = 2 ∧ f0.type = 32 ∧ f1.type = 33 :=
  ⟨_, _, Tryz.underlying35, by kernel_rfl, by kernel_rfl, by kernel_rfl, by kernel_rfl⟩
theorem fieldsMF : ∃ f0 f1 f2, Tryz.prog.underlying 29 = some (.struct #[f0, f1, f2]) ∧ oneCellFields Tryz.prog #[f0, f1, f2] = true ∧ Tryz.prog.cellsOf 29 = 3 ∧ f0.type = 3 ∧ f1.type = 27 ∧ f2.type = 27 :=
  ⟨_, _, _, Tryz.underlying29, by kernel_rfl, by kernel_rfl, by kernel_rfl, by kernel_rfl, by kernel_rfl⟩
theorem fieldsMV : ∃ f0 f1 f2, Tryz.prog.underlying 26 = some (.struct #[f0, f1, f2]) ∧ oneCellFields Tryz.prog #[f0, f1, f2] = true ∧ Tryz.prog.cellsOf 26 = 3 ∧ f0.type = 22 ∧ f1.type = 23 ∧ f2.type = 24 :=
  ⟨_, _, _, Tryz.underlying26, by kernel_rfl, by kernel_rfl, by kernel_rfl, by kernel_rfl, by kernel_rfl⟩
theorem fieldsME : ∃ f0 f1 f2 f3, Tryz.prog.underlying 40 = some (.struct #[f0, f1, f2, f3]) ∧ oneCellFields Tryz.prog #[f0, f1, f2, f3] = true ∧ Tryz.prog.cellsOf 40 = 4 ∧ f0.type = 3 ∧ f1.type = 3 ∧ f2.type = 22 ∧ f3.type = 23 :=
  ⟨_, _, _, _, Tryz.underlying40, by kernel_rfl, by kernel_rfl, by kernel_rfl, by kernel_rfl, by kernel_rfl, by kernel_rfl⟩
section
variable {H : Type} {enc : TypeId × Value → H} {W : World} {spare : Nat → Bool} {held : Bool}
theorem u64_open {n : Nat} {v : Value} {y : DataW H × List MemPlace} (h : DataW.trod enc Tryz.prog W 0 spare held n 22 [v] = some y) : ∃ x : Int, v = .int .u64 x ∧ U64 x := by
  obtain ⟨x, e, rfl, hs⟩ := DataW.trod_int Tryz.underlying22 h
  simp at e
  subst e
  refine ⟨x, rfl, ?_⟩
  unfold U64
  simp [Lit.wf, IntKind.min, IntKind.max, IntKind.signed, IntKind.bits] at hs
  omega
theorem u8_open (n : Nat) (cs : List Value) (y : DataW H × List MemPlace) (h : DataW.trod enc Tryz.prog W 0 spare held n 5 cs = some y) : ∃ x : Int, cs = [.int .u8 x] ∧ (0 ≤ x ∧ x ≤ 255) := by
  obtain ⟨x, e, rfl, hs⟩ := DataW.trod_int Tryz.underlying5 h
  subst e
  refine ⟨x, rfl, ?_⟩
  simp [Lit.wf, IntKind.min, IntKind.max, IntKind.signed, IntKind.bits] at hs
  omega
theorem flat_one {α β : Type} (f : α → β) : ∀ l : List α, l.flatMap (fun x => [f x]) = l.map f
  | [] => rfl
  | x :: l => by rw [List.flatMap_cons, List.map_cons, flat_one f l]; rfl
theorem by_open {n : Nat} {v : Value} {y : DataW H × List MemPlace} (h : DataW.trod enc Tryz.prog W 0 spare held n 23 [v] = some y) (hb : Rows.uptoBulk y.1 ≤ 4000000) : ∃ b : List Int, ByE W AnyZ v b := by
  obtain ⟨a, c, xs, rfl, r, hl, q⟩ := rows_open (fun x : Int => [Value.int .u8 x]) 1 (by decide) (fun x _ => 0 ≤ x ∧ x ≤ 255) Tryz.underlying23 (by kernel_rfl) (fun _ => rfl) u8_open h
  rw [flat_one] at r
  exact ⟨xs, r, fun x hx => by obtain ⟨d, hd, _⟩ := q x hx; exact hd, by omega⟩
theorem rowM_open {α : Type} (x0 : α) (E : List Value → α → Prop) (K : Nat) (hK0 : 0 < K) (N : Nat) (hN : N ≤ 4000000) {t e : TypeId} (ht : Tryz.prog.underlying t = some (.slice e)) (hK : Tryz.prog.cellsOf e = K) (hlen : ∀ (n : Nat) (cs : List Value) (y : DataW H × List MemPlace), DataW.trod enc Tryz.prog W 0 spare held n e cs = some y → cs.length = K)
    (hel : ∀ (n : Nat) (cs : List Value) (y : DataW H × List MemPlace), DataW.trod enc Tryz.prog W 0 spare held n e cs = some y → Rows.uptoBulk y.1 ≤ N → ∃ x, E cs x) {n : Nat} {v : Value} {y : DataW H × List MemPlace} (hf : DataW.trod enc Tryz.prog W 0 spare held n t [v] = some y) (hb : Rows.uptoBulk y.1 ≤ N) : ∃ xs : List α, RowM W AnyZ K E v xs := by
  obtain ⟨a, c, xs, rfl, r, hl, q⟩ := rows_open (α := {p : List Value × α // p.1.length = K}) (fun p => p.1.1) K hK0 (fun p d => Rows.uptoBulk d ≤ N → E p.1.1 p.1.2) ht hK (fun p => p.2) (fun n cs y h => by
    by_cases hb : Rows.uptoBulk y.1 ≤ N
    · obtain ⟨x, hx⟩ := hel n cs y h hb
      exact ⟨⟨(cs, x), hlen n cs y h⟩, rfl, fun _ => hx⟩
    · exact ⟨⟨(cs, x0), hlen n cs y h⟩, rfl, fun g => absurd g hb⟩) hf
  refine ⟨xs.map (fun p => p.1.2), xs.map (fun p => (⟨p.1.1, p.2⟩ : Tup K)), ?_, by simp, by simp; omega, fun i t x h1 h2 => ?_⟩
  · rw [List.length_map, List.flatMap_map]
    exact r
  · rw [List.getElem?_map] at h1 h2
    cases hp : xs[i]? with
    | none => rw [hp] at h1; cases h1
    | some p =>
      rw [hp] at h1 h2
      simp only [Option.map_some, Option.some.injEq] at h1 h2
      subst h1 h2
      obtain ⟨d, hd, hdb⟩ := q p (List.mem_of_getElem? hp)
      exact hd (by omega)
theorem enB_len (n : Nat) (cs : List Value) (y : DataW H × List MemPlace) (h : DataW.trod enc Tryz.prog W 0 spare held n 40 cs = some y) : cs.length = 4 := by
  obtain ⟨f0, f1, f2, f3, hs, hone, hsz, -⟩ := fieldsME
  obtain ⟨xs, m, hy, hxl, hcl, hi⟩ := struct_open hs hone hsz h
  exact hcl
theorem vlB_len (n : Nat) (cs : List Value) (y : DataW H × List MemPlace) (h : DataW.trod enc Tryz.prog W 0 spare held n 26 cs = some y) : cs.length = 3 := by
  obtain ⟨f0, f1, f2, hs, hone, hsz, -⟩ := fieldsMV
  obtain ⟨xs, m, hy, hxl, hcl, hi⟩ := struct_open hs hone hsz h
  exact hcl
theorem flB_len (n : Nat) (cs : List Value) (y : DataW H × List MemPlace) (h : DataW.trod enc Tryz.prog W 0 spare held n 29 cs = some y) : cs.length = 3 := by
  obtain ⟨f0, f1, f2, hs, hone, hsz, -⟩ := fieldsMF
  obtain ⟨xs, m, hy, hxl, hcl, hi⟩ := struct_open hs hone hsz h
  exact hcl
theorem mgB_len (n : Nat) (cs : List Value) (y : DataW H × List MemPlace) (h : DataW.trod enc Tryz.prog W 0 spare held n 35 cs = some y) : cs.length = 2 := by
  obtain ⟨f0, f1, hs, hone, hsz, -⟩ := fieldsMM
  obtain ⟨xs, m, hy, hxl, hcl, hi⟩ := struct_open hs hone hsz h
  exact hcl
theorem en_open (N : Nat) (hN : N ≤ 4000000) (n : Nat) (cs : List Value) (y : DataW H × List MemPlace) (h : DataW.trod enc Tryz.prog W 0 spare held n 40 cs = some y) (hb : Rows.uptoBulk y.1 ≤ N) : ∃ x : CE, EntE W AnyZ cs x := by
  obtain ⟨f0, f1, f2, f3, hs, hone, hsz, t0, t1, t2, t3⟩ := fieldsME
  obtain ⟨xs, m, hy, hxl, hcl, hi⟩ := struct_open hs hone hsz h
  obtain ⟨v0, y0, c0, x0, h0⟩ := hi 0 f0 rfl
  obtain ⟨v1, y1, c1, x1, h1⟩ := hi 1 f1 rfl
  obtain ⟨v2, y2, c2, x2, h2⟩ := hi 2 f2 rfl
  obtain ⟨v3, y3, c3, x3, h3⟩ := hi 3 f3 rfl
  rw [t0] at h0
  rw [t1] at h1
  rw [t2] at h2
  rw [t3] at h3
  have b3 := bulk_get x3
  rw [← hy] at b3
  obtain ⟨a0, rfl, k0⟩ := int_open h0
  obtain ⟨a1, rfl, k1⟩ := int_open h1
  obtain ⟨a2, rfl, k2⟩ := u64_open h2
  obtain ⟨a3, k3⟩ := by_open h3 (by omega)
  refine ⟨⟨a0, a1, a2, a3⟩, v3, list_eq _ (by rw [hcl]; rfl) fun i v hv => ?_, k3, k0, k1, k2⟩
  match i, hv with
  | 0, hv => simp at hv; subst hv; exact c0
  | 1, hv => simp at hv; subst hv; exact c1
  | 2, hv => simp at hv; subst hv; exact c2
  | 3, hv => simp at hv; subst hv; exact c3
  | i + 4, hv => simp at hv
theorem vl_open (R : List Value → CM → Prop) (N : Nat) (hN : N ≤ 4000000) (IH : ∀ (n : Nat) (cs : List Value) (y : DataW H × List MemPlace), DataW.trod enc Tryz.prog W 0 spare held n 35 cs = some y → Rows.uptoBulk y.1 ≤ N → ∃ m, R cs m) (n : Nat) (cs : List Value) (y : DataW H × List MemPlace) (h : DataW.trod enc Tryz.prog W 0 spare held n 26 cs = some y) (hb : Rows.uptoBulk y.1 ≤ N) : ∃ x : CV CM, ValE W AnyZ R cs x := by
  obtain ⟨f0, f1, f2, hs, hone, hsz, t0, t1, t2⟩ := fieldsMV
  obtain ⟨xs, m, hy, hxl, hcl, hi⟩ := struct_open hs hone hsz h
  obtain ⟨v0, y0, c0, x0, h0⟩ := hi 0 f0 rfl
  obtain ⟨v1, y1, c1, x1, h1⟩ := hi 1 f1 rfl
  obtain ⟨v2, y2, c2, x2, h2⟩ := hi 2 f2 rfl
  rw [t0] at h0
  rw [t1] at h1
  rw [t2] at h2
  have b1 := bulk_get x1
  have b2 := bulk_get x2
  rw [← hy] at b1 b2
  obtain ⟨a0, rfl, k0⟩ := u64_open h0
  obtain ⟨a1, k1⟩ := by_open h1 (by omega)
  obtain ⟨a2, k2⟩ := rowM_open (CM.mk [] []) R 2 (by decide) N hN Tryz.underlying24 (by kernel_rfl) mgB_len IH h2 (by omega)
  refine ⟨⟨a0, a1, a2⟩, v1, v2, list_eq _ (by rw [hcl]; rfl) fun i v hv => ?_, k1, k2, k0⟩
  match i, hv with
  | 0, hv => simp at hv; subst hv; exact c0
  | 1, hv => simp at hv; subst hv; exact c1
  | 2, hv => simp at hv; subst hv; exact c2
  | i + 3, hv => simp at hv
theorem fl_open (R : List Value → CM → Prop) (N : Nat) (hN : N ≤ 4000000) (IH : ∀ (n : Nat) (cs : List Value) (y : DataW H × List MemPlace), DataW.trod enc Tryz.prog W 0 spare held n 35 cs = some y → Rows.uptoBulk y.1 ≤ N → ∃ m, R cs m) (n : Nat) (cs : List Value) (y : DataW H × List MemPlace) (h : DataW.trod enc Tryz.prog W 0 spare held n 29 cs = some y) (hb : Rows.uptoBulk y.1 ≤ N) : ∃ x : CF CM, FldE W AnyZ R cs x := by
  obtain ⟨f0, f1, f2, hs, hone, hsz, t0, t1, t2⟩ := fieldsMF
  obtain ⟨xs, m, hy, hxl, hcl, hi⟩ := struct_open hs hone hsz h
  obtain ⟨v0, y0, c0, x0, h0⟩ := hi 0 f0 rfl
  obtain ⟨v1, y1, c1, x1, h1⟩ := hi 1 f1 rfl
  obtain ⟨v2, y2, c2, x2, h2⟩ := hi 2 f2 rfl
  rw [t0] at h0
  rw [t1] at h1
  rw [t2] at h2
  have b1 := bulk_get x1
  have b2 := bulk_get x2
  rw [← hy] at b1 b2
  obtain ⟨a0, rfl, k0⟩ := int_open h0
  obtain ⟨a1, k1⟩ := rowM_open (⟨0, [], []⟩ : CV CM) (ValE W AnyZ R) 3 (by decide) N hN Tryz.underlying27 (by kernel_rfl) vlB_len (vl_open R N hN IH) h1 (by omega)
  obtain ⟨a2, k2⟩ := rowM_open (⟨0, [], []⟩ : CV CM) (ValE W AnyZ R) 3 (by decide) N hN Tryz.underlying27 (by kernel_rfl) vlB_len (vl_open R N hN IH) h2 (by omega)
  refine ⟨⟨a0, a1, a2⟩, v1, v2, list_eq _ (by rw [hcl]; rfl) fun i v hv => ?_, k1, k2, k0⟩
  match i, hv with
  | 0, hv => simp at hv; subst hv; exact c0
  | 1, hv => simp at hv; subst hv; exact c1
  | 2, hv => simp at hv; subst hv; exact c2
  | i + 3, hv => simp at hv
/-- A message that comes in, so great at most, lies as it should, so deep at most. -/
theorem mg_open : ∀ (N : Nat), N ≤ 4000000 → ∀ (n : Nat) (cs : List Value) (y : DataW H × List MemPlace), DataW.trod enc Tryz.prog W 0 spare held n 35 cs = some y → Rows.uptoBulk y.1 ≤ N → ∃ m, MsgE W AnyZ N cs m
  | 0, _, n, cs, y, h, hb => absurd (bulk_one y.1) (by omega)
  | N + 1, hN, n, cs, y, h, hb => by
    obtain ⟨f0, f1, hs, hone, hsz, t0, t1⟩ := fieldsMM
    obtain ⟨xs, m, hy, hxl, hcl, hi⟩ := struct_open hs hone hsz h
    obtain ⟨v0, y0, c0, x0, h0⟩ := hi 0 f0 rfl
    obtain ⟨v1, y1, c1, x1, h1⟩ := hi 1 f1 rfl
    rw [t0] at h0
    rw [t1] at h1
    have b0 := bulk_get x0
    have b1 := bulk_get x1
    rw [← hy] at b0 b1
    obtain ⟨a0, k0⟩ := rowM_open (⟨0, [], []⟩ : CF CM) (FldE W AnyZ (MsgE W AnyZ N)) 3 (by decide) N (by omega) Tryz.underlying32 (by kernel_rfl) flB_len (fl_open _ N (by omega) (mg_open N (by omega))) h0 (by omega)
    obtain ⟨a1, k1⟩ := rowM_open (⟨0, 0, 0, []⟩ : CE) (EntE W AnyZ) 4 (by decide) N (by omega) Tryz.underlying33 (by kernel_rfl) enB_len (en_open N (by omega)) h1 (by omega)
    refine ⟨CM.mk a0 a1, v0, v1, list_eq _ (by rw [hcl]; rfl) fun i v hv => ?_, k0, k1⟩
    match i, hv with
    | 0, hv => simp at hv; subst hv; exact c0
    | 1, hv => simp at hv; subst hv; exact c1
    | i + 2, hv => simp at hv
end
end Go.Proofs.YtgephggcgopfgaaGreatDoor
namespace Go.Proofs.YtgephggcgopfgaaGreatDoor
open Go.ChangeShapes Go.WideShapes Go.ChangeAt Go.RowKit
set_option maxRecDepth 1000000
set_option maxRecDepth 100000
/-- The rows' list. -/
def laidL : List (String × DataW Unit) := [("unicode/utf8.acceptRanges", Rows.laid_unicode_utf8_acceptRanges), ("unicode/utf8.first", Rows.laid_unicode_utf8_first)]
theorem laid_plain {W : World} (h : laidMetH Tryz.prog laidL W) : laidMet Tryz.prog laidL W := h
/-- A block's cells laid anew. -/
noncomputable def layAt (g : Nat) (cs : Array Value) (w : World) : World := { w with heap := w.heap.modify g fun
      | .cells _ t frozen => .cells cs t frozen
      | o => o }
def numV : DataW Unit → Value
  | .lit (.int k n) => .int k n
  | _ => undef
def rowV : DataW Unit → List Value
  | .agg ds => ds.map numV
  | _ => []
def rowsV : DataW Unit → List Value
  | .agg ds => ds.flatMap rowV
  | _ => []
noncomputable def laidWorld (os : Os) : World :=
  layAt 2 (List.toArray (rowsV Rows.laid_unicode_utf8_acceptRanges)) (layAt 1 (List.toArray (rowV Rows.laid_unicode_utf8_first)) (World.holding Tryz.prog os ⟨#[], #[], []⟩))
theorem laid_met (os : Os) (args : Array Value) : laidMet Tryz.prog laidL ((laidWorld os).forCall (fun _ _ => 0) ⟨#[], args, []⟩).memory :=
  laidMet_of_run' 8 (by kernel_rfl) (by kernel_rfl)
theorem maxLen_cell {W : World} (h : W.ShapedOpen Tryz.prog) : ∃ m, W.cell? ⟨0, 0, none⟩ = some (.int .i64 m) :=
  Go.Proofs.cell_of_shapedOpen_int (zero := #[.int .i64 0]) (t := 3) h (of_decide_eq_true (by kernel_rfl)) (by kernel_rfl) rfl (by kernel_rfl) (by kernel_rfl) Tryz.underlying3
end Go.Proofs.YtgephggcgopfgaaGreatDoor
namespace Go.Proofs.YtgephggcgopfgaaGreatDoor
open Go.RowKit
set_option maxRecDepth 1000000
set_option linter.unusedVariables false
set_option linter.unusedSimpArgs false
set_option maxHeartbeats 4000000
theorem modelPlainW (d : Nat) (hd : d + 1 ≤ 4000000) (w : World) (mx : Int) (hm0 : w.cell? ⟨0, 0, none⟩ = some (.int .i64 mx)) (Z Z2 : Nat → Prop) (cs ds : List Value) (ma mb : CM) (hA : MsgE w Z (d + 1) cs ma) (hB : MsgE w Z2 (d + 1) ds mb) (n : Int) : Calls Tryz.prog 5 #[.agg cs.toArray, .agg ds.toArray, .int .i64 n] w fun e w' => e = .returned (.bool true) ∧ Below w.heap.size w w' := by
  have HM := hid hm0
  have HA := hid hA
  have HB := hid hB
  obtain ⟨a1, c1, a2, c2, rfl, -⟩ := msg_openD hA
  obtain ⟨b1, e1, b2, e2, rfl, -⟩ := msg_openD hB
  clear hA hB hm0
  obtain ⟨bq, hbq⟩ : ∃ b : Bool, b = true ↔ ma = mb := by
    by_cases h : ma = mb
    · exact ⟨true, ⟨fun _ => h, fun _ => rfl⟩⟩
    · exact ⟨false, ⟨fun h2 => (by cases h2), fun h2 => absurd h2 h⟩⟩
  go_enter Tryz.func5, Tryz.ntmps5
  go_wp2_with fail
  refine (getT d _ Z _ ma (HA.out.kept (by exact blBy)) n).mono ?_
  rintro e w1 ⟨fs, rfl, hf, hbx⟩
  have HG := hid hf
  have BA : Hid (Blk w1 w.heap.size 35 #[.slice a1 ma.fs.length c1, .slice a2 ma.us.length c2]) := hid (((Blk.new _ _ _).kept (below_alloc _)).kept hbx)
  have BB : Hid (Blk w1 (w.heap.size + 1) 35 #[.slice b1 mb.fs.length e1, .slice b2 mb.us.length e2]) := hid ((Blk.newAt (by simp)).kept hbx)
  have hb1 : Hid (Below w.heap.size w w1) := hid (bl_then (by exact blBy) hbx)
  have HGD := hid fun W (hW : Below w.heap.size w W) => getDR d W Z _ ma (HA.out.kept hW) n
  unfold GetD at HGD
  generalize ho : ma.fs.find? (isN n) = oo at *
  generalize hff : oo.getD cfZ = ff at *
  obtain ⟨p1, q1, p2, q2, rfl, -⟩ := fld_open hf
  clear hf hbx
  have xa := BA.out.cellF
  have za := BA.out.lt
  go_wp2_with fail
  refine (HGD.out _ (by have := hb1.out; exact blBy)).mono ?_
  rintro e w2 ⟨gs, rfl, hg, hbx⟩
  have HG2 := hid hg
  have hz : Below w1.heap.size w1 w2 := bl_then (by exact blBy) hbx
  have BF : Hid (Blk w2 w1.heap.size 29 #[.int .i64 ff.num, .slice p1 ff.ks.length q1, .slice p2 ff.vs.length q2]) := hid ((Blk.new _ _ _).kept hbx)
  replace BA := hid (BA.out.kept hz)
  replace BB := hid (BB.out.kept hz)
  replace HG := hid (HG.out.kept hz)
  have hb2 : Hid (Below w.heap.size w w2) := hid (below_trans hb1.out hz)
  obtain ⟨r1, s1, r2, s2, rfl, -⟩ := fld_open hg
  clear hg hbx hz xa za HGD
  go_upto_region 3 with fail
  have BX : Hid (Blk (w2.alloc (.cells #[.int .i64 ff.num, .slice r1 ff.ks.length s1, .slice r2 ff.vs.length s2] 29)) w2.heap.size 29 #[.int .i64 ff.num, .slice r1 ff.ks.length s1, .slice r2 ff.vs.length s2]) := hid (Blk.new _ _ _)
  replace BA := hid (BA.out.kept (below_alloc (w := w2) (.cells #[.int .i64 ff.num, .slice r1 ff.ks.length s1, .slice r2 ff.vs.length s2] 29)))
  replace BB := hid (BB.out.kept (below_alloc (w := w2) (.cells #[.int .i64 ff.num, .slice r1 ff.ks.length s1, .slice r2 ff.vs.length s2] 29)))
  replace BF := hid (BF.out.kept (below_alloc (w := w2) (.cells #[.int .i64 ff.num, .slice r1 ff.ks.length s1, .slice r2 ff.vs.length s2] 29)))
  replace HG := hid (HG.out.kept (below_alloc (w := w2) (.cells #[.int .i64 ff.num, .slice r1 ff.ks.length s1, .slice r2 ff.vs.length s2] 29)))
  replace HG2 := hid (HG2.out.kept (below_alloc (w := w2) (.cells #[.int .i64 ff.num, .slice r1 ff.ks.length s1, .slice r2 ff.vs.length s2] 29)))
  have hb3 : Hid (Below w.heap.size w (w2.alloc (.cells #[.int .i64 ff.num, .slice r1 ff.ks.length s1, .slice r2 ff.vs.length s2] 29))) := hid (by have := hb2.out; exact blBy)
  generalize w1.heap.size = pf at *
  generalize hpx : w2.heap.size = px at *
  generalize (w2.alloc (.cells #[.int .i64 ff.num, .slice r1 ff.ks.length s1, .slice r2 ff.vs.length s2] 29)) = w3 at *
  have HSK : Hid (∀ W, Below w3.heap.size w3 W → (fun W => (∀ k, W.cell? ⟨w.heap.size, k, none⟩ = #[.slice a1 ma.fs.length c1, .slice a2 ma.us.length c2][k]?) ∧ (∀ k, W.cell? ⟨w.heap.size + 1, k, none⟩ = #[.slice b1 mb.fs.length e1, .slice b2 mb.us.length e2][k]?) ∧ (∀ k, W.cell? ⟨pf, k, none⟩ = #[.int .i64 ff.num, .slice p1 ff.ks.length q1, .slice p2 ff.vs.length q2][k]?) ∧ (∀ k, W.cell? ⟨px, k, none⟩ = #[.int .i64 ff.num, .slice r1 ff.ks.length s1, .slice r2 ff.vs.length s2][k]?)) W) := hid fun W h => ⟨(BA.out.kept h).cellF, (BB.out.kept h).cellF, (BF.out.kept h).cellF, (BX.out.kept h).cellF⟩
  have HXX : Hid (FmF d w3 AnyZ [.int .i64 ff.num, .slice p1 ff.ks.length q1, .slice p2 ff.vs.length q2] ff) := hid ((famF d).go HG.out (Keep.refl (fun _ => True) _) (fun _ _ => trivial) (fun _ _ => trivial))
  refine wp_region_held_drew (S := (fun W => (∀ k, W.cell? ⟨w.heap.size, k, none⟩ = #[.slice a1 ma.fs.length c1, .slice a2 ma.us.length c2][k]?) ∧ (∀ k, W.cell? ⟨w.heap.size + 1, k, none⟩ = #[.slice b1 mb.fs.length e1, .slice b2 mb.us.length e2][k]?) ∧ (∀ k, W.cell? ⟨pf, k, none⟩ = #[.int .i64 ff.num, .slice p1 ff.ks.length q1, .slice p2 ff.vs.length q2][k]?) ∧ (∀ k, W.cell? ⟨px, k, none⟩ = #[.int .i64 ff.num, .slice r1 ff.ks.length s1, .slice r2 ff.vs.length s2][k]?))) (by kernel_rfl) ?_ (fun hHeld => ?_)
  · exact HSK.out _ (below_drew1 _)
  refine wpAnyH_ready (rs := [0]) (by kernel_rfl) (by simp) ?_
  refine AllReadyH.cons rfl (fun K hK => ?_) AllReadyH.nil
  go_simp
  go_wp2_with (go_at_call 9; refine (awake8 _ mx (cell_below HM.out (below_trans hb3.out (below_drew1 _)))).mono ?_; rintro e u1 ⟨rfl, hbu⟩; have HX1 : Hid (Below w3.heap.size w3 u1) := hid (bl_then (below_drew1 _) hbu); clear hbu)
  refine hK.out _ _ ?_ (fun hHeld => ?_)
  · first | assumption | exact HSK.out _ HX1.out
  clear hK K
  try simp only [Act.put, List.getElem_toArray, List.getElem_cons_succ, List.getElem_cons_zero, List.setIfInBounds_toArray, List.set_cons_zero, List.set_cons_succ]
  refine wpAnyH_take (i := 1) (v := ?_) rfl (by kernel_rfl) (by kernel_rfl) (by kernel_rfl) (fun _ _ _ h => h) (Or.inl ⟨by rfl, ?_⟩) (by assumption) ?_
  rotate_left
  · (intro w hSw; (try dsimp only at hSw); go_simp; (try with_reducible rfl))
  try simp only [Act.put, List.getElem_toArray, List.getElem_cons_succ, List.getElem_cons_zero, List.setIfInBounds_toArray, List.set_cons_zero, List.set_cons_succ]
  refine wpAnyH_take (i := 2) (v := ?_) rfl (by kernel_rfl) (by kernel_rfl) (by kernel_rfl) (fun _ _ _ h => h) (Or.inl ⟨by rfl, ?_⟩) (by assumption) ?_
  rotate_left
  · (intro w hSw; (try dsimp only at hSw); go_simp; (try with_reducible rfl))
  try simp only [Act.put, List.getElem_toArray, List.getElem_cons_succ, List.getElem_cons_zero, List.setIfInBounds_toArray, List.set_cons_zero, List.set_cons_succ]
  refine wpAnyH_take (i := 3) (v := ?_) rfl (by kernel_rfl) (by kernel_rfl) (by kernel_rfl) (fun _ _ _ h => h) (Or.inl ⟨by rfl, ?_⟩) (by assumption) ?_
  rotate_left
  · (intro w hSw; (try dsimp only at hSw); go_simp; (try with_reducible rfl))
  try simp only [Act.put, List.getElem_toArray, List.getElem_cons_succ, List.getElem_cons_zero, List.setIfInBounds_toArray, List.set_cons_zero, List.set_cons_succ]
  refine wpAnyH_take (i := 5) (v := ?_) rfl (by kernel_rfl) (by kernel_rfl) (by kernel_rfl) (fun _ _ _ h => h) (Or.inl ⟨by rfl, ?_⟩) (by assumption) ?_
  rotate_left
  · (intro w hSw; (try dsimp only at hSw); go_simp; (try with_reducible rfl))
  try simp only [Act.put, List.getElem_toArray, List.getElem_cons_succ, List.getElem_cons_zero, List.setIfInBounds_toArray, List.set_cons_zero, List.set_cons_succ]
  refine wpAnyH_take (i := 6) (v := ?_) rfl (by kernel_rfl) (by kernel_rfl) (by kernel_rfl) (fun _ _ _ h => h) (Or.inl ⟨by rfl, ?_⟩) (by assumption) ?_
  rotate_left
  · (intro w hSw; (try dsimp only at hSw); go_simp; (try with_reducible rfl))
  try simp only [Act.put, List.getElem_toArray, List.getElem_cons_succ, List.getElem_cons_zero, List.setIfInBounds_toArray, List.set_cons_zero, List.set_cons_succ]
  refine wpAnyH_ready (rs := [4]) (by kernel_rfl) (by simp) ?_
  refine AllReadyH.cons rfl (fun K hK => ?_) AllReadyH.nil
  go_simp
  go_wp2_with (go_at_call 26; refine (equalT (d + 1) _ Z Z2 _ _ _ _ (HA.out.kept (below_trans hb3.out (HX1.out))) (HB.out.kept (below_trans hb3.out (HX1.out)))).mono ?_; rintro e u2 hEq; obtain ⟨rfl, hbu⟩ := EqR.val hEq bq hbq; clear hEq; have HX2 : Hid (Below w3.heap.size w3 u2) := hid (bl_then (HX1.out) hbu); clear hbu)
  refine hK.out _ _ ?_ (fun hHeld => ?_)
  · first | assumption | exact HSK.out _ HX2.out
  clear hK K
  try simp only [Act.put, List.getElem_toArray, List.getElem_cons_succ, List.getElem_cons_zero, List.setIfInBounds_toArray, List.set_cons_zero, List.set_cons_succ]
  refine wpAnyH_ready (rs := [7]) (by kernel_rfl) (by simp) ?_
  refine AllReadyH.cons rfl (fun K hK => ?_) AllReadyH.nil
  go_simp
  go_wp2_with (go_at_call 27; refine (equalD (d + 1) _ Z Z2 _ _ _ _ (HA.out.kept (below_trans hb3.out (HX2.out))) (HB.out.kept (below_trans hb3.out (HX2.out)))).mono ?_; rintro e u3 hEq; obtain ⟨rfl, hbu⟩ := EqR.val hEq bq hbq; clear hEq; have HX3 : Hid (Below w3.heap.size w3 u3) := hid (bl_then (HX2.out) hbu); clear hbu)
  refine hK.out _ _ ?_ (fun hHeld => ?_)
  · first | assumption | exact HSK.out _ HX3.out
  clear hK K
  try simp only [Act.put, List.getElem_toArray, List.getElem_cons_succ, List.getElem_cons_zero, List.setIfInBounds_toArray, List.set_cons_zero, List.set_cons_succ]
  refine wpAnyH_take (i := 8) (v := ?_) rfl (by kernel_rfl) (by kernel_rfl) (by kernel_rfl) (fun _ _ _ h => h) (Or.inl ⟨by rfl, ?_⟩) (by assumption) ?_
  rotate_left
  · (intro w hSw; (try dsimp only at hSw); go_simp; (try with_reducible rfl))
  try simp only [Act.put, List.getElem_toArray, List.getElem_cons_succ, List.getElem_cons_zero, List.setIfInBounds_toArray, List.set_cons_zero, List.set_cons_succ]
  refine wpAnyH_take (i := 9) (v := ?_) rfl (by kernel_rfl) (by kernel_rfl) (by kernel_rfl) (fun _ _ _ h => h) (Or.inl ⟨by rfl, ?_⟩) (by assumption) ?_
  rotate_left
  · (intro w hSw; (try dsimp only at hSw); go_simp; (try with_reducible rfl))
  try simp only [Act.put, List.getElem_toArray, List.getElem_cons_succ, List.getElem_cons_zero, List.setIfInBounds_toArray, List.set_cons_zero, List.set_cons_succ]
  refine wpAnyH_take (i := 10) (v := ?_) rfl (by kernel_rfl) (by kernel_rfl) (by kernel_rfl) (fun _ _ _ h => h) (Or.inl ⟨by rfl, ?_⟩) (by assumption) ?_
  rotate_left
  · (intro w hSw; (try dsimp only at hSw); go_simp; (try with_reducible rfl))
  try simp only [Act.put, List.getElem_toArray, List.getElem_cons_succ, List.getElem_cons_zero, List.setIfInBounds_toArray, List.set_cons_zero, List.set_cons_succ]
  refine wpAnyH_take (i := 11) (v := ?_) rfl (by kernel_rfl) (by kernel_rfl) (by kernel_rfl) (fun _ _ _ h => h) (Or.inl ⟨by rfl, ?_⟩) (by assumption) ?_
  rotate_left
  · (intro w hSw; (try dsimp only at hSw); go_simp; (try with_reducible rfl))
  try simp only [Act.put, List.getElem_toArray, List.getElem_cons_succ, List.getElem_cons_zero, List.setIfInBounds_toArray, List.set_cons_zero, List.set_cons_succ]
  refine wpAnyH_take (i := 13) (v := ?_) rfl (by kernel_rfl) (by kernel_rfl) (by kernel_rfl) (fun _ _ _ h => h) (Or.inl ⟨by rfl, ?_⟩) (by assumption) ?_
  rotate_left
  · (intro w hSw; (try dsimp only at hSw); go_simp; (try with_reducible rfl))
  try simp only [Act.put, List.getElem_toArray, List.getElem_cons_succ, List.getElem_cons_zero, List.setIfInBounds_toArray, List.set_cons_zero, List.set_cons_succ]
  refine wpAnyH_ready (rs := [12]) (by kernel_rfl) (by simp) ?_
  refine AllReadyH.cons rfl (fun K hK => ?_) AllReadyH.nil
  go_simp
  go_wp2_with (go_at_call 28; refine (copyT (d + 1) _ Z _ ma (HA.out.kept (below_trans hb3.out (HX3.out)))).mono ?_; rintro e u4 ⟨ks, rfl, hn, hbu⟩; have HX4 : Hid (Below w3.heap.size w3 u4) := hid (bl_then (HX3.out) hbu); obtain ⟨f1, g1, f2, g2, rfl, -⟩ := msg_openD hn; have HCP := hid hn; clear hn; clear hbu)
  refine hK.out _ _ ?_ (fun hHeld => ?_)
  · first | assumption | exact HSK.out _ HX4.out
  clear hK K
  try simp only [Act.put, List.getElem_toArray, List.getElem_cons_succ, List.getElem_cons_zero, List.setIfInBounds_toArray, List.set_cons_zero, List.set_cons_succ]
  refine wpAnyH_ready (rs := [14]) (by kernel_rfl) (by simp) ?_
  refine AllReadyH.cons rfl (fun K hK => ?_) AllReadyH.nil
  go_simp
  go_wp2_with (go_at_call 27; refine (equalD (d + 1) _ _ Z _ _ _ _ HCP.out (HA.out.kept (below_trans hb3.out (HX4.out)))).mono ?_; rintro e u5 hEq; obtain ⟨rfl, hbu⟩ := EqR.val hEq true ⟨fun _ => rfl, fun _ => rfl⟩; clear hEq; have HX5 : Hid (Below w3.heap.size w3 u5) := hid (bl_then (HX4.out) hbu); clear hbu)
  refine hK.out _ _ ?_ (fun hHeld => ?_)
  · first | assumption | exact HSK.out _ HX5.out
  clear hK K
  try simp only [Act.put, List.getElem_toArray, List.getElem_cons_succ, List.getElem_cons_zero, List.setIfInBounds_toArray, List.set_cons_zero, List.set_cons_succ]
  refine wpAnyH_take (i := 15) (v := ?_) rfl (by kernel_rfl) (by kernel_rfl) (by kernel_rfl) (fun _ _ _ h => h) (Or.inl ⟨by rfl, ?_⟩) (by assumption) ?_
  rotate_left
  · (intro w hSw; (try dsimp only at hSw); go_simp; (try with_reducible rfl))
  try simp only [Act.put, List.getElem_toArray, List.getElem_cons_succ, List.getElem_cons_zero, List.setIfInBounds_toArray, List.set_cons_zero, List.set_cons_succ]
  refine wpAnyH_take (i := 16) (v := ?_) rfl (by kernel_rfl) (by kernel_rfl) (by kernel_rfl) (fun _ _ _ h => h) (Or.inl ⟨by rfl, ?_⟩) (by assumption) ?_
  rotate_left
  · (intro w hSw; (try dsimp only at hSw); go_simp; (try with_reducible rfl))
  try simp only [Act.put, List.getElem_toArray, List.getElem_cons_succ, List.getElem_cons_zero, List.setIfInBounds_toArray, List.set_cons_zero, List.set_cons_succ]
  refine wpAnyH_take (i := 17) (v := ?_) rfl (by kernel_rfl) (by kernel_rfl) (by kernel_rfl) (fun _ _ _ h => h) (Or.inl ⟨by rfl, ?_⟩) (by assumption) ?_
  rotate_left
  · (intro w hSw; (try dsimp only at hSw); go_simp; (try with_reducible rfl))
  try simp only [Act.put, List.getElem_toArray, List.getElem_cons_succ, List.getElem_cons_zero, List.setIfInBounds_toArray, List.set_cons_zero, List.set_cons_succ]
  refine wpAnyH_take (i := 19) (v := ?_) rfl (by kernel_rfl) (by kernel_rfl) (by kernel_rfl) (fun _ _ _ h => h) (Or.inl ⟨by rfl, ?_⟩) (by assumption) ?_
  rotate_left
  · (intro w hSw; (try dsimp only at hSw); go_simp; (try with_reducible rfl))
  try simp only [Act.put, List.getElem_toArray, List.getElem_cons_succ, List.getElem_cons_zero, List.setIfInBounds_toArray, List.set_cons_zero, List.set_cons_succ]
  refine wpAnyH_ready (rs := [18]) (by kernel_rfl) (by simp) ?_
  refine AllReadyH.cons rfl (fun K hK => ?_) AllReadyH.nil
  go_simp
  go_wp2_with (go_at_call 17; refine (depthT (d + 1) hd _ Z _ ma (HA.out.kept (below_trans hb3.out (HX5.out)))).mono ?_; rintro e u6 ⟨rfl, hbu⟩; have HX6 : Hid (Below w3.heap.size w3 u6) := hid (bl_then (HX5.out) hbu); clear hbu)
  refine hK.out _ _ ?_ (fun hHeld => ?_)
  · first | assumption | exact HSK.out _ HX6.out
  clear hK K
  try simp only [Act.put, List.getElem_toArray, List.getElem_cons_succ, List.getElem_cons_zero, List.setIfInBounds_toArray, List.set_cons_zero, List.set_cons_succ]
  refine wpAnyH_ready (rs := [20]) (by kernel_rfl) (by simp) ?_
  refine AllReadyH.cons rfl (fun K hK => ?_) AllReadyH.nil
  go_simp
  go_wp2_with (go_at_call 29; refine (depthDR (d + 1) hd _ Z _ ma (HA.out.kept (below_trans hb3.out (HX6.out)))).mono ?_; rintro e u7 ⟨rfl, hbu⟩; have HX7 : Hid (Below w3.heap.size w3 u7) := hid (bl_then (HX6.out) hbu); clear hbu)
  refine hK.out _ _ ?_ (fun hHeld => ?_)
  · first | assumption | exact HSK.out _ HX7.out
  clear hK K
  try simp only [Act.put, List.getElem_toArray, List.getElem_cons_succ, List.getElem_cons_zero, List.setIfInBounds_toArray, List.set_cons_zero, List.set_cons_succ]
  refine wpAnyH_take (i := 21) (v := ?_) rfl (by kernel_rfl) (by kernel_rfl) (by kernel_rfl) (fun _ _ _ h => h) (Or.inl ⟨by rfl, ?_⟩) (by assumption) ?_
  rotate_left
  · (intro w hSw; (try dsimp only at hSw); go_simp; (try with_reducible rfl))
  try simp only [Act.put, List.getElem_toArray, List.getElem_cons_succ, List.getElem_cons_zero, List.setIfInBounds_toArray, List.set_cons_zero, List.set_cons_succ]
  refine wpAnyH_take (i := 22) (v := ?_) rfl (by kernel_rfl) (by kernel_rfl) (by kernel_rfl) (fun _ _ _ h => h) (Or.inl ⟨by rfl, ?_⟩) (by assumption) ?_
  rotate_left
  · (intro w hSw; (try dsimp only at hSw); go_simp; (try with_reducible rfl))
  try simp only [Act.put, List.getElem_toArray, List.getElem_cons_succ, List.getElem_cons_zero, List.setIfInBounds_toArray, List.set_cons_zero, List.set_cons_succ]
  refine wpAnyH_take (i := 23) (v := ?_) rfl (by kernel_rfl) (by kernel_rfl) (by kernel_rfl) (fun _ _ _ h => h) (Or.inl ⟨by rfl, ?_⟩) (by assumption) ?_
  rotate_left
  · (intro w hSw; (try dsimp only at hSw); go_simp; (try with_reducible rfl))
  try simp only [Act.put, List.getElem_toArray, List.getElem_cons_succ, List.getElem_cons_zero, List.setIfInBounds_toArray, List.set_cons_zero, List.set_cons_succ]
  refine wpAnyH_take (i := 24) (v := ?_) rfl (by kernel_rfl) (by kernel_rfl) (by kernel_rfl) (fun _ _ _ h => h) (Or.inl ⟨by rfl, ?_⟩) (by assumption) ?_
  rotate_left
  · (intro w hSw; (try dsimp only at hSw); go_simp; (try with_reducible rfl))
  try simp only [Act.put, List.getElem_toArray, List.getElem_cons_succ, List.getElem_cons_zero, List.setIfInBounds_toArray, List.set_cons_zero, List.set_cons_succ]
  refine wpAnyH_take (i := 25) (v := ?_) rfl (by kernel_rfl) (by kernel_rfl) (by kernel_rfl) (fun _ _ _ h => h) (Or.inl ⟨by rfl, ?_⟩) (by assumption) ?_
  rotate_left
  · (intro w hSw; (try dsimp only at hSw); go_simp; (try with_reducible rfl))
  try simp only [Act.put, List.getElem_toArray, List.getElem_cons_succ, List.getElem_cons_zero, List.setIfInBounds_toArray, List.set_cons_zero, List.set_cons_succ]
  refine wpAnyH_take (i := 26) (v := ?_) rfl (by kernel_rfl) (by kernel_rfl) (by kernel_rfl) (fun _ _ _ h => h) (Or.inl ⟨by rfl, ?_⟩) (by assumption) ?_
  rotate_left
  · (intro w hSw; (try dsimp only at hSw); go_simp; (try with_reducible rfl))
  try simp only [Act.put, List.getElem_toArray, List.getElem_cons_succ, List.getElem_cons_zero, List.setIfInBounds_toArray, List.set_cons_zero, List.set_cons_succ]
  refine wpAnyH_take (i := 27) (v := ?_) rfl (by kernel_rfl) (by kernel_rfl) (by kernel_rfl) (fun _ _ _ h => h) (Or.inl ⟨by rfl, ?_⟩) (by assumption) ?_
  rotate_left
  · (intro w hSw; (try dsimp only at hSw); go_simp; (try with_reducible rfl))
  try simp only [Act.put, List.getElem_toArray, List.getElem_cons_succ, List.getElem_cons_zero, List.setIfInBounds_toArray, List.set_cons_zero, List.set_cons_succ]
  refine wpAnyH_take (i := 28) (v := ?_) rfl (by kernel_rfl) (by kernel_rfl) (by kernel_rfl) (fun _ _ _ h => h) (Or.inl ⟨by rfl, ?_⟩) (by assumption) ?_
  rotate_left
  · (intro w hSw; (try dsimp only at hSw); go_simp; (try with_reducible rfl))
  try simp only [Act.put, List.getElem_toArray, List.getElem_cons_succ, List.getElem_cons_zero, List.setIfInBounds_toArray, List.set_cons_zero, List.set_cons_succ]
  refine wpAnyH_take (i := 29) (v := ?_) rfl (by kernel_rfl) (by kernel_rfl) (by kernel_rfl) (fun _ _ _ h => h) (Or.inl ⟨by rfl, ?_⟩) (by assumption) ?_
  rotate_left
  · (intro w hSw; (try dsimp only at hSw); go_simp; (try with_reducible rfl))
  try simp only [Act.put, List.getElem_toArray, List.getElem_cons_succ, List.getElem_cons_zero, List.setIfInBounds_toArray, List.set_cons_zero, List.set_cons_succ]
  refine wpAnyH_take (i := 30) (v := ?_) rfl (by kernel_rfl) (by kernel_rfl) (by kernel_rfl) (fun _ _ _ h => h) (Or.inl ⟨by rfl, ?_⟩) (by assumption) ?_
  rotate_left
  · (intro w hSw; (try dsimp only at hSw); go_simp; (try with_reducible rfl))
  try simp only [Act.put, List.getElem_toArray, List.getElem_cons_succ, List.getElem_cons_zero, List.setIfInBounds_toArray, List.set_cons_zero, List.set_cons_succ]
  refine wpAnyH_ready (rs := [31]) (by kernel_rfl) (by simp) ?_
  refine AllReadyH.cons rfl (fun K hK => ?_) AllReadyH.nil
  go_simp
  go_wp2_with (go_at_call 30; refine (sameFieldD d (equalD d) _ AnyZ AnyZ _ _ _ _ (HXX.out.kept (HX7.out)) (HG2.out.kept (HX7.out))).mono ?_; rintro e u8 hEq; obtain ⟨rfl, hbu⟩ := EqR.val hEq true ⟨fun _ => rfl, fun _ => rfl⟩; clear hEq; have HX8 : Hid (Below w3.heap.size w3 u8) := hid (bl_then (HX7.out) hbu); clear hbu)
  refine hK.out _ _ ?_ (fun hHeld => ?_)
  · first | assumption | exact HSK.out _ HX8.out
  clear hK K
  try simp only [Act.put, List.getElem_toArray, List.getElem_cons_succ, List.getElem_cons_zero, List.setIfInBounds_toArray, List.set_cons_zero, List.set_cons_succ]
  refine wpAnyH_take (i := 32) (v := ?_) rfl (by kernel_rfl) (by kernel_rfl) (by kernel_rfl) (fun _ _ _ h => h) (Or.inl ⟨by rfl, ?_⟩) (by assumption) ?_
  rotate_left
  · (intro w hSw; (try dsimp only at hSw); go_simp; (try with_reducible rfl))
  try simp only [Act.put, List.getElem_toArray, List.getElem_cons_succ, List.getElem_cons_zero, List.setIfInBounds_toArray, List.set_cons_zero, List.set_cons_succ]
  refine wpAnyH_take (i := 33) (v := ?_) rfl (by kernel_rfl) (by kernel_rfl) (by kernel_rfl) (fun _ _ _ h => h) (Or.inl ⟨by rfl, ?_⟩) (by assumption) ?_
  rotate_left
  · (intro w hSw; (try dsimp only at hSw); go_simp; (try with_reducible rfl))
  try simp only [Act.put, List.getElem_toArray, List.getElem_cons_succ, List.getElem_cons_zero, List.setIfInBounds_toArray, List.set_cons_zero, List.set_cons_succ]
  refine wpAnyH_take (i := 34) (v := ?_) rfl (by kernel_rfl) (by kernel_rfl) (by kernel_rfl) (fun _ _ _ h => h) (Or.inl ⟨by rfl, ?_⟩) (by assumption) ?_
  rotate_left
  · (intro w hSw; (try dsimp only at hSw); go_simp; (try with_reducible rfl))
  try simp only [Act.put, List.getElem_toArray, List.getElem_cons_succ, List.getElem_cons_zero, List.setIfInBounds_toArray, List.set_cons_zero, List.set_cons_succ]
  refine wpAnyH_take (i := 35) (v := ?_) rfl (by kernel_rfl) (by kernel_rfl) (by kernel_rfl) (fun _ _ _ h => h) (Or.inl ⟨by rfl, ?_⟩) (by assumption) ?_
  rotate_left
  · (intro w hSw; (try dsimp only at hSw); go_simp; (try with_reducible rfl))
  try simp only [Act.put, List.getElem_toArray, List.getElem_cons_succ, List.getElem_cons_zero, List.setIfInBounds_toArray, List.set_cons_zero, List.set_cons_succ]
  refine wpAnyH_take (i := 37) (v := ?_) rfl (by kernel_rfl) (by kernel_rfl) (by kernel_rfl) (fun _ _ _ h => h) (Or.inl ⟨by rfl, ?_⟩) (by assumption) ?_
  rotate_left
  · (intro w hSw; (try dsimp only at hSw); go_simp; (try with_reducible rfl))
  try simp only [Act.put, List.getElem_toArray, List.getElem_cons_succ, List.getElem_cons_zero, List.setIfInBounds_toArray, List.set_cons_zero, List.set_cons_succ]
  refine wpAnyH_take (i := 38) (v := ?_) rfl (by kernel_rfl) (by kernel_rfl) (by kernel_rfl) (fun _ _ _ h => h) (Or.inl ⟨by rfl, ?_⟩) (by assumption) ?_
  rotate_left
  · (intro w hSw; (try dsimp only at hSw); go_simp; (try with_reducible rfl))
  try simp only [Act.put, List.getElem_toArray, List.getElem_cons_succ, List.getElem_cons_zero, List.setIfInBounds_toArray, List.set_cons_zero, List.set_cons_succ]
  refine wpAnyH_ready (rs := [36]) (by kernel_rfl) (by simp) ?_
  refine AllReadyH.cons rfl (fun K hK => ?_) AllReadyH.nil
  go_simp
  go_wp2_with (go_at_call 31; refine (clearT d _ Z _ ma (HA.out.kept (below_trans hb3.out (HX8.out))) n).mono ?_; rintro e u9 ⟨ks, rfl, hn, hbu⟩; have HX9 : Hid (Below w3.heap.size w3 u9) := hid (bl_then (HX8.out) hbu); obtain ⟨h1, i1, h2, i2, rfl, -⟩ := msg_openD hn; have HC1 := hid hn; clear hn; clear hbu)
  refine hK.out _ _ ?_ (fun hHeld => ?_)
  · first | assumption | exact HSK.out _ HX9.out
  clear hK K
  try simp only [Act.put, List.getElem_toArray, List.getElem_cons_succ, List.getElem_cons_zero, List.setIfInBounds_toArray, List.set_cons_zero, List.set_cons_succ]
  refine wpAnyH_ready (rs := [39]) (by kernel_rfl) (by simp) ?_
  refine AllReadyH.cons rfl (fun K hK => ?_) AllReadyH.nil
  go_simp
  go_wp2_with (go_at_call 32; refine (clearD d _ Z _ ma (HA.out.kept (below_trans hb3.out (HX9.out))) n).mono ?_; rintro e u10 ⟨ks, rfl, hn, hbu⟩; have HX10 : Hid (Below w3.heap.size w3 u10) := hid (bl_then (HX9.out) hbu); obtain ⟨j1, l1, j2, l2, rfl, -⟩ := msg_openD hn; have HC2 := hid hn; have HC1b := hid (HC1.out.kept hbu); clear hn; clear hbu)
  refine hK.out _ _ ?_ (fun hHeld => ?_)
  · first | assumption | exact HSK.out _ HX10.out
  clear hK K
  try simp only [Act.put, List.getElem_toArray, List.getElem_cons_succ, List.getElem_cons_zero, List.setIfInBounds_toArray, List.set_cons_zero, List.set_cons_succ]
  refine wpAnyH_ready (rs := [40]) (by kernel_rfl) (by simp) ?_
  refine AllReadyH.cons rfl (fun K hK => ?_) AllReadyH.nil
  go_simp
  go_wp2_with (go_at_call 27; refine (equalD (d + 1) _ _ _ _ _ _ _ HC1b.out HC2.out).mono ?_; rintro e u11 hEq; obtain ⟨rfl, hbu⟩ := EqR.val hEq true ⟨fun _ => rfl, fun _ => rfl⟩; clear hEq; have HX11 : Hid (Below w3.heap.size w3 u11) := hid (bl_then (HX10.out) hbu); clear hbu)
  refine hK.out _ _ ?_ (fun hHeld => ?_)
  · first | assumption | exact HSK.out _ HX11.out
  clear hK K
  try simp only [Act.put, List.getElem_toArray, List.getElem_cons_succ, List.getElem_cons_zero, List.setIfInBounds_toArray, List.set_cons_zero, List.set_cons_succ]
  refine wpAnyH_take (i := 41) (v := ?_) rfl (by kernel_rfl) (by kernel_rfl) (by kernel_rfl) (fun _ _ _ h => h) (Or.inl ⟨by rfl, ?_⟩) (by assumption) ?_
  rotate_left
  · (intro w hSw; (try dsimp only at hSw); go_simp; (try with_reducible rfl))
  try simp only [Act.put, List.getElem_toArray, List.getElem_cons_succ, List.getElem_cons_zero, List.setIfInBounds_toArray, List.set_cons_zero, List.set_cons_succ]
  refine wpAnyH_take (i := 42) (v := ?_) rfl (by kernel_rfl) (by kernel_rfl) (by kernel_rfl) (fun _ _ _ h => h) (Or.inl ⟨by rfl, ?_⟩) (by assumption) ?_
  rotate_left
  · (intro w hSw; (try dsimp only at hSw); go_simp; (try with_reducible rfl))
  try simp only [Act.put, List.getElem_toArray, List.getElem_cons_succ, List.getElem_cons_zero, List.setIfInBounds_toArray, List.set_cons_zero, List.set_cons_succ]
  refine wpAnyH_done (by kernel_rfl) ?_ _
  go_wp2
  go_ret
  exact ⟨rfl, below_trans hb3.out HX11.out⟩
end Go.Proofs.YtgephggcgopfgaaGreatDoor
