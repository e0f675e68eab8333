/-
  The laws' first question: a number that fits, and one that does not.
  Chapter 8's examples.
  Equal: what the document answers.
  Equal: what the document answers, at every depth.
  ModelSets: a field put in as the document says.
  What comes in, opened: strings; and what the bound on it says.
  A table that comes in, opened.
-/
import Derived.Test.YtgephggcgopfgaaGreatDoorCCLa
import Derived.Deep.RegionWith
import Derived.BigQuiet
import Derived.Test.YtgephggcgopfgaaGreatDoorCNG
import Derived.Test.YtgephggcgopfgaaGreatDoorCTY
import Derived.ProofKit
import Derived.OpenShut
import Derived.ShutString
import Derived.Lib.SmallJoins
import Derived.Deep.Slices
import Derived.Deep.Fields
namespace Go.Proofs.YtgephggcgopfgaaGreatDoor
open Go.RowKit
set_option maxRecDepth 1000000
set_option linter.unusedVariables false
set_option linter.unusedSimpArgs false
set_option maxHeartbeats 2000000
theorem msgOne {W : World} {p d : Nat} {cs : List Value} {f : CF CM} (B : Blk W p 29 cs.toArray) (hf : FldE W AnyZ (MsgE W AnyZ d) cs f) (hl : cs.length = 3) : MsgE W AnyZ (d + 1) [.slice (some ⟨p, 0, none⟩) 1 1, .slice none 0 0] (CM.mk [f] []) := ⟨_, _, rfl, rowM_one B hl hf, RowM.nil _ _ _ _⟩
def m5 : CM := CM.mk [nF 1 5] []
def m6 : CM := CM.mk [nF 1 6] []
def m40 : CM := CM.mk [nF 1 1099511627776] []
theorem kept5 (h : Nat) : keptB (simL h) 1 (simM h) m5 = true := by kernel_rfl
theorem kept40 (h : Nat) : keptB (simL h) 1 (simM h) m40 = false := by kernel_rfl
theorem ne56 : ¬ m5 = m6 := by
  intro h
  simp [m5, m6, nF] at h
theorem EqR.val {w : World} {P : Prop} {e : Ending} {w' : World} (h : EqR w P e w') (b : Bool) (hb : b = true ↔ P) : e = .returned (.bool b) ∧ Below w.heap.size w w' := by
  obtain ⟨r, he, hr, hx⟩ := h
  have : r = b := by rw [Bool.eq_iff_iff, hr, hb]
  exact ⟨by rw [he, this], hx⟩
theorem awake8 (w : World) (mx : Int) (hm0 : w.cell? ⟨0, 0, none⟩ = some (.int .i64 mx)) : Calls Tryz.prog 9 #[] w fun e w' => e = .returned (.bool true) ∧ Below w.heap.size w w' := by
  have HM := hid hm0
  have i1 : I64 1 := by unfold I64; omega
  clear hm0
  go_enter Tryz.func9, Tryz.ntmps9
  go_wp2_with fail
  refine (nW _ 1 5 i1 5 rfl ⟨by decide, by decide⟩ 0).mono ?_
  rintro e w1 ⟨cs, rfl, hl, hf, hbx⟩
  have hb1 : Hid (Below w.heap.size w w1) := hid (bl_then (by exact blBy) hbx)
  obtain ⟨ka1, kc1, va1, vc1, rfl, -⟩ := fld_open hf
  have HF1 := hid hf
  clear hf hl hbx
  go_wp2_with fail
  refine (msgW _ _ _ _).mono ?_
  rintro e w2 ⟨rfl, hbx⟩
  have hb2 : Hid (Below w.heap.size w w2) := hid (bl_then (by have := hb1.out; exact blBy) hbx)
  have HG2 := hid (msgOne ((Blk.new w1 29 _).kept hbx) (HF1.out.kept (bl_then (below_alloc _) hbx)) rfl)
  clear hbx
  go_wp2_with fail
  refine (typedLW _ mx (cell_below HM.out (by have := hb2.out; exact blBy)) AnyZ 1 _ _ HG2.out true true kept5).mono ?_
  rintro e w3 ⟨rfl, hbx⟩
  have hb3 : Hid (Below w.heap.size w w3) := hid (bl_then (by have := hb2.out; exact blBy) hbx)
  clear hbx
  go_wp2_with fail
  refine (nW _ 1 1099511627776 i1 1099511627776 rfl ⟨by decide, by decide⟩ 0).mono ?_
  rintro e w4 ⟨cs, rfl, hl, hf, hbx⟩
  have hb4 : Hid (Below w.heap.size w w4) := hid (bl_then (by have := hb3.out; exact blBy) hbx)
  obtain ⟨ka4, kc4, va4, vc4, rfl, -⟩ := fld_open hf
  have HF4 := hid hf
  clear hf hl hbx
  go_wp2_with fail
  refine (msgW _ _ _ _).mono ?_
  rintro e w5 ⟨rfl, hbx⟩
  have hb5 : Hid (Below w.heap.size w w5) := hid (bl_then (by have := hb4.out; exact blBy) hbx)
  have HG5 := hid (msgOne ((Blk.new w4 29 _).kept hbx) (HF4.out.kept (bl_then (below_alloc _) hbx)) rfl)
  clear hbx
  go_wp2_with fail
  refine (typedLW _ mx (cell_below HM.out (by have := hb5.out; exact blBy)) AnyZ 1 _ _ HG5.out false false kept40).mono ?_
  rintro e w6 ⟨rfl, hbx⟩
  have hb6 : Hid (Below w.heap.size w w6) := hid (bl_then (by have := hb5.out; exact blBy) hbx)
  clear hbx
  go_wp2_with fail
  refine (nW _ 1 5 i1 5 rfl ⟨by decide, by decide⟩ 0).mono ?_
  rintro e w7 ⟨cs, rfl, hl, hf, hbx⟩
  have hb7 : Hid (Below w.heap.size w w7) := hid (bl_then (by have := hb6.out; exact blBy) hbx)
  obtain ⟨ka7, kc7, va7, vc7, rfl, -⟩ := fld_open hf
  have HF7 := hid hf
  clear hf hl hbx
  go_wp2_with fail
  refine (msgW _ _ _ _).mono ?_
  rintro e w8 ⟨rfl, hbx⟩
  have hb8 : Hid (Below w.heap.size w w8) := hid (bl_then (by have := hb7.out; exact blBy) hbx)
  have HG8 := hid (msgOne ((Blk.new w7 29 _).kept hbx) (HF7.out.kept (bl_then (below_alloc _) hbx)) rfl)
  clear hbx
  go_wp2_with fail
  refine (nW _ 1 5 i1 5 rfl ⟨by decide, by decide⟩ 0).mono ?_
  rintro e w9 ⟨cs, rfl, hl, hf, hbx⟩
  have hb9 : Hid (Below w.heap.size w w9) := hid (bl_then (by have := hb8.out; exact blBy) hbx)
  replace HG8 := hid (HG8.out.kept (bl_then (by exact blBy) hbx))
  obtain ⟨ka9, kc9, va9, vc9, rfl, -⟩ := fld_open hf
  have HF9 := hid hf
  clear hf hl hbx
  go_wp2_with fail
  refine (msgW _ _ _ _).mono ?_
  rintro e w10 ⟨rfl, hbx⟩
  have hb10 : Hid (Below w.heap.size w w10) := hid (bl_then (by have := hb9.out; exact blBy) hbx)
  replace HG8 := hid (HG8.out.kept (bl_then (by exact blBy) hbx))
  have HG10 := hid (msgOne ((Blk.new w9 29 _).kept hbx) (HF9.out.kept (bl_then (below_alloc _) hbx)) rfl)
  clear hbx
  go_wp2_with fail
  refine ((equalT 1 _ AnyZ AnyZ _ _ _ _ HG8.out HG10.out)).mono ?_
  rintro e w11 he
  have hb11 : Hid (Below w.heap.size w w11) := hid (bl_then (by have := hb10.out; exact blBy) (EqR.val he true ⟨fun _ => rfl, fun _ => rfl⟩).2)
  obtain ⟨rfl, hbx⟩ := EqR.val he true ⟨fun _ => rfl, fun _ => rfl⟩
  clear he hbx
  go_wp2_with fail
  refine (nW _ 1 5 i1 5 rfl ⟨by decide, by decide⟩ 0).mono ?_
  rintro e w12 ⟨cs, rfl, hl, hf, hbx⟩
  have hb12 : Hid (Below w.heap.size w w12) := hid (bl_then (by have := hb11.out; exact blBy) hbx)
  obtain ⟨ka12, kc12, va12, vc12, rfl, -⟩ := fld_open hf
  have HF12 := hid hf
  clear hf hl hbx
  go_wp2_with fail
  refine (msgW _ _ _ _).mono ?_
  rintro e w13 ⟨rfl, hbx⟩
  have hb13 : Hid (Below w.heap.size w w13) := hid (bl_then (by have := hb12.out; exact blBy) hbx)
  have HG13 := hid (msgOne ((Blk.new w12 29 _).kept hbx) (HF12.out.kept (bl_then (below_alloc _) hbx)) rfl)
  clear hbx
  go_wp2_with fail
  refine (nW _ 1 6 i1 6 rfl ⟨by decide, by decide⟩ 0).mono ?_
  rintro e w14 ⟨cs, rfl, hl, hf, hbx⟩
  have hb14 : Hid (Below w.heap.size w w14) := hid (bl_then (by have := hb13.out; exact blBy) hbx)
  replace HG13 := hid (HG13.out.kept (bl_then (by exact blBy) hbx))
  obtain ⟨ka14, kc14, va14, vc14, rfl, -⟩ := fld_open hf
  have HF14 := hid hf
  clear hf hl hbx
  go_wp2_with fail
  refine (msgW _ _ _ _).mono ?_
  rintro e w15 ⟨rfl, hbx⟩
  have hb15 : Hid (Below w.heap.size w w15) := hid (bl_then (by have := hb14.out; exact blBy) hbx)
  replace HG13 := hid (HG13.out.kept (bl_then (by exact blBy) hbx))
  have HG15 := hid (msgOne ((Blk.new w14 29 _).kept hbx) (HF14.out.kept (bl_then (below_alloc _) hbx)) rfl)
  clear hbx
  go_wp2_with fail
  refine ((equalT 1 _ AnyZ AnyZ _ _ _ _ HG13.out HG15.out)).mono ?_
  rintro e w16 he
  have hb16 : Hid (Below w.heap.size w w16) := hid (bl_then (by have := hb15.out; exact blBy) (EqR.val he false ⟨fun h => absurd h (by decide), fun h => absurd h ne56⟩).2)
  obtain ⟨rfl, hbx⟩ := EqR.val he false ⟨fun h => absurd h (by decide), fun h => absurd h ne56⟩
  clear he hbx
  go_wp2
  go_ret
  exact ⟨rfl, hb16.out⟩
end Go.Proofs.YtgephggcgopfgaaGreatDoor
namespace Go.Proofs.YtgephggcgopfgaaGreatDoor
open Go.RowKit
set_option maxRecDepth 1000000
set_option linter.unusedVariables false
set_option linter.unusedSimpArgs false
set_option maxHeartbeats 4000000
theorem emptyD (w : World) (Z : Nat → Prop) (d : Nat) (cs : List Value) (m : CM) (hm : MsgE w Z d cs m) : Calls Tryz.prog 18 #[.agg cs.toArray] w fun e w' => e = .returned (.bool (((m.fs.length : Int) == 0) && ((m.us.length : Int) == 0))) ∧ Below w.heap.size w w' := by
  have hd : ∃ k, d = k + 1 := by
    cases d with
    | zero => exact hm.elim
    | succ k => exact ⟨k, rfl⟩
  obtain ⟨k, rfl⟩ := hd
  obtain ⟨fa, fc, ua, uc, rfl, -, -, l1, l2⟩ := msg_open hm
  clear hm
  have m1 : (m.fs.length : Int) ≤ 9223372036854775807 := by omega
  have m2 : (m.us.length : Int) ≤ 9223372036854775807 := by omega
  go_enter Tryz.func18, Tryz.ntmps18
  go_wp2
  all_goals (go_ret; exact ⟨ret_bool (by simp [*]), by exact blBy⟩)
end Go.Proofs.YtgephggcgopfgaaGreatDoor
namespace Go.Proofs.YtgephggcgopfgaaGreatDoor
open Go.RowKit
set_option maxRecDepth 1000000
set_option linter.unusedVariables false
set_option linter.unusedSimpArgs false
set_option maxHeartbeats 2000000
theorem bl_drewW (w : World) : Below w.heap.size w w.drew := below_drew1 w
theorem sameD (w : World) (Z Z2 : Nat → Prop) (cs ds : List Value) (x y : CE) (h1 : EntE w Z cs x) (h2 : EntE w Z2 ds y) : Calls Tryz.prog 108 #[.agg cs.toArray, .agg ds.toArray] w (EqR w (x = y)) := by
  obtain ⟨ka1, kc1, rfl, g1, -⟩ := ent_open h1
  obtain ⟨ka2, kc2, rfl, g2, -⟩ := ent_open h2
  have k1 := by_conv (g1.kept (by exact blBy : Below w.heap.size w ((w.alloc (.cells #[.int .i64 x.num, .int .i64 x.kind, .int .u64 x.n, .slice ka1 x.b.length kc1] 40)).alloc (.cells #[.int .i64 y.num, .int .i64 y.kind, .int .u64 y.n, .slice ka2 y.b.length kc2] 40))))
  have k2 := by_conv (g2.kept (by exact blBy : Below w.heap.size w ((w.alloc (.cells #[.int .i64 x.num, .int .i64 x.kind, .int .u64 x.n, .slice ka1 x.b.length kc1] 40)).alloc (.cells #[.int .i64 y.num, .int .i64 y.kind, .int .u64 y.n, .slice ka2 y.b.length kc2] 40))))
  have HS := str_eq (xs := x.b) (ys := y.b) (fun v hv => g1.2.1 v hv) (fun v hv => g2.2.1 v hv)
  clear g1 g2 h1 h2
  go_enter Tryz.func108, Tryz.ntmps108
  by_cases e1 : x.num = y.num
  case neg =>
    have kq : (x.num == y.num) = false := by simpa using e1
    have HX := hid e1
    clear e1
    go_wp2
    go_ret
    exact EqR.no (fun e => HX.out (by rw [e])) (by exact blBy)
  have kqe1 : (x.num == y.num) = true := by simpa using e1
  have He1 := hid e1
  clear e1
  by_cases e2 : x.kind = y.kind
  case neg =>
    have kq : (x.kind == y.kind) = false := by simpa using e2
    have HX := hid e2
    clear e2
    go_wp2
    go_ret
    exact EqR.no (fun e => HX.out (by rw [e])) (by exact blBy)
  have kqe2 : (x.kind == y.kind) = true := by simpa using e2
  have He2 := hid e2
  clear e2
  by_cases e3 : x.n = y.n
  case neg =>
    have kq : (x.n == y.n) = false := by simpa using e3
    have HX := hid e3
    clear e3
    go_wp2
    go_ret
    exact EqR.no (fun e => HX.out (by rw [e])) (by exact blBy)
  have kqe3 : (x.n == y.n) = true := by simpa using e3
  have He3 := hid e3
  clear e3
  by_cases e4 : x.b = y.b
  · rw [decide_eq_true e4] at HS
    have He4 := hid e4
    clear e4
    go_wp2
    go_ret
    exact EqR.yes (CE.ext4 He1.out He2.out He3.out He4.out) (by exact blBy)
  · rw [decide_eq_false e4] at HS
    have HX := hid e4
    clear e4
    go_wp2
    go_ret
    exact EqR.no (fun e => HX.out (by rw [e])) (by exact blBy)
theorem listD (w : World) (Z Z2 : Nat → Prop) (xs ys : List CE) (a1 a2 : Option Addr) (c1 c2 : Nat) (h1 : EnsR w Z (.slice a1 xs.length c1) xs) (h2 : EnsR w Z2 (.slice a2 ys.length c2) ys) : Calls Tryz.prog 59 #[.slice a1 xs.length c1, .slice a2 ys.length c2] w (EqR w (xs = ys)) := by
  obtain ⟨_, _, e1, l1⟩ := RowM.sl h1
  clear e1
  have m1 : (xs.length : Int) ≤ 9223372036854775807 := by omega
  have H1 := hid h1
  have H2 := hid h2
  clear h1 h2
  by_cases hl : xs.length = ys.length
  · have HL := hid hl
    rw [← hl] at H2
    rw [← hl]
    clear hl
    go_enter Tryz.func59, Tryz.ntmps59
    go_wp2
    go_loopw [5] (fun r wr => ∃ j : Nat, r = .int .i64 j ∧ j ≤ xs.length ∧ Hid (xs.take j = ys.take j) ∧ Hid (Below w.heap.size w wr)) (fun r wr => xs.length - numAt wr r)
    case atStart => exact ⟨0, rfl, by omega, hid rfl, hid (Below.refl _ _)⟩
    case round =>
      obtain ⟨j, rfl, hj, hT, hb⟩ := hrel
      by_cases hlt : j < xs.length
      · have k2 : (j : Int) < (xs.length : Int) := by omega
        have hlt2 : j < ys.length := by have := HL.out; omega
        obtain ⟨b1, o1, ka1, kc1, rfl, -, hb1, c10, c11, c12, c13, he1⟩ := ens_at (H1.out.kept hb.out) hlt
        obtain ⟨b2, o2, ka2, kc2, rfl, -, hb2, c20, c21, c22, c23, he2⟩ := ens_at (H2.out.kept hb.out) hlt2
        have HE1 := hid he1
        have HE2 := hid he2
        have HN := hid (fun h => take_next hlt hlt2 hT.out h)
        have HNO := hid (fun h => ne_at (xs := xs) (ys := ys) hlt hlt2 h)
        clear he1 he2
        generalize xs[j] = x at *
        generalize ys[j] = y at *
        go_wp2_with fail
        go_region_with (go_at_call 108; refine (sameD _ Z Z2 [.int .i64 x.num, .int .i64 x.kind, .int .u64 x.n, .slice ka1 x.b.length kc1] [.int .i64 y.num, .int .i64 y.kind, .int .u64 y.n, .slice ka2 y.b.length kc2] x y (HE1.out.kept (bl_drewW _)) (HE2.out.kept (bl_drewW _))).mono ?_; rintro e w1 ⟨r, rfl, hr, hbx⟩; replace hr := hid hr; replace hbx : Hid (Below w.heap.size w w1) := hid (bl_then (bl_drew hb.out) hbx))
        all_goals
          cases r with
          | true =>
            have HX : Hid (x = y) := hid (hr.out.1 rfl)
            clear hr
            go_wp2
            exact ⟨⟨j + 1, by simp, by omega, hid (HN.out HX.out), hbx⟩, by simp [numAt]; omega⟩
          | false =>
            have HX : Hid (¬ x = y) := hid (fun e => (by have := hr.out.2 e; cases this))
            clear hr
            go_wp2
            go_ret
            exact EqR.no (HNO.out HX.out) hbx.out
      · have k2 : ¬ (j : Int) < (xs.length : Int) := by omega
        go_wp2
        go_ret
        exact EqR.yes (take_all (by omega) (by have := HL.out; omega) hT.out) hb.out
  · have q0 : ((xs.length : Int) == (ys.length : Int)) = false := by simp; omega
    have HL := hid hl
    clear hl
    go_enter Tryz.func59, Tryz.ntmps59
    go_wp2
    go_ret
    exact EqR.no (fun q => HL.out (by rw [q])) (Below.refl _ _)
def EqDAt (d : Nat) : Prop := ∀ (w : World) (Z Z2 : Nat → Prop) (cs ds : List Value) (m m' : CM), MsgE w Z d cs m → MsgE w Z2 d ds m' → Calls Tryz.prog 27 #[.agg cs.toArray, .agg ds.toArray] w (EqR w (m = m'))
theorem valsD (d : Nat) (HE : EqDAt d) (w : World) (Z Z2 : Nat → Prop) (xs ys : List (CV CM)) (a1 a2 : Option Addr) (c1 c2 : Nat) (h1 : VlsR w Z d (.slice a1 xs.length c1) xs) (h2 : VlsR w Z2 d (.slice a2 ys.length c2) ys) : Calls Tryz.prog 64 #[.slice a1 xs.length c1, .slice a2 ys.length c2] w (EqR w (xs = ys)) := by
  obtain ⟨_, _, e1, l1⟩ := RowM.sl h1
  clear e1
  have m1 : (xs.length : Int) ≤ 9223372036854775807 := by omega
  have H1 := hid h1
  have H2 := hid h2
  replace HE := hid HE
  clear h1 h2
  by_cases hl : xs.length = ys.length
  · have HL := hid hl
    rw [← hl] at H2
    rw [← hl]
    clear hl
    go_enter Tryz.func64, Tryz.ntmps64
    go_wp2
    go_loopw [5] (fun r wr => ∃ j : Nat, r = .int .i64 j ∧ j ≤ xs.length ∧ Hid (xs.take j = ys.take j) ∧ Hid (Below w.heap.size w wr)) (fun r wr => xs.length - numAt wr r)
    case atStart => exact ⟨0, rfl, by omega, hid rfl, hid (Below.refl _ _)⟩
    case round =>
      obtain ⟨j, rfl, hj, hT, hb⟩ := hrel
      by_cases hlt : j < xs.length
      · have k2 : (j : Int) < (xs.length : Int) := by omega
        have hlt2 : j < ys.length := by have := HL.out; omega
        obtain ⟨b1, o1, ka1, kc1, va1, vc1, rfl, -, hb1, c10, c11, c12, he1⟩ := vls_at (H1.out.kept hb.out) hlt
        obtain ⟨b2, o2, ka2, kc2, va2, vc2, rfl, -, hb2, c20, c21, c22, he2⟩ := vls_at (H2.out.kept hb.out) hlt2
        obtain ⟨_, _, _, _, e1, g1, q1, -, ml1, -⟩ := val_open he1
        simp only [List.cons.injEq, Value.slice.injEq, true_and, and_true] at e1
        obtain ⟨⟨rfl, rfl⟩, rfl, rfl⟩ := e1
        obtain ⟨_, _, _, _, e2, g2, q2, -, ml2, -⟩ := val_open he2
        simp only [List.cons.injEq, Value.slice.injEq, true_and, and_true] at e2
        obtain ⟨⟨rfl, rfl⟩, rfl, rfl⟩ := e2
        have Q1 := hid q1
        have Q2 := hid q2
        have HN := hid (fun h => take_next hlt hlt2 hT.out h)
        have HNO := hid (fun h => ne_at (xs := xs) (ys := ys) hlt hlt2 h)
        have HS := str_eq (xs := xs[j].b) (ys := ys[j].b) (fun v hv => g1.2.1 v hv) (fun v hv => g2.2.1 v hv)
        have k3 : ∀ z, (convert 23 9 (.slice ka1 xs[j].b.length kc1)).run Tryz.prog (wr.drewN z) = .ok (.string (strOfNums xs[j].b)) (wr.drewN z) := fun z => by_conv (g1.kept (below_drewN _ _))
        have k4 : ∀ z, (convert 23 9 (.slice ka2 ys[j].b.length kc2)).run Tryz.prog (wr.drewN z) = .ok (.string (strOfNums ys[j].b)) (wr.drewN z) := fun z => by_conv (g2.kept (below_drewN _ _))
        clear he1 he2 g1 g2 q1 q2
        generalize xs[j] = x at *
        generalize ys[j] = y at *
        have ml3 : (x.ms.length : Int) ≤ 9223372036854775807 := by omega
        by_cases e1 : x.n = y.n
        case neg =>
          have kq : (x.n == y.n) = false := by simpa using e1
          have kn : (x.n != y.n) = true := by simp [bne, kq]
          have HX : Hid (¬ x = y) := hid (fun e => e1 (by rw [e]))
          clear e1
          go_wp2
          go_quiet (fail)
          go_wp2
          go_ret
          exact EqR.no (HNO.out HX.out) (by have := hb.out; exact blBy)
        have kq1 : (x.n == y.n) = true := by simpa using e1
        have kn1 : (x.n != y.n) = false := by simp only [bne, kq1, Bool.not_true]
        have He1 := hid e1
        clear e1
        by_cases e2 : x.b = y.b
        case neg =>
          rw [decide_eq_false e2] at HS
          have ks : ((strOfNums x.b).toList != (strOfNums y.b).toList) = true := by simp only [bne, HS, Bool.not_false]
          have HX : Hid (¬ x = y) := hid (fun e => e2 (by rw [e]))
          clear e2
          go_wp2
          go_quiet (fail)
          go_wp2
          go_ret
          exact EqR.no (HNO.out HX.out) (by have := hb.out; exact blBy)
        rw [decide_eq_true e2] at HS
        have ks : ((strOfNums x.b).toList != (strOfNums y.b).toList) = false := by simp only [bne, HS, Bool.not_true]
        have He2 := hid e2
        clear e2
        by_cases e3 : x.ms.length = y.ms.length
        case neg =>
          have kq3 : ((x.ms.length : Int) == (y.ms.length : Int)) = false := by simp; omega
          have kn3 : ((x.ms.length : Int) != (y.ms.length : Int)) = true := by simp only [bne, kq3, Bool.not_false]
          have kn4 : (x.ms.length != y.ms.length) = true := by simpa using e3
          have HX : Hid (¬ x = y) := hid (fun e => e3 (by rw [e]))
          clear e3
          go_wp2
          go_quiet (fail)
          go_wp2
          go_ret
          exact EqR.no (HNO.out HX.out) (by have := hb.out; exact blBy)
        have He3 := hid e3
        rw [← e3] at c22 Q2
        clear e3 ml2
        go_wp2
        go_quiet (fail)
        replace hb : Hid (Below w.heap.size w (wr.drewN nq)) := hid (by have := hb.out; exact blBy)
        replace c12 := cell_below c12 (below_drewN wr nq)
        replace c22 := cell_below c22 (below_drewN wr nq)
        replace Q1 := hid (Q1.out.kept (below_drewN wr nq))
        replace Q2 := hid (Q2.out.kept (below_drewN wr nq))
        clear c10 c11 c20 c21 k3 k4 HS ks hb1 hb2
        generalize wr.drewN nq = wq at *
        have hb1 : b1 < wq.heap.size := World.block_lt_of_cell? _ _ c12
        have hb2 : b2 < wq.heap.size := World.block_lt_of_cell? _ _ c22
        have C1 := hid c12
        have C2 := hid c22
        clear c12 c22
        go_wp2
        go_loopw [6] (fun r wr => ∃ i : Nat, r = .int .i64 i ∧ i ≤ x.ms.length ∧ Hid (x.ms.take i = y.ms.take i) ∧ Hid (Below wq.heap.size wq wr)) (fun r wr => x.ms.length - numAt wr r)
        case atStart => exact ⟨0, rfl, by omega, hid rfl, hid (Below.refl _ _)⟩
        case round =>
          obtain ⟨i, rfl, hi, hTi, hbi⟩ := hrel
          have c12 := cell_below C1.out hbi.out
          have c22 := cell_below C2.out hbi.out
          by_cases hil : i < x.ms.length
          · have k5 : (i : Int) < (x.ms.length : Int) := by omega
            have hil2 : i < y.ms.length := by have := He3.out; omega
            obtain ⟨p1, r1, fa1, fc1, ua1, uc1, rfl, -, hp1, m10, m11, hm1⟩ := mgs_at' (Q1.out.kept hbi.out) hil
            obtain ⟨p2, r2, fa2, fc2, ua2, uc2, rfl, -, hp2, m20, m21, hm2⟩ := mgs_at' (Q2.out.kept hbi.out) hil2
            have HM1 := hid hm1
            have HM2 := hid hm2
            have HNi := hid (fun h => take_next hil hil2 hTi.out h)
            have HNOi := hid (fun h => ne_at (xs := x.ms) (ys := y.ms) hil hil2 h)
            clear hm1 hm2
            generalize x.ms[i] = mx at *
            generalize y.ms[i] = my at *
            go_wp2_with fail
            go_region_with (go_at_call 27; refine (HE.out _ Z Z2 [.slice fa1 mx.fs.length fc1, .slice ua1 mx.us.length uc1] [.slice fa2 my.fs.length fc2, .slice ua2 my.us.length uc2] mx my (HM1.out.kept (bl_drewW _)) (HM2.out.kept (bl_drewW _))).mono ?_; rintro e w1 ⟨r, rfl, hr, hbx⟩; replace hr := hid hr; replace hbx : Hid (Below wq.heap.size wq w1) := hid (bl_then (bl_drew hbi.out) hbx))
            all_goals
              cases r with
              | true =>
                have HX : Hid (mx = my) := hid (hr.out.1 rfl)
                clear hr
                go_wp2
                exact ⟨⟨i + 1, by simp, by omega, hid (HNi.out HX.out), hbx⟩, by simp [numAt]; omega⟩
              | false =>
                have HX : Hid (¬ mx = my) := hid (fun e => (by have := hr.out.2 e; cases this))
                clear hr
                go_wp2
                go_ret
                exact EqR.no (HNO.out (fun e => HNOi.out HX.out (by rw [e]))) (below_trans hb.out hbx.out)
          · have k5 : ¬ (i : Int) < (x.ms.length : Int) := by omega
            go_wp2
            exact ⟨⟨j + 1, by simp, by omega, hid (HN.out (CV.ext3 He1.out He2.out (take_all (by omega) (by have := He3.out; omega) hTi.out))), hid (below_trans hb.out hbi.out)⟩, by simp [numAt]; omega⟩
      · have k2 : ¬ (j : Int) < (xs.length : Int) := by omega
        go_wp2
        go_ret
        exact EqR.yes (take_all (by omega) (by have := HL.out; omega) hT.out) hb.out
  · have q0 : ((xs.length : Int) == (ys.length : Int)) = false := by simp; omega
    have HL := hid hl
    clear hl
    go_enter Tryz.func64, Tryz.ntmps64
    go_wp2
    go_ret
    exact EqR.no (fun q => HL.out (by rw [q])) (Below.refl _ _)
end Go.Proofs.YtgephggcgopfgaaGreatDoor
namespace Go.Proofs.YtgephggcgopfgaaGreatDoor
open Go.RowKit
set_option maxRecDepth 1000000
set_option linter.unusedVariables false
set_option linter.unusedSimpArgs false
set_option maxHeartbeats 2000000
theorem sameFieldD (d : Nat) (HE : EqDAt d) (w : World) (Z Z2 : Nat → Prop) (cs ds : List Value) (x y : CF CM) (h1 : FldE w Z (MsgE w Z d) cs x) (h2 : FldE w Z2 (MsgE w Z2 d) ds y) : Calls Tryz.prog 30 #[.agg cs.toArray, .agg ds.toArray] w (EqR w (x = y)) := by
  obtain ⟨ka1, kc1, va1, vc1, rfl, g1, m1, -⟩ := fld_open h1
  obtain ⟨ka2, kc2, va2, vc2, rfl, g2, m2, -⟩ := fld_open h2
  have G1 := hid g1
  have G2 := hid g2
  have M1 := hid m1
  have M2 := hid m2
  replace HE := hid HE
  clear g1 g2 h1 h2 m1 m2
  go_enter Tryz.func30, Tryz.ntmps30
  by_cases e1 : x.num = y.num
  case neg =>
    have kq : (x.num == y.num) = false := by simpa using e1
    have HX := hid e1
    clear e1
    go_wp2
    go_ret
    exact EqR.no (fun e => HX.out (by rw [e])) (by exact blBy)
  have kqe1 : (x.num == y.num) = true := by simpa using e1
  have He1 := hid e1
  clear e1
  go_wp2_with fail
  refine (valsD d HE.out _ Z Z2 x.ks y.ks ka1 ka2 kc1 kc2 (G1.out.kept (by exact blBy)) (G2.out.kept (by exact blBy))).mono ?_
  rintro e w1 ⟨r1, rfl, hr, hb⟩
  have HR := hid hr
  clear hr
  have Bx : Blk w1 w.heap.size 29 #[.int .i64 x.num, .slice ka1 x.ks.length kc1, .slice va1 x.vs.length vc1] := ((Blk.new _ _ _).kept (below_alloc _)).kept hb
  have By : Blk w1 (w.heap.size + 1) 29 #[.int .i64 y.num, .slice ka2 y.ks.length kc2, .slice va2 y.vs.length vc2] := (Blk.newAt (by simp)).kept hb
  have hbz : Hid (Below w.heap.size w w1) := hid (bl_then (by exact blBy) hb)
  clear hb
  cases r1 with
  | false =>
    have HX : Hid (¬ x.ks = y.ks) := hid (fun e => (by have := HR.out.2 e; cases this))
    clear HR
    go_wp2
    go_ret
    exact EqR.no (fun e => HX.out (by rw [e])) hbz.out
  | true =>
  have e2 : Hid (x.ks = y.ks) := hid (HR.out.1 rfl)
  clear HR
  have xx := Bx.cellF
  have zx := Bx.lt
  have xy := By.cellF
  have zy := By.lt
  go_wp2_with fail
  refine (valsD d HE.out _ Z Z2 x.vs y.vs va1 va2 vc1 vc2 (M1.out.kept hbz.out) (M2.out.kept hbz.out)).mono ?_
  rintro e w2 ⟨r2, rfl, hr, hb⟩
  have HR := hid hr
  clear hr
  replace Bx := Bx.kept hb
  replace By := By.kept hb
  replace hbz : Hid (Below w.heap.size w w2) := hid (bl_then (by have := hbz.out; exact blBy) hb)
  clear xx zx xy zy
  clear hb
  cases r2 with
  | false =>
    have HX : Hid (¬ x.vs = y.vs) := hid (fun e => (by have := HR.out.2 e; cases this))
    clear HR
    go_wp2
    go_ret
    exact EqR.no (fun e => HX.out (by rw [e])) hbz.out
  | true =>
  have e3 : Hid (x.vs = y.vs) := hid (HR.out.1 rfl)
  clear HR
  go_wp2
  go_ret
  exact EqR.yes (CF.ext3 He1.out e2.out e3.out) hbz.out
theorem equalD : ∀ d, EqDAt d
  | 0 => fun _ _ _ _ _ _ _ h => h.elim
  | d + 1 => fun w Z Z2 cs ds x y h1 h2 => by
    have HE := hid (equalD d)
    obtain ⟨ka1, kc1, va1, vc1, rfl, g1, m1, lf1, -⟩ := msg_open h1
    obtain ⟨ka2, kc2, va2, vc2, rfl, g2, m2, -⟩ := msg_open h2
    have G1 := hid g1
    have G2 := hid g2
    have M1 := hid m1
    have M2 := hid m2
    have ln : (x.fs.length : Int) ≤ 9223372036854775807 := by omega
    clear g1 g2 h1 h2 m1 m2
    by_cases hl : x.fs.length = y.fs.length
    · have HL := hid hl
      rw [← hl] at G2
      rw [← hl]
      clear hl
      go_enter Tryz.func27, Tryz.ntmps27
      go_wp2_with fail
      refine (listD _ Z Z2 x.us y.us va1 va2 vc1 vc2 (M1.out.kept (by exact blBy)) (M2.out.kept (by exact blBy))).mono ?_
      rintro e w1 ⟨r1, rfl, hr, hb⟩
      have HR := hid hr
      have Bx : Blk w1 w.heap.size 35 #[.slice ka1 x.fs.length kc1, .slice va1 x.us.length vc1] := ((Blk.new _ _ _).kept (below_alloc _)).kept hb
      have By : Blk w1 (w.heap.size + 1) 35 #[.slice ka2 x.fs.length kc2, .slice va2 y.us.length vc2] := (Blk.newAt (by simp)).kept hb
      have hbz : Hid (Below w.heap.size w w1) := hid (bl_then (by exact blBy) hb)
      clear hb hr
      cases r1 with
      | false =>
        have HX : Hid (¬ x.us = y.us) := hid (fun e => (by have := HR.out.2 e; cases this))
        clear HR
        go_wp2
        go_ret
        exact EqR.no (fun e => HX.out (by rw [e])) hbz.out
      | true =>
      have HU : Hid (x.us = y.us) := hid (HR.out.1 rfl)
      clear HR
      have HBx := hid Bx
      have HBy := hid By
      clear Bx By
      go_wp2
      go_loopw [5] (fun r wr => ∃ j : Nat, r = .int .i64 j ∧ j ≤ x.fs.length ∧ Hid (x.fs.take j = y.fs.take j) ∧ Hid (Below w1.heap.size w1 wr)) (fun r wr => x.fs.length - numAt wr r)
      case atStart => exact ⟨0, rfl, by omega, hid rfl, hid (Below.refl _ _)⟩
      case round =>
        obtain ⟨j, rfl, hj, hT, hb⟩ := hrel
        have Bx := HBx.out.kept hb.out
        have By := HBy.out.kept hb.out
        have xx := Bx.cellF
        have zx := Bx.lt
        have xy := By.cellF
        have zy := By.lt
        clear Bx By
        by_cases hlt : j < x.fs.length
        · have k2 : (j : Int) < (x.fs.length : Int) := by omega
          have hlt2 : j < y.fs.length := by have := HL.out; omega
          obtain ⟨p1, o1, pa1, pc1, qa1, qc1, rfl, -, hp1, c10, c11, c12, he1⟩ := fls_at (G1.out.kept (below_trans hbz.out hb.out)) hlt
          obtain ⟨p2, o2, pa2, pc2, qa2, qc2, rfl, -, hp2, c20, c21, c22, he2⟩ := fls_at (G2.out.kept (below_trans hbz.out hb.out)) hlt2
          have HE1 := hid he1
          have HE2 := hid he2
          have HN := hid (fun h => take_next hlt hlt2 hT.out h)
          have HNO := hid (fun h => ne_at (xs := x.fs) (ys := y.fs) hlt hlt2 h)
          clear he1 he2
          generalize x.fs[j] = f at *
          generalize y.fs[j] = g at *
          go_wp2_with fail
          go_region_with (go_at_call 30; refine (sameFieldD d HE.out _ Z Z2 [.int .i64 f.num, .slice pa1 f.ks.length pc1, .slice qa1 f.vs.length qc1] [.int .i64 g.num, .slice pa2 g.ks.length pc2, .slice qa2 g.vs.length qc2] f g (HE1.out.kept (bl_drewW _)) (HE2.out.kept (bl_drewW _))).mono ?_; rintro e w2 ⟨r, rfl, hr, hbx⟩; replace hr := hid hr; replace hbx : Hid (Below w1.heap.size w1 w2) := hid (bl_then (bl_drew hb.out) hbx))
          all_goals
            cases r with
            | true =>
              have HX : Hid (f = g) := hid (hr.out.1 rfl)
              clear hr
              go_wp2
              exact ⟨⟨j + 1, by simp, by omega, hid (HN.out HX.out), hbx⟩, by simp [numAt]; omega⟩
            | false =>
              have HX : Hid (¬ f = g) := hid (fun e => (by have := hr.out.2 e; cases this))
              clear hr
              go_wp2
              go_ret
              exact EqR.no (fun e => HNO.out HX.out (by rw [e])) (below_trans hbz.out hbx.out)
        · have k2 : ¬ (j : Int) < (x.fs.length : Int) := by omega
          go_wp2
          go_ret
          exact EqR.yes (CM.ext (take_all (by omega) (by have := HL.out; omega) hT.out) HU.out) (below_trans hbz.out hb.out)
    · have q0 : ((x.fs.length : Int) == (y.fs.length : Int)) = false := by simp; omega
      have HL := hid hl
      clear hl
      go_enter Tryz.func27, Tryz.ntmps27
      go_wp2
      go_ret
      exact EqR.no (fun q => HL.out (by rw [q])) (by exact blBy)
end Go.Proofs.YtgephggcgopfgaaGreatDoor
namespace Go.Proofs.YtgephggcgopfgaaGreatDoor
open Go.RowKit
set_option maxRecDepth 1000000
set_option linter.unusedVariables false
set_option linter.unusedSimpArgs false
set_option maxHeartbeats 2000000
theorem modelSetsW (w : World) (l : List TV) (ta : Option Addr) (tc : Nat) (h : TbR w (.slice ta l.length tc) l) (hk : ∀ x ∈ l, OkV x) (hz : ∀ x ∈ l, x.t.name.length < 4000000) (mx : Int) (hm0 : w.cell? ⟨0, 0, none⟩ = some (.int .i64 mx)) (idx : Int) (Z : Nat → Prop) (d : Nat) (cs cf : List Value) (m : CM) (f : CF CM) (hm : MsgE w Z (d + 1) cs m) (hf : FldE w Z (MsgE w Z d) cf f) : Calls Tryz.prog 6 #[.agg #[.slice ta l.length tc], .int .i64 idx, .agg cs.toArray, .agg cf.toArray] w fun e w' => e = .returned (.bool true) ∧ Below w.heap.size w w' := by
  have HSY : Hid (∀ y ∈ l, ∀ s ∈ y.t.ss, I64 s.num) := hid (fun y hy s hs => ((hk y hy).ok.ss s hs).2)
  have HT := hid h
  have HK := hid hk
  have HM0 := hid hm0
  have HMM := hid hm
  have HFF := hid hf
  have HAW := hid fun W (hW : Below w.heap.size w W) => awake8 W mx (cell_below hm0 hW)
  have HIS := hid fun W (hW : Below w.heap.size w W) => isR W l ta tc (h.kept hW) hk hz idx
  have HEM : Hid (∀ W : World, Calls Tryz.prog 18 #[.agg #[.slice none 0 0, .slice none 0 0]] W fun e w' => e = .returned (.bool true) ∧ Below W.heap.size W w') := hid fun W => emptyD W AnyZ 1 [.slice none 0 0, .slice none 0 0] (CM.mk [] []) ⟨_, _, rfl, RowM.nil _ _ _ _, RowM.nil _ _ _ _⟩
  obtain ⟨a1, c1, a2, c2, rfl, -⟩ := msg_openD hm
  obtain ⟨ka, kc, va, vc, rfl, -⟩ := fld_open hf
  clear h hk hm0 hm hf hz
  cases q : isB l idx false with
  | false =>
    have H1 := hid fun W (hW : Below w.heap.size w W) => setNo W l ta tc (HT.out.kept hW) HK.out mx (cell_below HM0.out hW) idx q a1 a2 m.fs.length c1 m.us.length c2 f.num ka va f.ks.length kc f.vs.length vc
    rw [q] at HIS
    clear HT HK HM0 HMM HFF HSY q
    go_enter Tryz.func6, Tryz.ntmps6
    go_wp2_with fail
    refine (H1.out _ (by exact blBy)).mono ?_
    rintro e w1 ⟨rfl, hb⟩
    have hz : Below w.heap.size w w1 := bl_then (by exact blBy) hb
    have Bt : Hid (Blk w1 (w.heap.size) 46 #[.slice ta l.length tc]) := hid ((((Blk.new _ _ _).kept (below_alloc _)).kept (below_alloc _)).kept hb)
    have Bm : Hid (Blk w1 (w.heap.size + 1) 35 #[.slice a1 m.fs.length c1, .slice a2 m.us.length c2]) := hid (((Blk.newAt (by simp)).kept (below_alloc _)).kept hb)
    have Bf : Hid (Blk w1 (w.heap.size + 1 + 1) 29 #[.int .i64 f.num, .slice ka f.ks.length kc, .slice va f.vs.length vc]) := hid ((Blk.newAt (by simp)).kept hb)
    have HB : Hid (Below w.heap.size w w1) := hid hz
    have xBt := Bt.out.cellF
    have zBt := Bt.out.lt
    have xBm := Bm.out.cellF
    have zBm := Bm.out.lt
    have xBf := Bf.out.cellF
    have zBf := Bf.out.lt
    clear hz hb
    go_wp2_with fail
    refine (HAW.out _ (by have := HB.out; exact blBy)).mono ?_
    rintro e w2 ⟨rfl, hb⟩
    have hz : Below w1.heap.size w1 w2 := bl_then (by exact blBy) hb
    clear xBt zBt xBm zBm xBf zBf
    replace Bt := hid (Bt.out.kept hz)
    replace Bm := hid (Bm.out.kept hz)
    replace Bf := hid (Bf.out.kept hz)
    have Bs : Hid (Blk w2 (w1.heap.size) 35 #[.slice none 0 0, .slice none 0 0]) := hid ((Blk.new _ _ _).kept hb)
    replace HB := hid (below_trans HB.out hz)
    have xBt := Bt.out.cellF
    have zBt := Bt.out.lt
    have xBm := Bm.out.cellF
    have zBm := Bm.out.lt
    have xBf := Bf.out.cellF
    have zBf := Bf.out.lt
    have xBs := Bs.out.cellF
    have zBs := Bs.out.lt
    clear hz hb
    go_wp2_with fail
    refine (HIS.out _ (by have := HB.out; exact blBy)).mono ?_
    rintro e w3 ⟨rfl, hb⟩
    have hz := hb
    clear xBt zBt xBm zBm xBf zBf xBs zBs
    replace Bt := hid (Bt.out.kept hz)
    replace Bm := hid (Bm.out.kept hz)
    replace Bf := hid (Bf.out.kept hz)
    replace Bs := hid (Bs.out.kept hz)
    replace HB := hid (below_trans HB.out hz)
    have xBt := Bt.out.cellF
    have zBt := Bt.out.lt
    have xBm := Bm.out.cellF
    have zBm := Bm.out.lt
    have xBf := Bf.out.cellF
    have zBf := Bf.out.lt
    have xBs := Bs.out.cellF
    have zBs := Bs.out.lt
    clear hz hb
    clear Bt xBt zBt Bm xBm zBm Bf xBf zBf
    go_wp2_with fail
    refine (HEM.out _).mono ?_
    rintro e w4 ⟨rfl, hb⟩
    have hz := hb
    clear xBs zBs
    replace Bs := hid (Bs.out.kept hz)
    replace HB := hid (below_trans HB.out hz)
    have xBs := Bs.out.cellF
    have zBs := Bs.out.lt
    clear hz hb
    go_wp2
    go_ret
    exact ⟨ret_bool (by simp), by have := HB.out; exact blBy⟩
  | true =>
    rw [q] at HIS
    obtain ⟨k, hkl, rfl, hg, he⟩ := isB_at q
    cases hq : keptB l (d + 1) l[k] m with
    | false =>
      have H1 := hid fun W (hW : Below w.heap.size w W) => setBad W l ta tc (HT.out.kept hW) HK.out mx (cell_below HM0.out hW) k hkl hg he Z (d + 1) _ m (HMM.out.kept hW) hq f.num ka va f.ks.length kc f.vs.length vc
      have H2 := hid fun W (hW : Below w.heap.size w W) => setDno W l ta tc (HT.out.kept hW) hg HSY.out k hkl Z (d + 1) _ m (HMM.out.kept hW) f.num ka va f.ks.length kc f.vs.length vc hq
      clear HT HK HM0 HMM HFF HSY q hg he hq
      go_enter Tryz.func6, Tryz.ntmps6
      go_wp2_with fail
      refine (H1.out _ (by exact blBy)).mono ?_
      rintro e w1 ⟨rfl, hb⟩
      have hz : Below w.heap.size w w1 := bl_then (by exact blBy) hb
      have Bt : Hid (Blk w1 (w.heap.size) 46 #[.slice ta l.length tc]) := hid ((((Blk.new _ _ _).kept (below_alloc _)).kept (below_alloc _)).kept hb)
      have Bm : Hid (Blk w1 (w.heap.size + 1) 35 #[.slice a1 m.fs.length c1, .slice a2 m.us.length c2]) := hid (((Blk.newAt (by simp)).kept (below_alloc _)).kept hb)
      have Bf : Hid (Blk w1 (w.heap.size + 1 + 1) 29 #[.int .i64 f.num, .slice ka f.ks.length kc, .slice va f.vs.length vc]) := hid ((Blk.newAt (by simp)).kept hb)
      have HB : Hid (Below w.heap.size w w1) := hid hz
      have xBt := Bt.out.cellF
      have zBt := Bt.out.lt
      have xBm := Bm.out.cellF
      have zBm := Bm.out.lt
      have xBf := Bf.out.cellF
      have zBf := Bf.out.lt
      clear hz hb
      go_wp2_with fail
      refine (HAW.out _ (by have := HB.out; exact blBy)).mono ?_
      rintro e w2 ⟨rfl, hb⟩
      have hz : Below w1.heap.size w1 w2 := bl_then (by exact blBy) hb
      clear xBt zBt xBm zBm xBf zBf
      replace Bt := hid (Bt.out.kept hz)
      replace Bm := hid (Bm.out.kept hz)
      replace Bf := hid (Bf.out.kept hz)
      have Bs : Hid (Blk w2 (w1.heap.size) 35 #[.slice none 0 0, .slice none 0 0]) := hid ((Blk.new _ _ _).kept hb)
      replace HB := hid (below_trans HB.out hz)
      have xBt := Bt.out.cellF
      have zBt := Bt.out.lt
      have xBm := Bm.out.cellF
      have zBm := Bm.out.lt
      have xBf := Bf.out.cellF
      have zBf := Bf.out.lt
      have xBs := Bs.out.cellF
      have zBs := Bs.out.lt
      clear hz hb
      go_wp2_with fail
      refine (HIS.out _ (by have := HB.out; exact blBy)).mono ?_
      rintro e w3 ⟨rfl, hb⟩
      have hz := hb
      clear xBt zBt xBm zBm xBf zBf xBs zBs
      replace Bt := hid (Bt.out.kept hz)
      replace Bm := hid (Bm.out.kept hz)
      replace Bf := hid (Bf.out.kept hz)
      replace Bs := hid (Bs.out.kept hz)
      replace HB := hid (below_trans HB.out hz)
      have xBt := Bt.out.cellF
      have zBt := Bt.out.lt
      have xBm := Bm.out.cellF
      have zBm := Bm.out.lt
      have xBf := Bf.out.cellF
      have zBf := Bf.out.lt
      have xBs := Bs.out.cellF
      have zBs := Bs.out.lt
      clear hz hb
      go_wp2_with fail
      refine (H2.out _ (by have := HB.out; exact blBy)).mono ?_
      rintro e w4 ⟨rfl, hb⟩
      have hz := hb
      clear xBt zBt xBm zBm xBf zBf xBs zBs
      replace Bt := hid (Bt.out.kept hz)
      replace Bm := hid (Bm.out.kept hz)
      replace Bf := hid (Bf.out.kept hz)
      replace Bs := hid (Bs.out.kept hz)
      replace HB := hid (below_trans HB.out hz)
      have xBt := Bt.out.cellF
      have zBt := Bt.out.lt
      have xBm := Bm.out.cellF
      have zBm := Bm.out.lt
      have xBf := Bf.out.cellF
      have zBf := Bf.out.lt
      have xBs := Bs.out.cellF
      have zBs := Bs.out.lt
      clear hz hb
      clear Bt xBt zBt Bm xBm zBm Bf xBf zBf
      go_wp2_with fail
      refine (HEM.out _).mono ?_
      rintro e w5 ⟨rfl, hb⟩
      have hz : Below w4.heap.size w4 w5 := bl_then (by exact blBy) hb
      clear xBs zBs
      replace Bs := hid (Bs.out.kept hz)
      have Bw : Hid (Blk w5 (w4.heap.size) 35 #[.slice none 0 0, .slice none 0 0]) := hid ((Blk.new _ _ _).kept hb)
      replace HB := hid (below_trans HB.out hz)
      have xBs := Bs.out.cellF
      have zBs := Bs.out.lt
      have xBw := Bw.out.cellF
      have zBw := Bw.out.lt
      clear hz hb
      go_wp2
      go_ret
      exact ⟨ret_bool (by simp), by have := HB.out; exact blBy⟩
    | true =>
      have H1 := hid fun W (hW : Below w.heap.size w W) => setOk W l ta tc (HT.out.kept hW) HK.out mx (cell_below HM0.out hW) k hkl hg he Z d _ _ m f (HMM.out.kept hW) (HFF.out.kept hW) hq
      have H2 := hid fun W (hW : Below w.heap.size w W) => setDok W l ta tc (HT.out.kept hW) hg HSY.out k hkl Z d _ _ m f (HMM.out.kept hW) (HFF.out.kept hW) hq
      generalize keptB l (d + 1) l[k] (withM l[k].t.fs m f) = kb at *
      generalize withM l[k].t.fs m f = wm at *
      clear HT HK HM0 HMM HFF HSY q hg he hq
      go_enter Tryz.func6, Tryz.ntmps6
      cases kb with
      | false =>
        go_wp2_with fail
        refine (H1.out _ (by exact blBy)).mono ?_
        rintro e w1 ⟨-, h2, hb⟩
        have hz : Below w.heap.size w w1 := bl_then (by exact blBy) hb
        have Bt : Hid (Blk w1 (w.heap.size) 46 #[.slice ta l.length tc]) := hid ((((Blk.new _ _ _).kept (below_alloc _)).kept (below_alloc _)).kept hb)
        have Bm : Hid (Blk w1 (w.heap.size + 1) 35 #[.slice a1 m.fs.length c1, .slice a2 m.us.length c2]) := hid (((Blk.newAt (by simp)).kept (below_alloc _)).kept hb)
        have Bf : Hid (Blk w1 (w.heap.size + 1 + 1) 29 #[.int .i64 f.num, .slice ka f.ks.length kc, .slice va f.vs.length vc]) := hid ((Blk.newAt (by simp)).kept hb)
        have HB : Hid (Below w.heap.size w w1) := hid hz
        have xBt := Bt.out.cellF
        have zBt := Bt.out.lt
        have xBm := Bm.out.cellF
        have zBm := Bm.out.lt
        have xBf := Bf.out.cellF
        have zBf := Bf.out.lt
        clear hz hb
        have h3 := h2 rfl
        subst h3
        clear h2
        go_wp2_with fail
        refine (HAW.out _ (by have := HB.out; exact blBy)).mono ?_
        rintro e w2 ⟨rfl, hb⟩
        have hz : Below w1.heap.size w1 w2 := bl_then (by exact blBy) hb
        clear xBt zBt xBm zBm xBf zBf
        replace Bt := hid (Bt.out.kept hz)
        replace Bm := hid (Bm.out.kept hz)
        replace Bf := hid (Bf.out.kept hz)
        have Bs : Hid (Blk w2 (w1.heap.size) 35 #[.slice none 0 0, .slice none 0 0]) := hid ((Blk.new _ _ _).kept hb)
        replace HB := hid (below_trans HB.out hz)
        have xBt := Bt.out.cellF
        have zBt := Bt.out.lt
        have xBm := Bm.out.cellF
        have zBm := Bm.out.lt
        have xBf := Bf.out.cellF
        have zBf := Bf.out.lt
        have xBs := Bs.out.cellF
        have zBs := Bs.out.lt
        clear hz hb
        go_wp2_with fail
        refine (HIS.out _ (by have := HB.out; exact blBy)).mono ?_
        rintro e w3 ⟨rfl, hb⟩
        have hz := hb
        clear xBt zBt xBm zBm xBf zBf xBs zBs
        replace Bt := hid (Bt.out.kept hz)
        replace Bm := hid (Bm.out.kept hz)
        replace Bf := hid (Bf.out.kept hz)
        replace Bs := hid (Bs.out.kept hz)
        replace HB := hid (below_trans HB.out hz)
        have xBt := Bt.out.cellF
        have zBt := Bt.out.lt
        have xBm := Bm.out.cellF
        have zBm := Bm.out.lt
        have xBf := Bf.out.cellF
        have zBf := Bf.out.lt
        have xBs := Bs.out.cellF
        have zBs := Bs.out.lt
        clear hz hb
        go_wp2_with fail
        refine (H2.out _ (by have := HB.out; exact blBy)).mono ?_
        rintro e w4 ⟨-, h2, hb⟩
        have hz := hb
        clear xBt zBt xBm zBm xBf zBf xBs zBs
        replace Bt := hid (Bt.out.kept hz)
        replace Bm := hid (Bm.out.kept hz)
        replace Bf := hid (Bf.out.kept hz)
        replace Bs := hid (Bs.out.kept hz)
        replace HB := hid (below_trans HB.out hz)
        have xBt := Bt.out.cellF
        have zBt := Bt.out.lt
        have xBm := Bm.out.cellF
        have zBm := Bm.out.lt
        have xBf := Bf.out.cellF
        have zBf := Bf.out.lt
        have xBs := Bs.out.cellF
        have zBs := Bs.out.lt
        clear hz hb
        clear Bt xBt zBt Bm xBm zBm Bf xBf zBf
        have h3 := h2 rfl
        subst h3
        clear h2
        go_wp2_with fail
        refine (HEM.out _).mono ?_
        rintro e w5 ⟨rfl, hb⟩
        have hz : Below w4.heap.size w4 w5 := bl_then (by exact blBy) hb
        clear xBs zBs
        replace Bs := hid (Bs.out.kept hz)
        have Bw : Hid (Blk w5 (w4.heap.size) 35 #[.slice none 0 0, .slice none 0 0]) := hid ((Blk.new _ _ _).kept hb)
        replace HB := hid (below_trans HB.out hz)
        have xBs := Bs.out.cellF
        have zBs := Bs.out.lt
        have xBw := Bw.out.cellF
        have zBw := Bw.out.lt
        clear hz hb
        go_wp2
        go_ret
        exact ⟨ret_bool (by simp), by have := HB.out; exact blBy⟩
      | true =>
        go_wp2_with fail
        refine (H1.out _ (by exact blBy)).mono ?_
        rintro e w1 ⟨h1, -, hb⟩
        have hz : Below w.heap.size w w1 := bl_then (by exact blBy) hb
        have Bt : Hid (Blk w1 (w.heap.size) 46 #[.slice ta l.length tc]) := hid ((((Blk.new _ _ _).kept (below_alloc _)).kept (below_alloc _)).kept hb)
        have Bm : Hid (Blk w1 (w.heap.size + 1) 35 #[.slice a1 m.fs.length c1, .slice a2 m.us.length c2]) := hid (((Blk.newAt (by simp)).kept (below_alloc _)).kept hb)
        have Bf : Hid (Blk w1 (w.heap.size + 1 + 1) 29 #[.int .i64 f.num, .slice ka f.ks.length kc, .slice va f.vs.length vc]) := hid ((Blk.newAt (by simp)).kept hb)
        have HB : Hid (Below w.heap.size w w1) := hid hz
        have xBt := Bt.out.cellF
        have zBt := Bt.out.lt
        have xBm := Bm.out.cellF
        have zBm := Bm.out.lt
        have xBf := Bf.out.cellF
        have zBf := Bf.out.lt
        clear hz hb
        obtain ⟨ds, h3, hn⟩ := h1 rfl
        subst h3
        obtain ⟨sa, sc, ua, uc, rfl, -⟩ := msg_openD hn
        have HN : Hid (MsgE w1 AnyZ (d + 1) [.slice sa wm.fs.length sc, .slice ua wm.us.length uc] wm) := hid hn.any
        clear hn h1
        go_wp2_with fail
        refine (HAW.out _ (by have := HB.out; exact blBy)).mono ?_
        rintro e w2 ⟨rfl, hb⟩
        have hz : Below w1.heap.size w1 w2 := bl_then (by exact blBy) hb
        clear xBt zBt xBm zBm xBf zBf
        replace Bt := hid (Bt.out.kept hz)
        replace Bm := hid (Bm.out.kept hz)
        replace Bf := hid (Bf.out.kept hz)
        replace HN := hid (MsgE.kept HN.out hz)
        have Bs : Hid (Blk w2 (w1.heap.size) 35 #[.slice sa wm.fs.length sc, .slice ua wm.us.length uc]) := hid ((Blk.new _ _ _).kept hb)
        replace HB := hid (below_trans HB.out hz)
        have xBt := Bt.out.cellF
        have zBt := Bt.out.lt
        have xBm := Bm.out.cellF
        have zBm := Bm.out.lt
        have xBf := Bf.out.cellF
        have zBf := Bf.out.lt
        have xBs := Bs.out.cellF
        have zBs := Bs.out.lt
        clear hz hb
        go_wp2_with fail
        refine (HIS.out _ (by have := HB.out; exact blBy)).mono ?_
        rintro e w3 ⟨rfl, hb⟩
        have hz := hb
        clear xBt zBt xBm zBm xBf zBf xBs zBs
        replace Bt := hid (Bt.out.kept hz)
        replace Bm := hid (Bm.out.kept hz)
        replace Bf := hid (Bf.out.kept hz)
        replace Bs := hid (Bs.out.kept hz)
        replace HN := hid (MsgE.kept HN.out hz)
        replace HB := hid (below_trans HB.out hz)
        have xBt := Bt.out.cellF
        have zBt := Bt.out.lt
        have xBm := Bm.out.cellF
        have zBm := Bm.out.lt
        have xBf := Bf.out.cellF
        have zBf := Bf.out.lt
        have xBs := Bs.out.cellF
        have zBs := Bs.out.lt
        clear hz hb
        go_wp2_with fail
        refine (H2.out _ (by have := HB.out; exact blBy)).mono ?_
        rintro e w4 ⟨h1, -, hb⟩
        have hz := hb
        clear xBt zBt xBm zBm xBf zBf xBs zBs
        replace Bt := hid (Bt.out.kept hz)
        replace Bm := hid (Bm.out.kept hz)
        replace Bf := hid (Bf.out.kept hz)
        replace Bs := hid (Bs.out.kept hz)
        replace HN := hid (MsgE.kept HN.out hz)
        replace HB := hid (below_trans HB.out hz)
        have xBt := Bt.out.cellF
        have zBt := Bt.out.lt
        have xBm := Bm.out.cellF
        have zBm := Bm.out.lt
        have xBf := Bf.out.cellF
        have zBf := Bf.out.lt
        have xBs := Bs.out.cellF
        have zBs := Bs.out.lt
        clear hz hb
        clear Bt xBt zBt Bm xBm zBm Bf xBf zBf
        obtain ⟨ds, h3, hn⟩ := h1 rfl
        subst h3
        obtain ⟨pa, pc, ra, rc, rfl, -⟩ := msg_openD hn
        have HP : Hid (MsgE w4 AnyZ (d + 1) [.slice pa wm.fs.length pc, .slice ra wm.us.length rc] wm) := hid hn
        clear hn h1
        go_wp2_with fail
        refine (equalD (d + 1) _ AnyZ AnyZ [.slice sa wm.fs.length sc, .slice ua wm.us.length uc] [.slice pa wm.fs.length pc, .slice ra wm.us.length rc] wm wm (HN.out.kept (by exact blBy)) (HP.out.kept (by exact blBy))).mono ?_
        rintro e w5 hE
        obtain ⟨rfl, hb⟩ := EqR.val hE true ⟨fun _ => rfl, fun _ => rfl⟩
        clear hE
        have hz : Below w4.heap.size w4 w5 := bl_then (by exact blBy) hb
        clear xBs zBs
        replace Bs := hid (Bs.out.kept hz)
        replace HN := hid (MsgE.kept HN.out hz)
        replace HP := hid (MsgE.kept HP.out hz)
        have Bw : Hid (Blk w5 (w4.heap.size) 35 #[.slice pa wm.fs.length pc, .slice ra wm.us.length rc]) := hid ((Blk.new _ _ _).kept hb)
        replace HB := hid (below_trans HB.out hz)
        have xBs := Bs.out.cellF
        have zBs := Bs.out.lt
        have xBw := Bw.out.cellF
        have zBw := Bw.out.lt
        clear hz hb
        go_wp2
        go_ret
        exact ⟨ret_bool (by simp), by have := HB.out; exact blBy⟩
end Go.Proofs.YtgephggcgopfgaaGreatDoor
namespace Go.Proofs.YtgephggcgopfgaaGreatDoor
open Go.ChangeShapes Go.WideShapes Go.ChangeAt Go.RowKit Go.Deep
set_option maxRecDepth 1000000
section
variable {H : Type}
theorem bulk_one (d : DataW H) : 1 ≤ Rows.uptoBulk d := by
  cases d with
  | lit l => cases l <;> simp [Rows.uptoBulk]
  | nil => simp [Rows.uptoBulk]
  | ptr d => simp [Rows.uptoBulk]
  | slice elems spare => simp [Rows.uptoBulk]
  | agg parts => simp [Rows.uptoBulk]
  | iface t d => simp [Rows.uptoBulk]
  | map entries => simp [Rows.uptoBulk]
  | held h => simp [Rows.uptoBulk]
theorem bulk_length (l : List (DataW H)) : l.length ≤ Rows.uptoBulkAll l := by
  induction l with
  | nil => simp [Rows.uptoBulkAll]
  | cons x r ih => have := bulk_one x; simp only [Rows.uptoBulkAll, List.length_cons]; omega
theorem small_le {l : List (DataW H)} (hk : Rows.uptoSmall H l = true) : Rows.uptoBulkAll l ≤ 1048576 := of_decide_eq_true hk
end
def numsS (s : ByteArray) : List Int := s.data.toList.map fun b => (b.toNat : Int)
theorem numsS_str (s : ByteArray) : strOfNums (numsS s) = s := by
  apply ByteArray.ext
  apply Array.ext'
  simp [strOfNums, numsS, Function.comp_def]
theorem numsS_bd (s : ByteArray) : ∀ x ∈ numsS s, 0 ≤ x ∧ x ≤ 255 := by
  intro x hx
  obtain ⟨b, _, rfl⟩ := List.mem_map.1 hx
  have := b.toNat_lt
  omega
theorem numsS_len (s : ByteArray) : (numsS s).length = s.data.toList.length := by simp [numsS]
end Go.Proofs.YtgephggcgopfgaaGreatDoor
namespace Go.Proofs.YtgephggcgopfgaaGreatDoor
open Go.ChangeShapes Go.WideShapes Go.ChangeAt Go.RowKit Go.Deep
set_option maxRecDepth 1000000
set_option linter.unusedVariables false
set_option linter.unusedSimpArgs false
set_option maxHeartbeats 1000000
section
variable {H : Type} {enc : TypeId × Value → H} {W : World} {spare : Nat → Bool} {held : Bool}
theorem struct_open {t : TypeId} {fs : Array Field} (ht : Tryz.prog.underlying t = some (.struct fs)) (hone : oneCellFields Tryz.prog fs = true) (hsz : Tryz.prog.cellsOf t = fs.size) {fuel : Nat} {cs : List Value} {y : DataW H × List MemPlace} (h : DataW.trod enc Tryz.prog W 0 spare held fuel t cs = some y) :
    ∃ (xs : List (DataW H × List MemPlace)) (n : Nat), y.1 = .agg (xs.map (·.1)) ∧ xs.length = fs.size ∧ cs.length = fs.size ∧ ∀ (i : Nat) (f : Field), fs[i]? = some f → ∃ v yi, cs[i]? = some v ∧ xs[i]? = some yi ∧ DataW.trod enc Tryz.prog W 0 spare held n f.type [v] = some yi := by
  obtain ⟨xs, n, _, rfl, hl, hlen, hf⟩ := DataW.trod_struct ht h
  refine ⟨xs, n, rfl, hlen, hl.trans hsz, fun i f hi => ?_⟩
  have hlt : i < fs.size := (Array.getElem?_eq_some_iff.1 hi).1
  obtain ⟨o1, o2⟩ := hone_of hone i f hi
  have hc : i < cs.length := by omega
  have hx : i < xs.length := by omega
  refine ⟨cs[i], xs[i], by simp [hc], by simp [hx], ?_⟩
  have := hf i f hi
  have e : (cs.drop i).take 1 = [cs[i]] := by rw [List.drop_eq_getElem_cons hc]; rfl
  rw [o1, o2, e] at this
  rw [this]
  simp [hx]
theorem bulk_mem {l : List (DataW H)} {d : DataW H} (h : d ∈ l) : Rows.uptoBulk d ≤ Rows.uptoBulkAll l := by
  induction l with
  | nil => cases h
  | cons x r ih =>
    simp only [Rows.uptoBulkAll]
    rcases List.mem_cons.1 h with rfl | h
    · omega
    · have := ih h; omega
theorem bulk_get {xs : List (DataW H × List MemPlace)} {i : Nat} {y : DataW H × List MemPlace} (h : xs[i]? = some y) : Rows.uptoBulk y.1 + 1 ≤ Rows.uptoBulk (DataW.agg (xs.map (·.1))) := by
  have := bulk_mem (l := xs.map (·.1)) (d := y.1) (List.mem_map.2 ⟨y, List.mem_of_getElem? h, rfl⟩)
  simp only [Rows.uptoBulk]
  omega
theorem rows_open {α : Type} (g : α → List Value) (K : Nat) (hK0 : 0 < K) (Q : α → DataW H → Prop) {t e : TypeId} (ht : Tryz.prog.underlying t = some (.slice e)) (hK : Tryz.prog.cellsOf e = K) (hg : ∀ x, (g x).length = K)
    (hel : ∀ (n : Nat) (cs : List Value) (y : DataW H × List MemPlace), DataW.trod enc Tryz.prog W 0 spare held n e cs = some y → ∃ x, cs = g x ∧ Q x y.1) {fuel : Nat} {v : Value} {y : DataW H × List MemPlace} (hf : DataW.trod enc Tryz.prog W 0 spare held fuel t [v] = some y) :
    ∃ (a : Option Addr) (cap : Nat) (xs : List α), v = .slice a xs.length cap ∧ RowS W AnyZ K v xs.length (xs.flatMap g) ∧ xs.length + 1 ≤ Rows.uptoBulk y.1 ∧ ∀ x ∈ xs, ∃ d, Q x d ∧ Rows.uptoBulk d ≤ Rows.uptoBulk y.1 := by
  rcases open_slice ht hf with ⟨hcs, rfl⟩ | ⟨a, len, cap, m, n, D, Pl, hcs, _, hl, hm, hmm, rfl, hx⟩
  · simp at hcs
    subst hcs
    exact ⟨none, 0, [], rfl, rowS_nil _ _ _, by simp [Rows.uptoBulk], fun x hx => by cases hx⟩
  · simp at hcs
    subst hcs
    rw [hK] at hx
    have hlm : len ≤ m := by rw [hmm]; split <;> omega
    have hc : ∀ i, i < len → ∃ x : α, W.cells? 0 (a.add (i * K)) K = some (g x) ∧ Q x (D i) := fun i hi => by
      obtain ⟨cs', h1, h2⟩ := hx i (by omega)
      obtain ⟨x, rfl, hq⟩ := hel _ _ _ h2
      exact ⟨x, h1, hq⟩
    obtain ⟨xs, hxl, hxs⟩ : ∃ xs : List α, xs.length = len ∧ ∀ i (h : i < xs.length), W.cells? 0 (a.add (i * K)) K = some (g xs[i]) ∧ Q xs[i] (D i) := by
      clear hx hl hlm hmm hf
      induction len with
      | zero => exact ⟨[], rfl, fun i h => by simp at h⟩
      | succ k ih =>
        obtain ⟨xs, h1, h2⟩ := ih (fun i hi => hc i (by omega))
        obtain ⟨x, h3, h4⟩ := hc k (by omega)
        refine ⟨xs ++ [x], by simp [h1], fun i h => ?_⟩
        by_cases e : i < xs.length
        · rw [List.getElem_append_left e]; exact h2 i e
        · have ei : i = k := by simp at h; omega
          subst ei
          rw [List.getElem_append_right (by omega)]
          simp [h1, h3, h4]
    subst hxl
    have hb : ∀ i, i < xs.length → D i ∈ (List.range xs.length).map D := fun i hi => List.mem_map.2 ⟨i, List.mem_range.2 hi, rfl⟩
    refine ⟨some a, cap, xs, rfl, ⟨some a, cap, rfl, flatM_len hg xs, hl, by unfold maxLen at hm; omega, ?_⟩, ?_, fun x hxm => ?_⟩
    · by_cases h0 : xs.length = 0
      · exact .inl ⟨h0, fun e => by cases e⟩
      · obtain ⟨b, off, spot⟩ := a
        have hspot : spot = none := by
          have h1 := (World.cells?_some (hxs 0 (by omega)).1).2.2 0 hK0
          have h2 : (g xs[0])[0]? = some ((g xs[0])[0]'(by rw [hg]; exact hK0)) := by simp
          rw [h2] at h1
          simpa [Addr.add] using World.cell?_spot h1
        subst hspot
        refine .inr ⟨b, off, rfl, trivial, fun j u hu => ?_⟩
        have hj : j < xs.length * K := by rw [← flatM_len hg xs]; exact (List.getElem?_eq_some_iff.1 hu).1
        have hi : j / K < xs.length := (Nat.div_lt_iff_lt_mul hK0).2 hj
        have hr : j % K < K := Nat.mod_lt _ hK0
        have hjj : j / K * K + j % K = j := by rw [Nat.mul_comm]; exact Nat.div_add_mod j K
        have h2 : (g xs[j / K])[j % K]? = some ((g xs[j / K])[j % K]'(by rw [hg]; exact hr)) := by simp
        have h3 := flatM_get hg xs (j / K) (j % K) xs[j / K] _ (by simp [hi]) h2
        rw [hjj] at h3
        rw [h3] at hu
        have h1 := (World.cells?_some (hxs (j / K) hi).1).2.2 (j % K) hr
        have hadd : ((⟨b, off, none⟩ : Addr).add (j / K * K)).add (j % K) = ⟨b, off + j, none⟩ := by
          have e1 : ∀ (o i : Nat), (⟨b, o, none⟩ : Addr).add i = ⟨b, o + i, none⟩ := fun o i => by unfold Addr.add; split <;> simp_all
          rw [e1, e1, Nat.add_assoc, hjj]
        rw [hadd, h2] at h1
        rw [h1]
        exact hu
    · simp only [Rows.uptoBulk]
      have := bulk_length ((List.range xs.length).map D)
      simp at this
      omega
    · obtain ⟨i, hi, rfl⟩ := List.mem_iff_getElem.1 hxm
      refine ⟨D i, (hxs i hi).2, ?_⟩
      have := bulk_mem (hb i hi)
      simp only [Rows.uptoBulk]
      omega
def okX (b : Nat) (x : List Int) : Prop := TxA x ∧ x.length + 1 ≤ b
theorem str_open {n : Nat} {v : Value} {y : DataW H × List MemPlace} (h : DataW.trod enc Tryz.prog W 0 spare held n 9 [v] = some y) : ∃ x : List Int, v = .string (strOfNums x) ∧ okX (Rows.uptoBulk y.1) x := by
  obtain ⟨s, e, rfl, hs⟩ := DataW.trod_string Tryz.underlying9 h
  simp at e
  subst e
  refine ⟨numsS s, by rw [numsS_str], ⟨numsS_bd s, ?_⟩, ?_⟩
  · rw [numsS_len]
    unfold maxLen at hs
    simpa using hs
  · rw [numsS_len]
    simp [Rows.uptoBulk]
theorem int_open {n : Nat} {v : Value} {y : DataW H × List MemPlace} (h : DataW.trod enc Tryz.prog W 0 spare held n 3 [v] = some y) : ∃ x : Int, v = .int .i64 x ∧ I64 x := by
  obtain ⟨x, e, rfl, hs⟩ := DataW.trod_int Tryz.underlying3 h
  simp at e
  subst e
  refine ⟨x, rfl, ?_⟩
  unfold I64
  simp [Lit.wf, IntKind.min, IntKind.max, IntKind.signed, IntKind.bits] at hs
  omega
end
end Go.Proofs.YtgephggcgopfgaaGreatDoor
