/-
  Equal: what the program answers, at every depth.
  The laws' first question: a number that fits, and one that does not.
  Chapter 8's examples.
  What comes in, opened: strings; and what the bound on it says.
  A table that comes in, opened.
  A table that comes in, opened: fields, symbols, ranges, types.
  The variables of Go's library that the rows list: a world that lays them; the one that is named alone.
-/
import Derived.Test.YtnfdlnelfnigdaaGreatDoorCAB
import Derived.Test.YtnfdlnelfnigdaaGreatDoorCBR
import Derived.Test.YtnfdlnelfnigdaaGreatDoorCTY0
import Derived.Test.YtnfdlnelfnigdaaGreatDoorRows
import Derived.Stop.LaidErr
import Derived.Deep.DeepHandedRow
import Derived.Deep.DeepWitnessRowRef
import Derived.LaidLaws
namespace Go.Proofs.YtnfdlnelfnigdaaGreatDoor
open Go.RowKit
set_option maxRecDepth 1000000
set_option linter.unusedVariables false
set_option linter.unusedSimpArgs false
set_option maxHeartbeats 1000000
theorem CE.ext4 {x y : CE} (h1 : x.num = y.num) (h2 : x.kind = y.kind) (h3 : x.n = y.n) (h4 : x.b = y.b) : x = y := by
  cases x; cases y; simp_all
theorem CV.ext3 {x y : CV CM} (h1 : x.n = y.n) (h2 : x.b = y.b) (h3 : x.ms = y.ms) : x = y := by
  cases x; cases y; simp_all
theorem CF.ext3 {x y : CF CM} (h1 : x.num = y.num) (h2 : x.ks = y.ks) (h3 : x.vs = y.vs) : x = y := by
  cases x; cases y; simp_all
/-- Equal's contract at a depth. -/
def EqAt (d : Nat) : Prop := ∀ (w : World) (Z Z2 : Nat → Prop) (cs ds : List Value) (m m' : CM), MsgE w Z d cs m → MsgE w Z2 d ds m' → Calls Tryz.prog 24 #[.agg cs.toArray, .agg ds.toArray] w (EqR w (m = m'))
theorem sameEntryT (w : World) (Z Z2 : Nat → Prop) (cs ds : List Value) (x y : CE) (h1 : EntE w Z cs x) (h2 : EntE w Z2 ds y) : Calls Tryz.prog 53 #[.agg cs.toArray, .agg ds.toArray] w (EqR w (x = y)) := by
  obtain ⟨ka1, kc1, rfl, g1, -⟩ := ent_open h1
  obtain ⟨ka2, kc2, rfl, g2, -⟩ := ent_open h2
  have G1 := hid g1
  have G2 := hid g2
  clear g1 g2 h1 h2
  go_enter Tryz.func53, Tryz.ntmps53
  by_cases e1 : x.num = y.num
  case neg =>
    have kq : (x.num == y.num) = false := by simpa using e1
    have HX := hid e1
    clear e1
    go_wp2
    go_ret
    exact EqR.no (fun e => HX.out (by rw [e])) (by exact blBy)
  have kqe1 : (x.num == y.num) = true := by simpa using e1
  have He1 := hid e1
  clear e1
  by_cases e2 : x.kind = y.kind
  case neg =>
    have kq : (x.kind == y.kind) = false := by simpa using e2
    have HX := hid e2
    clear e2
    go_wp2
    go_ret
    exact EqR.no (fun e => HX.out (by rw [e])) (by exact blBy)
  have kqe2 : (x.kind == y.kind) = true := by simpa using e2
  have He2 := hid e2
  clear e2
  by_cases e3 : x.n = y.n
  case neg =>
    have kq : (x.n == y.n) = false := by simpa using e3
    have HX := hid e3
    clear e3
    go_wp2
    go_ret
    exact EqR.no (fun e => HX.out (by rw [e])) (by exact blBy)
  have kqe3 : (x.n == y.n) = true := by simpa using e3
  have He3 := hid e3
  clear e3
  go_wp2_with fail
  refine (bytesEqT _ Z Z2 ka1 ka2 kc1 kc2 x.b y.b (G1.out.kept (by exact blBy)) (G2.out.kept (by exact blBy))).mono ?_
  rintro e w1 ⟨r1, rfl, hr, hb⟩
  have HR := hid hr
  clear hr
  have Bx : Blk w1 w.heap.size 40 #[.int .i64 x.num, .int .i64 x.kind, .int .u64 x.n, .slice ka1 x.b.length kc1] := ((Blk.new _ _ _).kept (below_alloc _)).kept hb
  have By : Blk w1 (w.heap.size + 1) 40 #[.int .i64 y.num, .int .i64 y.kind, .int .u64 y.n, .slice ka2 y.b.length kc2] := (Blk.newAt (by simp)).kept hb
  have hbz : Hid (Below w.heap.size w w1) := hid (bl_then (by exact blBy) hb)
  clear hb
  cases r1 with
  | false =>
    have HX : Hid (¬ x.b = y.b) := hid (fun e => (by have := HR.out.2 e; cases this))
    clear HR
    go_wp2
    go_ret
    exact EqR.no (fun e => HX.out (by rw [e])) hbz.out
  | true =>
  have e4 : Hid (x.b = y.b) := hid (HR.out.1 rfl)
  clear HR
  go_wp2
  go_ret
  exact EqR.yes (CE.ext4 He1.out He2.out He3.out e4.out) hbz.out
theorem sameValT (d : Nat) (HE : EqAt d) (w : World) (Z Z2 : Nat → Prop) (cs ds : List Value) (x y : CV CM) (h1 : ValE w Z (MsgE w Z d) cs x) (h2 : ValE w Z2 (MsgE w Z2 d) ds y) : Calls Tryz.prog 95 #[.agg cs.toArray, .agg ds.toArray] w (EqR w (x = y)) := by
  obtain ⟨ka1, kc1, va1, vc1, rfl, g1, m1, -⟩ := val_open h1
  obtain ⟨ka2, kc2, va2, vc2, rfl, g2, m2, -⟩ := val_open h2
  have G1 := hid g1
  have G2 := hid g2
  have M1 := hid m1
  have M2 := hid m2
  replace HE := hid HE
  clear g1 g2 h1 h2 m1 m2
  go_enter Tryz.func95, Tryz.ntmps95
  by_cases e1 : x.n = y.n
  case neg =>
    have kq : (x.n == y.n) = false := by simpa using e1
    have HX := hid e1
    clear e1
    go_wp2
    go_ret
    exact EqR.no (fun e => HX.out (by rw [e])) (by exact blBy)
  have kqe1 : (x.n == y.n) = true := by simpa using e1
  have He1 := hid e1
  clear e1
  go_wp2_with fail
  refine (bytesEqT _ Z Z2 ka1 ka2 kc1 kc2 x.b y.b (G1.out.kept (by exact blBy)) (G2.out.kept (by exact blBy))).mono ?_
  rintro e w1 ⟨r1, rfl, hr, hb⟩
  have HR := hid hr
  clear hr
  have Bx : Blk w1 w.heap.size 26 #[.int .u64 x.n, .slice ka1 x.b.length kc1, .slice va1 x.ms.length vc1] := ((Blk.new _ _ _).kept (below_alloc _)).kept hb
  have By : Blk w1 (w.heap.size + 1) 26 #[.int .u64 y.n, .slice ka2 y.b.length kc2, .slice va2 y.ms.length vc2] := (Blk.newAt (by simp)).kept hb
  have hbz : Hid (Below w.heap.size w w1) := hid (bl_then (by exact blBy) hb)
  clear hb
  cases r1 with
  | false =>
    have HX : Hid (¬ x.b = y.b) := hid (fun e => (by have := HR.out.2 e; cases this))
    clear HR
    go_wp2
    go_ret
    exact EqR.no (fun e => HX.out (by rw [e])) hbz.out
  | true =>
  have e2 : Hid (x.b = y.b) := hid (HR.out.1 rfl)
  clear HR
  have xx := Bx.cellF
  have zx := Bx.lt
  have xy := By.cellF
  have zy := By.lt
  go_wp2_with fail
  refine (eqfM _ Z Z2 d x.ms y.ms va1 va2 vc1 vc2 (M1.out.kept hbz.out) (M2.out.kept hbz.out) (fun W hW cs ds x y => HE.out W Z Z2 cs ds x y)).mono ?_
  rintro e w2 ⟨r2, rfl, hr, hb⟩
  have HR := hid hr
  clear hr
  replace Bx := Bx.kept hb
  replace By := By.kept hb
  replace hbz : Hid (Below w.heap.size w w2) := hid (bl_then (by have := hbz.out; exact blBy) hb)
  clear xx zx xy zy
  clear hb
  cases r2 with
  | false =>
    have HX : Hid (¬ x.ms = y.ms) := hid (fun e => (by have := HR.out.2 e; cases this))
    clear HR
    go_wp2
    go_ret
    exact EqR.no (fun e => HX.out (by rw [e])) hbz.out
  | true =>
  have e3 : Hid (x.ms = y.ms) := hid (HR.out.1 rfl)
  clear HR
  go_wp2
  go_ret
  exact EqR.yes (CV.ext3 He1.out e2.out e3.out) hbz.out
theorem sameFieldT (d : Nat) (HE : EqAt d) (w : World) (Z Z2 : Nat → Prop) (cs ds : List Value) (x y : CF CM) (h1 : FldE w Z (MsgE w Z d) cs x) (h2 : FldE w Z2 (MsgE w Z2 d) ds y) : Calls Tryz.prog 51 #[.agg cs.toArray, .agg ds.toArray] w (EqR w (x = y)) := by
  obtain ⟨ka1, kc1, va1, vc1, rfl, g1, m1, -⟩ := fld_open h1
  obtain ⟨ka2, kc2, va2, vc2, rfl, g2, m2, -⟩ := fld_open h2
  have G1 := hid g1
  have G2 := hid g2
  have M1 := hid m1
  have M2 := hid m2
  replace HE := hid HE
  clear g1 g2 h1 h2 m1 m2
  go_enter Tryz.func51, Tryz.ntmps51
  by_cases e1 : x.num = y.num
  case neg =>
    have kq : (x.num == y.num) = false := by simpa using e1
    have HX := hid e1
    clear e1
    go_wp2
    go_ret
    exact EqR.no (fun e => HX.out (by rw [e])) (by exact blBy)
  have kqe1 : (x.num == y.num) = true := by simpa using e1
  have He1 := hid e1
  clear e1
  go_wp2_with fail
  refine (eqfV _ Z Z2 d x.ks y.ks ka1 ka2 kc1 kc2 (G1.out.kept (by exact blBy)) (G2.out.kept (by exact blBy)) (fun W hW cs ds x y => sameValT d HE.out W Z Z2 cs ds x y)).mono ?_
  rintro e w1 ⟨r1, rfl, hr, hb⟩
  have HR := hid hr
  clear hr
  have Bx : Blk w1 w.heap.size 29 #[.int .i64 x.num, .slice ka1 x.ks.length kc1, .slice va1 x.vs.length vc1] := ((Blk.new _ _ _).kept (below_alloc _)).kept hb
  have By : Blk w1 (w.heap.size + 1) 29 #[.int .i64 y.num, .slice ka2 y.ks.length kc2, .slice va2 y.vs.length vc2] := (Blk.newAt (by simp)).kept hb
  have hbz : Hid (Below w.heap.size w w1) := hid (bl_then (by exact blBy) hb)
  clear hb
  cases r1 with
  | false =>
    have HX : Hid (¬ x.ks = y.ks) := hid (fun e => (by have := HR.out.2 e; cases this))
    clear HR
    go_wp2
    go_ret
    exact EqR.no (fun e => HX.out (by rw [e])) hbz.out
  | true =>
  have e2 : Hid (x.ks = y.ks) := hid (HR.out.1 rfl)
  clear HR
  have xx := Bx.cellF
  have zx := Bx.lt
  have xy := By.cellF
  have zy := By.lt
  go_wp2_with fail
  refine (eqfV _ Z Z2 d x.vs y.vs va1 va2 vc1 vc2 (M1.out.kept hbz.out) (M2.out.kept hbz.out) (fun W hW cs ds x y => sameValT d HE.out W Z Z2 cs ds x y)).mono ?_
  rintro e w2 ⟨r2, rfl, hr, hb⟩
  have HR := hid hr
  clear hr
  replace Bx := Bx.kept hb
  replace By := By.kept hb
  replace hbz : Hid (Below w.heap.size w w2) := hid (bl_then (by have := hbz.out; exact blBy) hb)
  clear xx zx xy zy
  clear hb
  cases r2 with
  | false =>
    have HX : Hid (¬ x.vs = y.vs) := hid (fun e => (by have := HR.out.2 e; cases this))
    clear HR
    go_wp2
    go_ret
    exact EqR.no (fun e => HX.out (by rw [e])) hbz.out
  | true =>
  have e3 : Hid (x.vs = y.vs) := hid (HR.out.1 rfl)
  clear HR
  go_wp2
  go_ret
  exact EqR.yes (CF.ext3 He1.out e2.out e3.out) hbz.out
theorem equalT : ∀ d, EqAt d
  | 0 => fun _ _ _ _ _ _ _ h => h.elim
  | d + 1 => fun w Z Z2 cs ds x y h1 h2 => by
    have HE := hid (equalT d)
    obtain ⟨ka1, kc1, va1, vc1, rfl, g1, m1, -⟩ := msg_open h1
    obtain ⟨ka2, kc2, va2, vc2, rfl, g2, m2, -⟩ := msg_open h2
    have G1 := hid g1
    have G2 := hid g2
    have M1 := hid m1
    have M2 := hid m2
    clear g1 g2 h1 h2 m1 m2
    go_enter Tryz.func24, Tryz.ntmps24
    go_wp2_with fail
    refine (eqfF _ Z Z2 d x.fs y.fs ka1 ka2 kc1 kc2 (G1.out.kept (by exact blBy)) (G2.out.kept (by exact blBy)) (fun W hW cs ds x y => sameFieldT d HE.out W Z Z2 cs ds x y)).mono ?_
    rintro e w1 ⟨r1, rfl, hr, hb⟩
    have HR := hid hr
    clear hr
    have Bx : Blk w1 w.heap.size 35 #[.slice ka1 x.fs.length kc1, .slice va1 x.us.length vc1] := ((Blk.new _ _ _).kept (below_alloc _)).kept hb
    have By : Blk w1 (w.heap.size + 1) 35 #[.slice ka2 y.fs.length kc2, .slice va2 y.us.length vc2] := (Blk.newAt (by simp)).kept hb
    have hbz : Hid (Below w.heap.size w w1) := hid (bl_then (by exact blBy) hb)
    clear hb
    cases r1 with
    | false =>
      have HX : Hid (¬ x.fs = y.fs) := hid (fun e => (by have := HR.out.2 e; cases this))
      clear HR
      go_wp2
      go_ret
      exact EqR.no (fun e => HX.out (by rw [e])) hbz.out
    | true =>
    have e2 : Hid (x.fs = y.fs) := hid (HR.out.1 rfl)
    clear HR
    have xx := Bx.cellF
    have zx := Bx.lt
    have xy := By.cellF
    have zy := By.lt
    go_wp2_with fail
    refine (eqfE _ Z Z2 x.us y.us va1 va2 vc1 vc2 (M1.out.kept hbz.out) (M2.out.kept hbz.out) (fun W hW cs ds x y => sameEntryT W Z Z2 cs ds x y)).mono ?_
    rintro e w2 ⟨r2, rfl, hr, hb⟩
    have HR := hid hr
    clear hr
    replace Bx := Bx.kept hb
    replace By := By.kept hb
    replace hbz : Hid (Below w.heap.size w w2) := hid (bl_then (by have := hbz.out; exact blBy) hb)
    clear xx zx xy zy
    clear hb
    cases r2 with
    | false =>
      have HX : Hid (¬ x.us = y.us) := hid (fun e => (by have := HR.out.2 e; cases this))
      clear HR
      go_wp2
      go_ret
      exact EqR.no (fun e => HX.out (by rw [e])) hbz.out
    | true =>
    have e3 : Hid (x.us = y.us) := hid (HR.out.1 rfl)
    clear HR
    go_wp2
    go_ret
    exact EqR.yes (CM.ext e2.out e3.out) hbz.out
end Go.Proofs.YtnfdlnelfnigdaaGreatDoor
namespace Go.Proofs.YtnfdlnelfnigdaaGreatDoor
open Go.RowKit
set_option maxRecDepth 1000000
set_option linter.unusedVariables false
set_option linter.unusedSimpArgs false
set_option maxHeartbeats 2000000
theorem msgOne {W : World} {p d : Nat} {cs : List Value} {f : CF CM} (B : Blk W p 29 cs.toArray) (hf : FldE W AnyZ (MsgE W AnyZ d) cs f) (hl : cs.length = 3) : MsgE W AnyZ (d + 1) [.slice (some ⟨p, 0, none⟩) 1 1, .slice none 0 0] (CM.mk [f] []) := ⟨_, _, rfl, rowM_one B hl hf, RowM.nil _ _ _ _⟩
theorem msgTwo {W : World} {p d : Nat} {cs ds : List Value} {f g : CF CM} {es : Array Value} (B : Blk W p 29 es) (he : es = (cs ++ ds).toArray) (hf : FldE W AnyZ (MsgE W AnyZ d) cs f) (hg : FldE W AnyZ (MsgE W AnyZ d) ds g) (hl : cs.length = 3) (hl2 : ds.length = 3) : MsgE W AnyZ (d + 1) [.slice (some ⟨p, 0, none⟩) 2 2, .slice none 0 0] (CM.mk [f, g] []) := ⟨_, _, rfl, rowM_two B he hl hl2 hf hg, RowM.nil _ _ _ _⟩
def m5 : CM := CM.mk [nF 1 5] []
def m6 : CM := CM.mk [nF 1 6] []
def m40 : CM := CM.mk [nF 1 1099511627776] []
theorem kept5 (h : Nat) : keptB (simL h) 1 (simM h) m5 = true := by kernel_rfl
theorem kept40 (h : Nat) : keptB (simL h) 1 (simM h) m40 = false := by kernel_rfl
theorem ne56 : ¬ m5 = m6 := by
  intro h
  simp [m5, m6, nF] at h
theorem EqR.val {w : World} {P : Prop} {e : Ending} {w' : World} (h : EqR w P e w') (b : Bool) (hb : b = true ↔ P) : e = .returned (.bool b) ∧ Below w.heap.size w w' := by
  obtain ⟨r, he, hr, hx⟩ := h
  have : r = b := by rw [Bool.eq_iff_iff, hr, hb]
  exact ⟨by rw [he, this], hx⟩
theorem awake8 (w : World) (mx : Int) (hm0 : w.cell? ⟨0, 0, none⟩ = some (.int .i64 mx)) : Calls Tryz.prog 7 #[] w fun e w' => e = .returned (.bool true) ∧ Below w.heap.size w w' := by
  have HM := hid hm0
  have i1 : I64 1 := by unfold I64; omega
  clear hm0
  go_enter Tryz.func7, Tryz.ntmps7
  go_wp2_with fail
  refine (nW _ 1 5 i1 5 rfl ⟨by decide, by decide⟩ 0).mono ?_
  rintro e w1 ⟨cs, rfl, hl, hf, hbx⟩
  have hb1 : Hid (Below w.heap.size w w1) := hid (bl_then (by exact blBy) hbx)
  obtain ⟨ka1, kc1, va1, vc1, rfl, -⟩ := fld_open hf
  have HF1 := hid hf
  clear hf hl hbx
  go_wp2_with fail
  refine (msgW _ _ _ _).mono ?_
  rintro e w2 ⟨rfl, hbx⟩
  have hb2 : Hid (Below w.heap.size w w2) := hid (bl_then (by have := hb1.out; exact blBy) hbx)
  have HG2 := hid (msgOne ((Blk.new w1 29 _).kept hbx) (HF1.out.kept (bl_then (below_alloc _) hbx)) rfl)
  clear hbx
  go_wp2_with fail
  refine (typedLW _ mx (cell_below HM.out (by have := hb2.out; exact blBy)) AnyZ 1 _ _ HG2.out true true kept5).mono ?_
  rintro e w3 ⟨rfl, hbx⟩
  have hb3 : Hid (Below w.heap.size w w3) := hid (bl_then (by have := hb2.out; exact blBy) hbx)
  clear hbx
  go_wp2_with fail
  refine (nW _ 1 1099511627776 i1 1099511627776 rfl ⟨by decide, by decide⟩ 0).mono ?_
  rintro e w4 ⟨cs, rfl, hl, hf, hbx⟩
  have hb4 : Hid (Below w.heap.size w w4) := hid (bl_then (by have := hb3.out; exact blBy) hbx)
  obtain ⟨ka4, kc4, va4, vc4, rfl, -⟩ := fld_open hf
  have HF4 := hid hf
  clear hf hl hbx
  go_wp2_with fail
  refine (msgW _ _ _ _).mono ?_
  rintro e w5 ⟨rfl, hbx⟩
  have hb5 : Hid (Below w.heap.size w w5) := hid (bl_then (by have := hb4.out; exact blBy) hbx)
  have HG5 := hid (msgOne ((Blk.new w4 29 _).kept hbx) (HF4.out.kept (bl_then (below_alloc _) hbx)) rfl)
  clear hbx
  go_wp2_with fail
  refine (typedLW _ mx (cell_below HM.out (by have := hb5.out; exact blBy)) AnyZ 1 _ _ HG5.out false false kept40).mono ?_
  rintro e w6 ⟨rfl, hbx⟩
  have hb6 : Hid (Below w.heap.size w w6) := hid (bl_then (by have := hb5.out; exact blBy) hbx)
  clear hbx
  go_wp2_with fail
  refine (nW _ 1 5 i1 5 rfl ⟨by decide, by decide⟩ 0).mono ?_
  rintro e w7 ⟨cs, rfl, hl, hf, hbx⟩
  have hb7 : Hid (Below w.heap.size w w7) := hid (bl_then (by have := hb6.out; exact blBy) hbx)
  obtain ⟨ka7, kc7, va7, vc7, rfl, -⟩ := fld_open hf
  have HF7 := hid hf
  clear hf hl hbx
  go_wp2_with fail
  refine (msgW _ _ _ _).mono ?_
  rintro e w8 ⟨rfl, hbx⟩
  have hb8 : Hid (Below w.heap.size w w8) := hid (bl_then (by have := hb7.out; exact blBy) hbx)
  have HG8 := hid (msgOne ((Blk.new w7 29 _).kept hbx) (HF7.out.kept (bl_then (below_alloc _) hbx)) rfl)
  clear hbx
  go_wp2_with fail
  refine (nW _ 1 5 i1 5 rfl ⟨by decide, by decide⟩ 0).mono ?_
  rintro e w9 ⟨cs, rfl, hl, hf, hbx⟩
  have hb9 : Hid (Below w.heap.size w w9) := hid (bl_then (by have := hb8.out; exact blBy) hbx)
  replace HG8 := hid (HG8.out.kept (bl_then (by exact blBy) hbx))
  obtain ⟨ka9, kc9, va9, vc9, rfl, -⟩ := fld_open hf
  have HF9 := hid hf
  clear hf hl hbx
  go_wp2_with fail
  refine (msgW _ _ _ _).mono ?_
  rintro e w10 ⟨rfl, hbx⟩
  have hb10 : Hid (Below w.heap.size w w10) := hid (bl_then (by have := hb9.out; exact blBy) hbx)
  replace HG8 := hid (HG8.out.kept (bl_then (by exact blBy) hbx))
  have HG10 := hid (msgOne ((Blk.new w9 29 _).kept hbx) (HF9.out.kept (bl_then (below_alloc _) hbx)) rfl)
  clear hbx
  go_wp2_with fail
  refine ((equalT 1 _ AnyZ AnyZ _ _ _ _ HG8.out HG10.out)).mono ?_
  rintro e w11 he
  have hb11 : Hid (Below w.heap.size w w11) := hid (bl_then (by have := hb10.out; exact blBy) (EqR.val he true ⟨fun _ => rfl, fun _ => rfl⟩).2)
  obtain ⟨rfl, hbx⟩ := EqR.val he true ⟨fun _ => rfl, fun _ => rfl⟩
  clear he hbx
  go_wp2_with fail
  refine (nW _ 1 5 i1 5 rfl ⟨by decide, by decide⟩ 0).mono ?_
  rintro e w12 ⟨cs, rfl, hl, hf, hbx⟩
  have hb12 : Hid (Below w.heap.size w w12) := hid (bl_then (by have := hb11.out; exact blBy) hbx)
  obtain ⟨ka12, kc12, va12, vc12, rfl, -⟩ := fld_open hf
  have HF12 := hid hf
  clear hf hl hbx
  go_wp2_with fail
  refine (msgW _ _ _ _).mono ?_
  rintro e w13 ⟨rfl, hbx⟩
  have hb13 : Hid (Below w.heap.size w w13) := hid (bl_then (by have := hb12.out; exact blBy) hbx)
  have HG13 := hid (msgOne ((Blk.new w12 29 _).kept hbx) (HF12.out.kept (bl_then (below_alloc _) hbx)) rfl)
  clear hbx
  go_wp2_with fail
  refine (nW _ 1 6 i1 6 rfl ⟨by decide, by decide⟩ 0).mono ?_
  rintro e w14 ⟨cs, rfl, hl, hf, hbx⟩
  have hb14 : Hid (Below w.heap.size w w14) := hid (bl_then (by have := hb13.out; exact blBy) hbx)
  replace HG13 := hid (HG13.out.kept (bl_then (by exact blBy) hbx))
  obtain ⟨ka14, kc14, va14, vc14, rfl, -⟩ := fld_open hf
  have HF14 := hid hf
  clear hf hl hbx
  go_wp2_with fail
  refine (msgW _ _ _ _).mono ?_
  rintro e w15 ⟨rfl, hbx⟩
  have hb15 : Hid (Below w.heap.size w w15) := hid (bl_then (by have := hb14.out; exact blBy) hbx)
  replace HG13 := hid (HG13.out.kept (bl_then (by exact blBy) hbx))
  have HG15 := hid (msgOne ((Blk.new w14 29 _).kept hbx) (HF14.out.kept (bl_then (below_alloc _) hbx)) rfl)
  clear hbx
  go_wp2_with fail
  refine ((equalT 1 _ AnyZ AnyZ _ _ _ _ HG13.out HG15.out)).mono ?_
  rintro e w16 he
  have hb16 : Hid (Below w.heap.size w w16) := hid (bl_then (by have := hb15.out; exact blBy) (EqR.val he false ⟨fun h => absurd h (by decide), fun h => absurd h ne56⟩).2)
  obtain ⟨rfl, hbx⟩ := EqR.val he false ⟨fun h => absurd h (by decide), fun h => absurd h ne56⟩
  clear he hbx
  go_wp2
  go_ret
  exact ⟨rfl, hb16.out⟩
end Go.Proofs.YtnfdlnelfnigdaaGreatDoor
namespace Go.Proofs.YtnfdlnelfnigdaaGreatDoor
open Go.RowKit
set_option maxRecDepth 1000000
set_option linter.unusedVariables false
set_option linter.unusedSimpArgs false
set_option maxHeartbeats 4000000
theorem emptyD (w : World) (Z : Nat → Prop) (d : Nat) (cs : List Value) (m : CM) (hm : MsgE w Z d cs m) : Calls Tryz.prog 16 #[.agg cs.toArray] w fun e w' => e = .returned (.bool (((m.fs.length : Int) == 0) && ((m.us.length : Int) == 0))) ∧ Below w.heap.size w w' := by
  have hd : ∃ k, d = k + 1 := by
    cases d with
    | zero => exact hm.elim
    | succ k => exact ⟨k, rfl⟩
  obtain ⟨k, rfl⟩ := hd
  obtain ⟨fa, fc, ua, uc, rfl, -, -, l1, l2⟩ := msg_open hm
  clear hm
  have m1 : (m.fs.length : Int) ≤ 9223372036854775807 := by omega
  have m2 : (m.us.length : Int) ≤ 9223372036854775807 := by omega
  go_enter Tryz.func16, Tryz.ntmps16
  go_wp2
  all_goals (go_ret; exact ⟨ret_bool (by simp [*]), by exact blBy⟩)
def fL : CF CM := ⟨2, [], [⟨1, [], []⟩, ⟨2, [], []⟩]⟩
def fT : CF CM := ⟨1, [], [⟨1, [], []⟩, ⟨2, [], []⟩]⟩
def mE : CM := CM.mk [] []
def mX : CM := CM.mk [] [⟨1, 0, 5, []⟩]
def mY : CM := CM.mk [] [⟨1, 2, 0, [1]⟩]
def mS : CM := CM.mk [nF 1 0, ⟨2, [], []⟩] []
theorem kp9 (h : Nat) : keptB (simL h) 1 (simM h) (CM.mk [nF 9 1] []) = false := by kernel_rfl
theorem kpL (h : Nat) : keptB (simL h) 1 (simM h) (CM.mk [fL] []) = true := by kernel_rfl
theorem kpT (h : Nat) : keptB (simL h) 1 (simM h) (CM.mk [fT] []) = false := by kernel_rfl
theorem no0 (h : Nat) : normB (simL h) 1 (simM h) (CM.mk [nF 1 0] []) = false := by kernel_rfl
theorem noI (h : Nat) : normB (simL h) 2 (simM h) (CM.mk [inF 3 mE] []) = true := by kernel_rfl
theorem noX (h : Nat) : normB (simL h) 1 (simM h) mX = false := by kernel_rfl
theorem noY (h : Nat) : normB (simL h) 1 (simM h) mY = true := by kernel_rfl
theorem kpS8 (h : Nat) : keptB (simL h) 1 (simM h) mS = true := by kernel_rfl
theorem seS (h : Nat) : setM (simL h) 1 (simM h) mS = mE := by kernel_rfl
theorem msgE0 (W : World) (d : Nat) : MsgE W AnyZ (d + 1) [.slice none 0 0, .slice none 0 0] mE := ⟨_, _, rfl, RowM.nil _ _ _ _, RowM.nil _ _ _ _⟩
theorem fldTwo {W : World} {p : Nat} (d : Nat) (k : Int) (hk : I64 k) (B : Blk W p 26 #[.int .u64 1, .slice none 0 0, .slice none 0 0, .int .u64 2, .slice none 0 0, .slice none 0 0]) : FldE W AnyZ (MsgE W AnyZ d) [.int .i64 k, .slice none 0 0, .slice (some ⟨p, 0, none⟩) 2 2] ⟨k, [], [⟨1, [], []⟩, ⟨2, [], []⟩]⟩ := ⟨_, _, rfl, RowM.nil _ _ _ _, rowM_two (cs := [.int .u64 1, .slice none 0 0, .slice none 0 0]) (ds := [.int .u64 2, .slice none 0 0, .slice none 0 0]) B rfl rfl rfl (val_num _ _ _ 1 ⟨by decide, by decide⟩) (val_num _ _ _ 2 ⟨by decide, by decide⟩), hk⟩
theorem msgU {W : World} {p d : Nat} {cs : List Value} {x : CE} (B : Blk W p 40 cs.toArray) (he : EntE W AnyZ cs x) (hl : cs.length = 4) : MsgE W AnyZ (d + 1) [.slice none 0 0, .slice (some ⟨p, 0, none⟩) 1 1] (CM.mk [] [x]) := ⟨_, _, rfl, RowM.nil _ _ _ _, rowM_one B hl he⟩
theorem entX (W : World) : EntE W AnyZ [.int .i64 1, .int .i64 0, .int .u64 5, .slice none 0 0] ⟨1, 0, 5, []⟩ := ⟨_, rfl, by_nil _ _, ⟨by decide, by decide⟩, ⟨by decide, by decide⟩, ⟨by decide, by decide⟩⟩
theorem entY {W : World} {p : Nat} (B : Blk W p 5 #[.int .u8 1]) : EntE W AnyZ [.int .i64 1, .int .i64 2, .int .u64 0, .slice (some ⟨p, 0, none⟩) 1 1] ⟨1, 2, 0, [1]⟩ := ⟨_, rfl, ⟨rowOf B 1 1 _ rfl rfl (by decide), by simp, by simp⟩, ⟨by decide, by decide⟩, ⟨by decide, by decide⟩, ⟨by decide, by decide⟩⟩
theorem settleSim (w : World) (mx : Int) (hm0 : w.cell? ⟨0, 0, none⟩ = some (.int .i64 mx)) (h : Nat) (a : Option Addr) (hT : TbR w (.slice a (simL h).length 2) (simL h)) (Z : Nat → Prop) (d : Nat) (cs : List Value) (m r : CM) (hm : MsgE w Z d cs m) (hk : keptB (simL h) d (simM h) m = true) (hr : setM (simL h) d (simM h) m = r) : Calls Tryz.prog 13 #[.agg #[.slice a (simL h).length 2], .int .i64 1, .agg cs.toArray] w fun e w' => ∃ ds : List Value, e = .returned (.tuple #[.agg ds.toArray, .int .i64 0]) ∧ MsgE w' (w.heap.size ≤ ·) d ds r ∧ Below w.heap.size w w' := by
  have := settleOk w (simL h) a 2 hT (simOk h) mx hm0 1 (by show 1 < 2; decide) (simGood h) rfl Z d cs m hm hk
  rw [show setM (simL h) d ((simL h)[1]'(by show 1 < 2; decide)) m = r from hr] at this
  exact this
theorem modelKnownW (w : World) (mx : Int) (hm0 : w.cell? ⟨0, 0, none⟩ = some (.int .i64 mx)) : Calls Tryz.prog 3 #[] w fun e w' => e = .returned (.bool true) ∧ Below w.heap.size w w' := by
  have HM := hid hm0
  clear hm0
  go_enter Tryz.func3, Tryz.ntmps3
  go_wp2_with fail
  refine (awake8 _ mx (cell_below HM.out (by exact blBy))).mono ?_
  rintro e w1 ⟨rfl, hbx⟩
  have Bla : Hid (Blk w1 (w.heap.size) 26 #[.int .u64 1, .slice none 0 0, .slice none 0 0, .int .u64 2, .slice none 0 0, .slice none 0 0]) := hid (((((Blk.new _ _ _).kept (below_alloc _)).kept (below_alloc _)).kept (below_alloc _)).kept hbx)
  have Blb : Hid (Blk w1 (w.heap.size + 1) 29 #[.int .i64 2, .slice none 0 0, .slice (some ⟨w.heap.size, 0, none⟩) 2 2]) := hid ((((Blk.newAt (by simp)).kept (below_alloc _)).kept (below_alloc _)).kept hbx)
  have Bta : Hid (Blk w1 (w.heap.size + 1 + 1) 26 #[.int .u64 1, .slice none 0 0, .slice none 0 0, .int .u64 2, .slice none 0 0, .slice none 0 0]) := hid (((Blk.newAt (by simp)).kept (below_alloc _)).kept hbx)
  have Btb : Hid (Blk w1 (w.heap.size + 1 + 1 + 1) 29 #[.int .i64 1, .slice none 0 0, .slice (some ⟨w.heap.size + 1 + 1, 0, none⟩) 2 2]) := hid ((Blk.newAt (by simp)).kept hbx)
  have hb1 : Hid (Below w.heap.size w w1) := hid (bl_then (by exact blBy) hbx)
  clear hbx
  have xla := Bla.out.cellF
  have zla := Bla.out.lt
  have xlb := Blb.out.cellF
  have zlb := Blb.out.lt
  have xta := Bta.out.cellF
  have zta := Bta.out.lt
  have xtb := Btb.out.cellF
  have ztb := Btb.out.lt
  go_wp2_with fail
  clear xla zla xlb zlb xta zta xtb ztb
  refine (nW _ 9 1 (by unfold I64; omega) 1 rfl ⟨by decide, by decide⟩ 0).mono ?_
  rintro e w2 ⟨cs, rfl, hl, hf, hbx⟩
  have hb2 : Hid (Below w.heap.size w w2) := hid (bl_then (by have := hb1.out; exact blBy) hbx)
  replace Bla := hid (Bla.out.kept (bl_then (by exact blBy) hbx))
  replace Blb := hid (Blb.out.kept (bl_then (by exact blBy) hbx))
  replace Bta := hid (Bta.out.kept (bl_then (by exact blBy) hbx))
  replace Btb := hid (Btb.out.kept (bl_then (by exact blBy) hbx))
  obtain ⟨ka2, kc2, va2, vc2, rfl, -⟩ := fld_open hf
  have HF2 := hid hf
  clear hf hl hbx
  have xla := Bla.out.cellF
  have zla := Bla.out.lt
  have xlb := Blb.out.cellF
  have zlb := Blb.out.lt
  have xta := Bta.out.cellF
  have zta := Bta.out.lt
  have xtb := Btb.out.cellF
  have ztb := Btb.out.lt
  go_wp2_with fail
  clear xla zla xlb zlb xta zta xtb ztb
  refine (msgW _ _ _ _).mono ?_
  rintro e w3 ⟨rfl, hbx⟩
  have hb3 : Hid (Below w.heap.size w w3) := hid (bl_then (by have := hb2.out; exact blBy) hbx)
  replace HF2 := hid (HF2.out.kept (bl_then (by exact blBy) hbx))
  replace Bla := hid (Bla.out.kept (bl_then (by exact blBy) hbx))
  replace Blb := hid (Blb.out.kept (bl_then (by exact blBy) hbx))
  replace Bta := hid (Bta.out.kept (bl_then (by exact blBy) hbx))
  replace Btb := hid (Btb.out.kept (bl_then (by exact blBy) hbx))
  have HG3 := hid (msgOne ((Blk.new w2 29 _).kept hbx) HF2.out rfl)
  clear hbx
  have xla := Bla.out.cellF
  have zla := Bla.out.lt
  have xlb := Blb.out.cellF
  have zlb := Blb.out.lt
  have xta := Bta.out.cellF
  have zta := Bta.out.lt
  have xtb := Btb.out.cellF
  have ztb := Btb.out.lt
  go_wp2_with fail
  clear xla zla xlb zlb xta zta xtb ztb
  refine (typedLW _ mx (cell_below HM.out (by have := hb3.out; exact blBy)) AnyZ 1 _ _ HG3.out false false kp9).mono ?_
  rintro e w4 ⟨rfl, hbx⟩
  have hb4 : Hid (Below w.heap.size w w4) := hid (bl_then (by have := hb3.out; exact blBy) hbx)
  replace Bla := hid (Bla.out.kept (bl_then (by exact blBy) hbx))
  replace Blb := hid (Blb.out.kept (bl_then (by exact blBy) hbx))
  replace Bta := hid (Bta.out.kept (bl_then (by exact blBy) hbx))
  replace Btb := hid (Btb.out.kept (bl_then (by exact blBy) hbx))
  clear hbx
  have xla := Bla.out.cellF
  have zla := Bla.out.lt
  have xlb := Blb.out.cellF
  have zlb := Blb.out.lt
  have xta := Bta.out.cellF
  have zta := Bta.out.lt
  have xtb := Btb.out.cellF
  have ztb := Btb.out.lt
  go_wp2_with fail
  clear xla zla xlb zlb xta zta xtb ztb
  refine (msgW _ _ _ _).mono ?_
  rintro e w5 ⟨rfl, hbx⟩
  have hb5 : Hid (Below w.heap.size w w5) := hid (bl_then (by have := hb4.out; exact blBy) hbx)
  replace Bla := hid (Bla.out.kept (bl_then (by exact blBy) hbx))
  replace Blb := hid (Blb.out.kept (bl_then (by exact blBy) hbx))
  replace Bta := hid (Bta.out.kept (bl_then (by exact blBy) hbx))
  replace Btb := hid (Btb.out.kept (bl_then (by exact blBy) hbx))
  have HG5 := hid (msgOne (f := fL) ((Blk.new w4 29 _).kept hbx) (fldTwo 0 2 (by unfold I64; omega) Bla.out) rfl)
  clear hbx
  have xla := Bla.out.cellF
  have zla := Bla.out.lt
  have xlb := Blb.out.cellF
  have zlb := Blb.out.lt
  have xta := Bta.out.cellF
  have zta := Bta.out.lt
  have xtb := Btb.out.cellF
  have ztb := Btb.out.lt
  go_wp2_with fail
  clear xla zla xlb zlb xta zta xtb ztb
  refine (typedLW _ mx (cell_below HM.out (by have := hb5.out; exact blBy)) AnyZ 1 _ _ HG5.out true true kpL).mono ?_
  rintro e w6 ⟨rfl, hbx⟩
  have hb6 : Hid (Below w.heap.size w w6) := hid (bl_then (by have := hb5.out; exact blBy) hbx)
  replace Bla := hid (Bla.out.kept (bl_then (by exact blBy) hbx))
  replace Blb := hid (Blb.out.kept (bl_then (by exact blBy) hbx))
  replace Bta := hid (Bta.out.kept (bl_then (by exact blBy) hbx))
  replace Btb := hid (Btb.out.kept (bl_then (by exact blBy) hbx))
  clear hbx
  have xla := Bla.out.cellF
  have zla := Bla.out.lt
  have xlb := Blb.out.cellF
  have zlb := Blb.out.lt
  have xta := Bta.out.cellF
  have zta := Bta.out.lt
  have xtb := Btb.out.cellF
  have ztb := Btb.out.lt
  go_wp2_with fail
  clear xla zla xlb zlb xta zta xtb ztb
  refine (msgW _ _ _ _).mono ?_
  rintro e w7 ⟨rfl, hbx⟩
  have hb7 : Hid (Below w.heap.size w w7) := hid (bl_then (by have := hb6.out; exact blBy) hbx)
  replace Bla := hid (Bla.out.kept (bl_then (by exact blBy) hbx))
  replace Blb := hid (Blb.out.kept (bl_then (by exact blBy) hbx))
  replace Bta := hid (Bta.out.kept (bl_then (by exact blBy) hbx))
  replace Btb := hid (Btb.out.kept (bl_then (by exact blBy) hbx))
  have HG7 := hid (msgOne (f := fT) ((Blk.new w6 29 _).kept hbx) (fldTwo 0 1 (by unfold I64; omega) Bta.out) rfl)
  clear hbx
  have xla := Bla.out.cellF
  have zla := Bla.out.lt
  have xlb := Blb.out.cellF
  have zlb := Blb.out.lt
  have xta := Bta.out.cellF
  have zta := Bta.out.lt
  have xtb := Btb.out.cellF
  have ztb := Btb.out.lt
  go_wp2_with fail
  clear xla zla xlb zlb xta zta xtb ztb
  refine (typedLW _ mx (cell_below HM.out (by have := hb7.out; exact blBy)) AnyZ 1 _ _ HG7.out false false kpT).mono ?_
  rintro e w8 ⟨rfl, hbx⟩
  have hb8 : Hid (Below w.heap.size w w8) := hid (bl_then (by have := hb7.out; exact blBy) hbx)
  replace Bla := hid (Bla.out.kept (bl_then (by exact blBy) hbx))
  replace Blb := hid (Blb.out.kept (bl_then (by exact blBy) hbx))
  replace Bta := hid (Bta.out.kept (bl_then (by exact blBy) hbx))
  replace Btb := hid (Btb.out.kept (bl_then (by exact blBy) hbx))
  clear hbx
  go_wp2_with fail
  refine (nW _ 1 0 (by unfold I64; omega) 0 rfl ⟨by decide, by decide⟩ 0).mono ?_
  rintro e w9 ⟨cs, rfl, hl, hf, hbx⟩
  have hb9 : Hid (Below w.heap.size w w9) := hid (bl_then (by have := hb8.out; exact blBy) hbx)
  obtain ⟨ka9, kc9, va9, vc9, rfl, -⟩ := fld_open hf
  have HF9 := hid hf
  clear hf hl hbx
  go_wp2_with fail
  refine (msgW _ _ _ _).mono ?_
  rintro e w10 ⟨rfl, hbx⟩
  have hb10 : Hid (Below w.heap.size w w10) := hid (bl_then (by have := hb9.out; exact blBy) hbx)
  replace HF9 := hid (HF9.out.kept (bl_then (by exact blBy) hbx))
  have HG10 := hid (msgOne ((Blk.new w9 29 _).kept hbx) HF9.out rfl)
  clear hbx
  go_wp2_with fail
  refine (normalLW _ mx (cell_below HM.out (by have := hb10.out; exact blBy)) AnyZ 1 _ _ HG10.out false false no0).mono ?_
  rintro e w11 ⟨rfl, hbx⟩
  have hb11 : Hid (Below w.heap.size w w11) := hid (bl_then (by have := hb10.out; exact blBy) hbx)
  clear hbx
  go_wp2_with fail
  refine (inW _ 3 (by unfold I64; omega) AnyZ 1 _ _ (msgE0 _ 0)).mono ?_
  rintro e w12 ⟨cs, rfl, hl, hf, hbx⟩
  have hb12 : Hid (Below w.heap.size w w12) := hid (bl_then (by have := hb11.out; exact blBy) hbx)
  obtain ⟨ka12, kc12, va12, vc12, rfl, -⟩ := fld_open hf
  have HF12 := hid hf
  clear hf hl hbx
  go_wp2_with fail
  refine (msgW _ _ _ _).mono ?_
  rintro e w13 ⟨rfl, hbx⟩
  have hb13 : Hid (Below w.heap.size w w13) := hid (bl_then (by have := hb12.out; exact blBy) hbx)
  replace HF12 := hid (HF12.out.kept (bl_then (by exact blBy) hbx))
  have HG13 := hid (msgOne ((Blk.new w12 29 _).kept hbx) HF12.out rfl)
  clear hbx
  go_wp2_with fail
  refine (normalLW _ mx (cell_below HM.out (by have := hb13.out; exact blBy)) AnyZ 2 _ _ HG13.out true true noI).mono ?_
  rintro e w14 ⟨rfl, hbx⟩
  have hb14 : Hid (Below w.heap.size w w14) := hid (bl_then (by have := hb13.out; exact blBy) hbx)
  clear hbx
  go_wp2_with fail
  refine (normalLW _ mx (cell_below HM.out (by have := hb14.out; exact blBy)) AnyZ 1 _ _ (msgU (Blk.new w14 40 _) (entX _) rfl) false false noX).mono ?_
  rintro e w15 ⟨rfl, hbx⟩
  have hb15 : Hid (Below w.heap.size w w15) := hid (bl_then (by have := hb14.out; exact blBy) hbx)
  clear hbx
  go_wp2_with fail
  refine (normalLW _ mx (cell_below HM.out (by have := hb15.out; exact blBy)) AnyZ 1 _ _ (msgU (p := w15.heap.size + 1) (Blk.newAt (by simp)) (entY ((Blk.new w15 5 _).kept (below_alloc _))) rfl) true true noY).mono ?_
  rintro e w16 ⟨rfl, hbx⟩
  have hb16 : Hid (Below w.heap.size w w16) := hid (bl_then (by have := hb15.out; exact blBy) hbx)
  clear hbx
  go_wp2_with fail
  refine (simpleW _).mono ?_
  rintro e w17 ⟨rfl, ht, hbx⟩
  have hb17 : Hid (Below w.heap.size w w17) := hid (bl_then (by have := hb16.out; exact blBy) hbx)
  have HT := hid ht
  clear ht hbx
  -- simple
  go_wp2_with fail
  refine (nW _ 1 0 (by unfold I64; omega) 0 rfl ⟨by decide, by decide⟩ 0).mono ?_
  rintro e w18 ⟨cs, rfl, hl, hf, hbx⟩
  have hb18 : Hid (Below w.heap.size w w18) := hid (bl_then (by have := hb17.out; exact blBy) hbx)
  replace HT := hid (HT.out.kept (bl_then (by exact blBy) hbx))
  obtain ⟨ka18, kc18, va18, vc18, rfl, -⟩ := fld_open hf
  have HF18 := hid hf
  clear hf hl hbx
  go_wp2_with fail
  refine (msgW _ _ _ _).mono ?_
  rintro e w19 ⟨rfl, hbx⟩
  have hb19 : Hid (Below w.heap.size w w19) := hid (bl_then (by have := hb18.out; exact blBy) hbx)
  replace HT := hid (HT.out.kept (bl_then (by exact blBy) hbx))
  replace HF18 := hid (HF18.out.kept (bl_then (by exact blBy) hbx))
  have HG19 : Hid (MsgE w19 AnyZ 1 [.slice (some ⟨w18.heap.size, 0, none⟩) 2 2, .slice none 0 0] mS) := hid (msgTwo (f := nF 1 0) (g := ⟨2, [], []⟩) (ds := [.int .i64 2, .slice none 0 0, .slice none 0 0]) ((Blk.new w18 29 _).kept hbx) rfl HF18.out ⟨_, _, rfl, RowM.nil _ _ _ _, RowM.nil _ _ _ _, ⟨by decide, by decide⟩⟩ rfl rfl)
  clear hbx
  go_wp2_with fail
  refine (settleSim _ mx (cell_below HM.out (by have := hb19.out; exact blBy)) _ _ HT.out AnyZ 1 _ _ mE HG19.out (kpS8 _) (seS _)).mono ?_
  rintro e w20 ⟨ds, rfl, hn, hbx⟩
  have hb20 : Hid (Below w.heap.size w w20) := hid (bl_then (by have := hb19.out; exact blBy) hbx)
  replace HT := hid (HT.out.kept (bl_then (by exact blBy) hbx))
  clear hbx
  obtain ⟨fa, fc, ua, uc, rfl, -⟩ := msg_openD hn
  have HN := hid hn.any
  clear hn
  have HD1 := hid fun W => depthT 1 (by decide) W AnyZ _ mE (msgE0 W 0)
  go_wp2_with fail
  refine (HD1.out _).mono ?_
  rintro e w21 ⟨rfl, hbx⟩
  have Bs : Hid (Blk w21 w20.heap.size 35 #[.slice fa mE.fs.length fc, .slice ua mE.us.length uc]) := hid ((Blk.new _ _ _).kept hbx)
  have hb21 : Hid (Below w.heap.size w w21) := hid (bl_then (by have := hb20.out; exact blBy) hbx)
  replace HN := hid (HN.out.kept (bl_then (by exact blBy) hbx))
  clear hbx
  have xs := Bs.out.cellF
  have zs := Bs.out.lt
  go_wp2_with fail
  clear xs zs
  refine (inW _ 3 (by unfold I64; omega) AnyZ 1 _ _ (msgE0 _ 0)).mono ?_
  rintro e w22 ⟨cs, rfl, hl, hf, hbx⟩
  have hb22 : Hid (Below w.heap.size w w22) := hid (bl_then (by have := hb21.out; exact blBy) hbx)
  replace HN := hid (HN.out.kept (bl_then (by exact blBy) hbx))
  replace Bs := hid (Bs.out.kept (bl_then (by exact blBy) hbx))
  obtain ⟨ka22, kc22, va22, vc22, rfl, -⟩ := fld_open hf
  have HF22 := hid hf
  clear hf hl hbx
  have xs := Bs.out.cellF
  have zs := Bs.out.lt
  go_wp2_with fail
  clear xs zs
  refine (msgW _ _ _ _).mono ?_
  rintro e w23 ⟨rfl, hbx⟩
  have hb23 : Hid (Below w.heap.size w w23) := hid (bl_then (by have := hb22.out; exact blBy) hbx)
  replace HN := hid (HN.out.kept (bl_then (by exact blBy) hbx))
  replace HF22 := hid (HF22.out.kept (bl_then (by exact blBy) hbx))
  replace Bs := hid (Bs.out.kept (bl_then (by exact blBy) hbx))
  have HG23 := hid (msgOne ((Blk.new w22 29 _).kept hbx) HF22.out rfl)
  clear hbx
  have xs := Bs.out.cellF
  have zs := Bs.out.lt
  go_wp2_with fail
  clear xs zs
  refine (inW _ 3 (by unfold I64; omega) AnyZ 2 _ _ HG23.out).mono ?_
  rintro e w24 ⟨cs, rfl, hl, hf, hbx⟩
  have hb24 : Hid (Below w.heap.size w w24) := hid (bl_then (by have := hb23.out; exact blBy) hbx)
  replace HN := hid (HN.out.kept (bl_then (by exact blBy) hbx))
  replace HG23 := hid (HG23.out.kept (bl_then (by exact blBy) hbx))
  replace Bs := hid (Bs.out.kept (bl_then (by exact blBy) hbx))
  obtain ⟨ka24, kc24, va24, vc24, rfl, -⟩ := fld_open hf
  have HF24 := hid hf
  clear hf hl hbx
  have xs := Bs.out.cellF
  have zs := Bs.out.lt
  go_wp2_with fail
  clear xs zs
  refine (msgW _ _ _ _).mono ?_
  rintro e w25 ⟨rfl, hbx⟩
  have hb25 : Hid (Below w.heap.size w w25) := hid (bl_then (by have := hb24.out; exact blBy) hbx)
  replace HN := hid (HN.out.kept (bl_then (by exact blBy) hbx))
  replace HF24 := hid (HF24.out.kept (bl_then (by exact blBy) hbx))
  replace Bs := hid (Bs.out.kept (bl_then (by exact blBy) hbx))
  have HG25 := hid (msgOne ((Blk.new w24 29 _).kept hbx) HF24.out rfl)
  clear hbx
  have xs := Bs.out.cellF
  have zs := Bs.out.lt
  go_wp2_with fail
  clear xs zs
  refine (depthT 3 (by decide) _ AnyZ _ _ HG25.out).mono ?_
  rintro e w26 ⟨rfl, hbx⟩
  have hb26 : Hid (Below w.heap.size w w26) := hid (bl_then (by have := hb25.out; exact blBy) hbx)
  replace HN := hid (HN.out.kept (bl_then (by exact blBy) hbx))
  replace Bs := hid (Bs.out.kept (bl_then (by exact blBy) hbx))
  clear hbx
  have HDX : Hid (depM 3 (CM.mk [inF 3 (CM.mk [inF 3 mE] [])] []) = 3) := hid (by kernel_rfl)
  rw [HDX.out]
  have xs := Bs.out.cellF
  have zs := Bs.out.lt
  go_wp2_with fail
  clear xs zs
  refine (emptyD _ AnyZ 1 _ mE HN.out).mono ?_
  rintro e w27 ⟨rfl, hbx⟩
  have hb27 : Hid (Below w.heap.size w w27) := hid (bl_then (by have := hb26.out; exact blBy) hbx)
  replace HN := hid (HN.out.kept (bl_then (by exact blBy) hbx))
  replace Bs := hid (Bs.out.kept (bl_then (by exact blBy) hbx))
  clear hbx
  go_wp2
  go_ret
  exact ⟨rfl, hb27.out⟩
end Go.Proofs.YtnfdlnelfnigdaaGreatDoor
namespace Go.Proofs.YtnfdlnelfnigdaaGreatDoor
open Go.ChangeShapes Go.WideShapes Go.ChangeAt Go.RowKit
set_option maxRecDepth 1000000
set_option maxRecDepth 100000
/-- The rows' list. -/
def laidL : List (String × DataW Unit) := [("unicode/utf8.acceptRanges", Rows.laid_unicode_utf8_acceptRanges), ("unicode/utf8.first", Rows.laid_unicode_utf8_first)]
theorem laid_plain {W : World} (h : laidMetH Tryz.prog laidL W) : laidMet Tryz.prog laidL W := h
/-- A block's cells laid anew. -/
noncomputable def layAt (g : Nat) (cs : Array Value) (w : World) : World := { w with heap := w.heap.modify g fun
      | .cells _ t frozen => .cells cs t frozen
      | o => o }
def numV : DataW Unit → Value
  | .lit (.int k n) => .int k n
  | _ => undef
def rowV : DataW Unit → List Value
  | .agg ds => ds.map numV
  | _ => []
def rowsV : DataW Unit → List Value
  | .agg ds => ds.flatMap rowV
  | _ => []
noncomputable def laidWorld (os : Os) : World :=
  layAt 2 (List.toArray (rowsV Rows.laid_unicode_utf8_acceptRanges)) (layAt 1 (List.toArray (rowV Rows.laid_unicode_utf8_first)) (World.holding Tryz.prog os ⟨#[], #[], []⟩))
theorem laid_met (os : Os) (args : Array Value) : laidMet Tryz.prog laidL ((laidWorld os).forCall (fun _ _ => 0) ⟨#[], args, []⟩).memory :=
  laidMet_of_run' 8 (by kernel_rfl) (by kernel_rfl)
theorem maxLen_cell {W : World} (h : W.ShapedOpen Tryz.prog) : ∃ m, W.cell? ⟨0, 0, none⟩ = some (.int .i64 m) :=
  Go.Proofs.cell_of_shapedOpen_int (zero := #[.int .i64 0]) (t := 3) h (of_decide_eq_true (by kernel_rfl)) (by kernel_rfl) rfl (by kernel_rfl) (by kernel_rfl) Tryz.underlying3
end Go.Proofs.YtnfdlnelfnigdaaGreatDoor
