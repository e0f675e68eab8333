/-
  Equal: what the program answers, at every depth.
  Equal: what the document answers.
  Equal: what the document answers, at every depth.
  How deep a message is, as the walk reckons it.
  How deep a message is: the program's walk.
-/
import Derived.Test.YtnfdlnelfnigdaaGreatDoorCAB
import Derived.Deep.RegionWith
import Derived.BigQuiet
import Derived.Test.YtnfdlnelfnigdaaGreatDoorCNF
import Derived.Test.YtnfdlnelfnigdaaGreatDoorCAI
namespace Go.Proofs.YtnfdlnelfnigdaaGreatDoor
open Go.RowKit
set_option maxRecDepth 1000000
set_option linter.unusedVariables false
set_option linter.unusedSimpArgs false
set_option maxHeartbeats 1000000
theorem CE.ext4 {x y : CE} (h1 : x.num = y.num) (h2 : x.kind = y.kind) (h3 : x.n = y.n) (h4 : x.b = y.b) : x = y := by
  cases x; cases y; simp_all
theorem CV.ext3 {x y : CV CM} (h1 : x.n = y.n) (h2 : x.b = y.b) (h3 : x.ms = y.ms) : x = y := by
  cases x; cases y; simp_all
theorem CF.ext3 {x y : CF CM} (h1 : x.num = y.num) (h2 : x.ks = y.ks) (h3 : x.vs = y.vs) : x = y := by
  cases x; cases y; simp_all
/-- Equal's contract at a depth. -/
def EqAt (d : Nat) : Prop := ∀ (w : World) (Z Z2 : Nat → Prop) (cs ds : List Value) (m m' : CM), MsgE w Z d cs m → MsgE w Z2 d ds m' → Calls Tryz.prog 24 #[.agg cs.toArray, .agg ds.toArray] w (EqR w (m = m'))
theorem sameEntryT (w : World) (Z Z2 : Nat → Prop) (cs ds : List Value) (x y : CE) (h1 : EntE w Z cs x) (h2 : EntE w Z2 ds y) : Calls Tryz.prog 53 #[.agg cs.toArray, .agg ds.toArray] w (EqR w (x = y)) := by
  obtain ⟨ka1, kc1, rfl, g1, -⟩ := ent_open h1
  obtain ⟨ka2, kc2, rfl, g2, -⟩ := ent_open h2
  have G1 := hid g1
  have G2 := hid g2
  clear g1 g2 h1 h2
  go_enter Tryz.func53, Tryz.ntmps53
  by_cases e1 : x.num = y.num
  case neg =>
    have kq : (x.num == y.num) = false := by simpa using e1
    have HX := hid e1
    clear e1
    go_wp2
    go_ret
    exact EqR.no (fun e => HX.out (by rw [e])) (by exact blBy)
  have kqe1 : (x.num == y.num) = true := by simpa using e1
  have He1 := hid e1
  clear e1
  by_cases e2 : x.kind = y.kind
  case neg =>
    have kq : (x.kind == y.kind) = false := by simpa using e2
    have HX := hid e2
    clear e2
    go_wp2
    go_ret
    exact EqR.no (fun e => HX.out (by rw [e])) (by exact blBy)
  have kqe2 : (x.kind == y.kind) = true := by simpa using e2
  have He2 := hid e2
  clear e2
  by_cases e3 : x.n = y.n
  case neg =>
    have kq : (x.n == y.n) = false := by simpa using e3
    have HX := hid e3
    clear e3
    go_wp2
    go_ret
    exact EqR.no (fun e => HX.out (by rw [e])) (by exact blBy)
  have kqe3 : (x.n == y.n) = true := by simpa using e3
  have He3 := hid e3
  clear e3
  go_wp2_with fail
  refine (bytesEqT _ Z Z2 ka1 ka2 kc1 kc2 x.b y.b (G1.out.kept (by exact blBy)) (G2.out.kept (by exact blBy))).mono ?_
  rintro e w1 ⟨r1, rfl, hr, hb⟩
  have HR := hid hr
  clear hr
  have Bx : Blk w1 w.heap.size 40 #[.int .i64 x.num, .int .i64 x.kind, .int .u64 x.n, .slice ka1 x.b.length kc1] := ((Blk.new _ _ _).kept (below_alloc _)).kept hb
  have By : Blk w1 (w.heap.size + 1) 40 #[.int .i64 y.num, .int .i64 y.kind, .int .u64 y.n, .slice ka2 y.b.length kc2] := (Blk.newAt (by simp)).kept hb
  have hbz : Hid (Below w.heap.size w w1) := hid (bl_then (by exact blBy) hb)
  clear hb
  cases r1 with
  | false =>
    have HX : Hid (¬ x.b = y.b) := hid (fun e => (by have := HR.out.2 e; cases this))
    clear HR
    go_wp2
    go_ret
    exact EqR.no (fun e => HX.out (by rw [e])) hbz.out
  | true =>
  have e4 : Hid (x.b = y.b) := hid (HR.out.1 rfl)
  clear HR
  go_wp2
  go_ret
  exact EqR.yes (CE.ext4 He1.out He2.out He3.out e4.out) hbz.out
theorem sameValT (d : Nat) (HE : EqAt d) (w : World) (Z Z2 : Nat → Prop) (cs ds : List Value) (x y : CV CM) (h1 : ValE w Z (MsgE w Z d) cs x) (h2 : ValE w Z2 (MsgE w Z2 d) ds y) : Calls Tryz.prog 95 #[.agg cs.toArray, .agg ds.toArray] w (EqR w (x = y)) := by
  obtain ⟨ka1, kc1, va1, vc1, rfl, g1, m1, -⟩ := val_open h1
  obtain ⟨ka2, kc2, va2, vc2, rfl, g2, m2, -⟩ := val_open h2
  have G1 := hid g1
  have G2 := hid g2
  have M1 := hid m1
  have M2 := hid m2
  replace HE := hid HE
  clear g1 g2 h1 h2 m1 m2
  go_enter Tryz.func95, Tryz.ntmps95
  by_cases e1 : x.n = y.n
  case neg =>
    have kq : (x.n == y.n) = false := by simpa using e1
    have HX := hid e1
    clear e1
    go_wp2
    go_ret
    exact EqR.no (fun e => HX.out (by rw [e])) (by exact blBy)
  have kqe1 : (x.n == y.n) = true := by simpa using e1
  have He1 := hid e1
  clear e1
  go_wp2_with fail
  refine (bytesEqT _ Z Z2 ka1 ka2 kc1 kc2 x.b y.b (G1.out.kept (by exact blBy)) (G2.out.kept (by exact blBy))).mono ?_
  rintro e w1 ⟨r1, rfl, hr, hb⟩
  have HR := hid hr
  clear hr
  have Bx : Blk w1 w.heap.size 26 #[.int .u64 x.n, .slice ka1 x.b.length kc1, .slice va1 x.ms.length vc1] := ((Blk.new _ _ _).kept (below_alloc _)).kept hb
  have By : Blk w1 (w.heap.size + 1) 26 #[.int .u64 y.n, .slice ka2 y.b.length kc2, .slice va2 y.ms.length vc2] := (Blk.newAt (by simp)).kept hb
  have hbz : Hid (Below w.heap.size w w1) := hid (bl_then (by exact blBy) hb)
  clear hb
  cases r1 with
  | false =>
    have HX : Hid (¬ x.b = y.b) := hid (fun e => (by have := HR.out.2 e; cases this))
    clear HR
    go_wp2
    go_ret
    exact EqR.no (fun e => HX.out (by rw [e])) hbz.out
  | true =>
  have e2 : Hid (x.b = y.b) := hid (HR.out.1 rfl)
  clear HR
  have xx := Bx.cellF
  have zx := Bx.lt
  have xy := By.cellF
  have zy := By.lt
  go_wp2_with fail
  refine (eqfM _ Z Z2 d x.ms y.ms va1 va2 vc1 vc2 (M1.out.kept hbz.out) (M2.out.kept hbz.out) (fun W hW cs ds x y => HE.out W Z Z2 cs ds x y)).mono ?_
  rintro e w2 ⟨r2, rfl, hr, hb⟩
  have HR := hid hr
  clear hr
  replace Bx := Bx.kept hb
  replace By := By.kept hb
  replace hbz : Hid (Below w.heap.size w w2) := hid (bl_then (by have := hbz.out; exact blBy) hb)
  clear xx zx xy zy
  clear hb
  cases r2 with
  | false =>
    have HX : Hid (¬ x.ms = y.ms) := hid (fun e => (by have := HR.out.2 e; cases this))
    clear HR
    go_wp2
    go_ret
    exact EqR.no (fun e => HX.out (by rw [e])) hbz.out
  | true =>
  have e3 : Hid (x.ms = y.ms) := hid (HR.out.1 rfl)
  clear HR
  go_wp2
  go_ret
  exact EqR.yes (CV.ext3 He1.out e2.out e3.out) hbz.out
theorem sameFieldT (d : Nat) (HE : EqAt d) (w : World) (Z Z2 : Nat → Prop) (cs ds : List Value) (x y : CF CM) (h1 : FldE w Z (MsgE w Z d) cs x) (h2 : FldE w Z2 (MsgE w Z2 d) ds y) : Calls Tryz.prog 51 #[.agg cs.toArray, .agg ds.toArray] w (EqR w (x = y)) := by
  obtain ⟨ka1, kc1, va1, vc1, rfl, g1, m1, -⟩ := fld_open h1
  obtain ⟨ka2, kc2, va2, vc2, rfl, g2, m2, -⟩ := fld_open h2
  have G1 := hid g1
  have G2 := hid g2
  have M1 := hid m1
  have M2 := hid m2
  replace HE := hid HE
  clear g1 g2 h1 h2 m1 m2
  go_enter Tryz.func51, Tryz.ntmps51
  by_cases e1 : x.num = y.num
  case neg =>
    have kq : (x.num == y.num) = false := by simpa using e1
    have HX := hid e1
    clear e1
    go_wp2
    go_ret
    exact EqR.no (fun e => HX.out (by rw [e])) (by exact blBy)
  have kqe1 : (x.num == y.num) = true := by simpa using e1
  have He1 := hid e1
  clear e1
  go_wp2_with fail
  refine (eqfV _ Z Z2 d x.ks y.ks ka1 ka2 kc1 kc2 (G1.out.kept (by exact blBy)) (G2.out.kept (by exact blBy)) (fun W hW cs ds x y => sameValT d HE.out W Z Z2 cs ds x y)).mono ?_
  rintro e w1 ⟨r1, rfl, hr, hb⟩
  have HR := hid hr
  clear hr
  have Bx : Blk w1 w.heap.size 29 #[.int .i64 x.num, .slice ka1 x.ks.length kc1, .slice va1 x.vs.length vc1] := ((Blk.new _ _ _).kept (below_alloc _)).kept hb
  have By : Blk w1 (w.heap.size + 1) 29 #[.int .i64 y.num, .slice ka2 y.ks.length kc2, .slice va2 y.vs.length vc2] := (Blk.newAt (by simp)).kept hb
  have hbz : Hid (Below w.heap.size w w1) := hid (bl_then (by exact blBy) hb)
  clear hb
  cases r1 with
  | false =>
    have HX : Hid (¬ x.ks = y.ks) := hid (fun e => (by have := HR.out.2 e; cases this))
    clear HR
    go_wp2
    go_ret
    exact EqR.no (fun e => HX.out (by rw [e])) hbz.out
  | true =>
  have e2 : Hid (x.ks = y.ks) := hid (HR.out.1 rfl)
  clear HR
  have xx := Bx.cellF
  have zx := Bx.lt
  have xy := By.cellF
  have zy := By.lt
  go_wp2_with fail
  refine (eqfV _ Z Z2 d x.vs y.vs va1 va2 vc1 vc2 (M1.out.kept hbz.out) (M2.out.kept hbz.out) (fun W hW cs ds x y => sameValT d HE.out W Z Z2 cs ds x y)).mono ?_
  rintro e w2 ⟨r2, rfl, hr, hb⟩
  have HR := hid hr
  clear hr
  replace Bx := Bx.kept hb
  replace By := By.kept hb
  replace hbz : Hid (Below w.heap.size w w2) := hid (bl_then (by have := hbz.out; exact blBy) hb)
  clear xx zx xy zy
  clear hb
  cases r2 with
  | false =>
    have HX : Hid (¬ x.vs = y.vs) := hid (fun e => (by have := HR.out.2 e; cases this))
    clear HR
    go_wp2
    go_ret
    exact EqR.no (fun e => HX.out (by rw [e])) hbz.out
  | true =>
  have e3 : Hid (x.vs = y.vs) := hid (HR.out.1 rfl)
  clear HR
  go_wp2
  go_ret
  exact EqR.yes (CF.ext3 He1.out e2.out e3.out) hbz.out
theorem equalT : ∀ d, EqAt d
  | 0 => fun _ _ _ _ _ _ _ h => h.elim
  | d + 1 => fun w Z Z2 cs ds x y h1 h2 => by
    have HE := hid (equalT d)
    obtain ⟨ka1, kc1, va1, vc1, rfl, g1, m1, -⟩ := msg_open h1
    obtain ⟨ka2, kc2, va2, vc2, rfl, g2, m2, -⟩ := msg_open h2
    have G1 := hid g1
    have G2 := hid g2
    have M1 := hid m1
    have M2 := hid m2
    clear g1 g2 h1 h2 m1 m2
    go_enter Tryz.func24, Tryz.ntmps24
    go_wp2_with fail
    refine (eqfF _ Z Z2 d x.fs y.fs ka1 ka2 kc1 kc2 (G1.out.kept (by exact blBy)) (G2.out.kept (by exact blBy)) (fun W hW cs ds x y => sameFieldT d HE.out W Z Z2 cs ds x y)).mono ?_
    rintro e w1 ⟨r1, rfl, hr, hb⟩
    have HR := hid hr
    clear hr
    have Bx : Blk w1 w.heap.size 35 #[.slice ka1 x.fs.length kc1, .slice va1 x.us.length vc1] := ((Blk.new _ _ _).kept (below_alloc _)).kept hb
    have By : Blk w1 (w.heap.size + 1) 35 #[.slice ka2 y.fs.length kc2, .slice va2 y.us.length vc2] := (Blk.newAt (by simp)).kept hb
    have hbz : Hid (Below w.heap.size w w1) := hid (bl_then (by exact blBy) hb)
    clear hb
    cases r1 with
    | false =>
      have HX : Hid (¬ x.fs = y.fs) := hid (fun e => (by have := HR.out.2 e; cases this))
      clear HR
      go_wp2
      go_ret
      exact EqR.no (fun e => HX.out (by rw [e])) hbz.out
    | true =>
    have e2 : Hid (x.fs = y.fs) := hid (HR.out.1 rfl)
    clear HR
    have xx := Bx.cellF
    have zx := Bx.lt
    have xy := By.cellF
    have zy := By.lt
    go_wp2_with fail
    refine (eqfE _ Z Z2 x.us y.us va1 va2 vc1 vc2 (M1.out.kept hbz.out) (M2.out.kept hbz.out) (fun W hW cs ds x y => sameEntryT W Z Z2 cs ds x y)).mono ?_
    rintro e w2 ⟨r2, rfl, hr, hb⟩
    have HR := hid hr
    clear hr
    replace Bx := Bx.kept hb
    replace By := By.kept hb
    replace hbz : Hid (Below w.heap.size w w2) := hid (bl_then (by have := hbz.out; exact blBy) hb)
    clear xx zx xy zy
    clear hb
    cases r2 with
    | false =>
      have HX : Hid (¬ x.us = y.us) := hid (fun e => (by have := HR.out.2 e; cases this))
      clear HR
      go_wp2
      go_ret
      exact EqR.no (fun e => HX.out (by rw [e])) hbz.out
    | true =>
    have e3 : Hid (x.us = y.us) := hid (HR.out.1 rfl)
    clear HR
    go_wp2
    go_ret
    exact EqR.yes (CM.ext e2.out e3.out) hbz.out
end Go.Proofs.YtnfdlnelfnigdaaGreatDoor
namespace Go.Proofs.YtnfdlnelfnigdaaGreatDoor
open Go.RowKit
set_option maxRecDepth 1000000
set_option linter.unusedVariables false
set_option linter.unusedSimpArgs false
set_option maxHeartbeats 2000000
theorem bl_drewW (w : World) : Below w.heap.size w w.drew := below_drew1 w
theorem sameD (w : World) (Z Z2 : Nat → Prop) (cs ds : List Value) (x y : CE) (h1 : EntE w Z cs x) (h2 : EntE w Z2 ds y) : Calls Tryz.prog 90 #[.agg cs.toArray, .agg ds.toArray] w (EqR w (x = y)) := by
  obtain ⟨ka1, kc1, rfl, g1, -⟩ := ent_open h1
  obtain ⟨ka2, kc2, rfl, g2, -⟩ := ent_open h2
  have k1 := by_conv (g1.kept (by exact blBy : Below w.heap.size w ((w.alloc (.cells #[.int .i64 x.num, .int .i64 x.kind, .int .u64 x.n, .slice ka1 x.b.length kc1] 40)).alloc (.cells #[.int .i64 y.num, .int .i64 y.kind, .int .u64 y.n, .slice ka2 y.b.length kc2] 40))))
  have k2 := by_conv (g2.kept (by exact blBy : Below w.heap.size w ((w.alloc (.cells #[.int .i64 x.num, .int .i64 x.kind, .int .u64 x.n, .slice ka1 x.b.length kc1] 40)).alloc (.cells #[.int .i64 y.num, .int .i64 y.kind, .int .u64 y.n, .slice ka2 y.b.length kc2] 40))))
  have HS := str_eq (xs := x.b) (ys := y.b) (fun v hv => g1.2.1 v hv) (fun v hv => g2.2.1 v hv)
  clear g1 g2 h1 h2
  go_enter Tryz.func90, Tryz.ntmps90
  by_cases e1 : x.num = y.num
  case neg =>
    have kq : (x.num == y.num) = false := by simpa using e1
    have HX := hid e1
    clear e1
    go_wp2
    go_ret
    exact EqR.no (fun e => HX.out (by rw [e])) (by exact blBy)
  have kqe1 : (x.num == y.num) = true := by simpa using e1
  have He1 := hid e1
  clear e1
  by_cases e2 : x.kind = y.kind
  case neg =>
    have kq : (x.kind == y.kind) = false := by simpa using e2
    have HX := hid e2
    clear e2
    go_wp2
    go_ret
    exact EqR.no (fun e => HX.out (by rw [e])) (by exact blBy)
  have kqe2 : (x.kind == y.kind) = true := by simpa using e2
  have He2 := hid e2
  clear e2
  by_cases e3 : x.n = y.n
  case neg =>
    have kq : (x.n == y.n) = false := by simpa using e3
    have HX := hid e3
    clear e3
    go_wp2
    go_ret
    exact EqR.no (fun e => HX.out (by rw [e])) (by exact blBy)
  have kqe3 : (x.n == y.n) = true := by simpa using e3
  have He3 := hid e3
  clear e3
  by_cases e4 : x.b = y.b
  · rw [decide_eq_true e4] at HS
    have He4 := hid e4
    clear e4
    go_wp2
    go_ret
    exact EqR.yes (CE.ext4 He1.out He2.out He3.out He4.out) (by exact blBy)
  · rw [decide_eq_false e4] at HS
    have HX := hid e4
    clear e4
    go_wp2
    go_ret
    exact EqR.no (fun e => HX.out (by rw [e])) (by exact blBy)
theorem listD (w : World) (Z Z2 : Nat → Prop) (xs ys : List CE) (a1 a2 : Option Addr) (c1 c2 : Nat) (h1 : EnsR w Z (.slice a1 xs.length c1) xs) (h2 : EnsR w Z2 (.slice a2 ys.length c2) ys) : Calls Tryz.prog 45 #[.slice a1 xs.length c1, .slice a2 ys.length c2] w (EqR w (xs = ys)) := by
  obtain ⟨_, _, e1, l1⟩ := RowM.sl h1
  clear e1
  have m1 : (xs.length : Int) ≤ 9223372036854775807 := by omega
  have H1 := hid h1
  have H2 := hid h2
  clear h1 h2
  by_cases hl : xs.length = ys.length
  · have HL := hid hl
    rw [← hl] at H2
    rw [← hl]
    clear hl
    go_enter Tryz.func45, Tryz.ntmps45
    go_wp2
    go_loopw [5] (fun r wr => ∃ j : Nat, r = .int .i64 j ∧ j ≤ xs.length ∧ Hid (xs.take j = ys.take j) ∧ Hid (Below w.heap.size w wr)) (fun r wr => xs.length - numAt wr r)
    case atStart => exact ⟨0, rfl, by omega, hid rfl, hid (Below.refl _ _)⟩
    case round =>
      obtain ⟨j, rfl, hj, hT, hb⟩ := hrel
      by_cases hlt : j < xs.length
      · have k2 : (j : Int) < (xs.length : Int) := by omega
        have hlt2 : j < ys.length := by have := HL.out; omega
        obtain ⟨b1, o1, ka1, kc1, rfl, -, hb1, c10, c11, c12, c13, he1⟩ := ens_at (H1.out.kept hb.out) hlt
        obtain ⟨b2, o2, ka2, kc2, rfl, -, hb2, c20, c21, c22, c23, he2⟩ := ens_at (H2.out.kept hb.out) hlt2
        have HE1 := hid he1
        have HE2 := hid he2
        have HN := hid (fun h => take_next hlt hlt2 hT.out h)
        have HNO := hid (fun h => ne_at (xs := xs) (ys := ys) hlt hlt2 h)
        clear he1 he2
        generalize xs[j] = x at *
        generalize ys[j] = y at *
        go_wp2_with fail
        go_region_with (go_at_call 90; refine (sameD _ Z Z2 [.int .i64 x.num, .int .i64 x.kind, .int .u64 x.n, .slice ka1 x.b.length kc1] [.int .i64 y.num, .int .i64 y.kind, .int .u64 y.n, .slice ka2 y.b.length kc2] x y (HE1.out.kept (bl_drewW _)) (HE2.out.kept (bl_drewW _))).mono ?_; rintro e w1 ⟨r, rfl, hr, hbx⟩; replace hr := hid hr; replace hbx : Hid (Below w.heap.size w w1) := hid (bl_then (bl_drew hb.out) hbx))
        all_goals
          cases r with
          | true =>
            have HX : Hid (x = y) := hid (hr.out.1 rfl)
            clear hr
            go_wp2
            exact ⟨⟨j + 1, by simp, by omega, hid (HN.out HX.out), hbx⟩, by simp [numAt]; omega⟩
          | false =>
            have HX : Hid (¬ x = y) := hid (fun e => (by have := hr.out.2 e; cases this))
            clear hr
            go_wp2
            go_ret
            exact EqR.no (HNO.out HX.out) hbx.out
      · have k2 : ¬ (j : Int) < (xs.length : Int) := by omega
        go_wp2
        go_ret
        exact EqR.yes (take_all (by omega) (by have := HL.out; omega) hT.out) hb.out
  · have q0 : ((xs.length : Int) == (ys.length : Int)) = false := by simp; omega
    have HL := hid hl
    clear hl
    go_enter Tryz.func45, Tryz.ntmps45
    go_wp2
    go_ret
    exact EqR.no (fun q => HL.out (by rw [q])) (Below.refl _ _)
/-- The document's Equal at a depth. -/
def EqDAt (d : Nat) : Prop := ∀ (w : World) (Z Z2 : Nat → Prop) (cs ds : List Value) (m m' : CM), MsgE w Z d cs m → MsgE w Z2 d ds m' → Calls Tryz.prog 22 #[.agg cs.toArray, .agg ds.toArray] w (EqR w (m = m'))
theorem valsD (d : Nat) (HE : EqDAt d) (w : World) (Z Z2 : Nat → Prop) (xs ys : List (CV CM)) (a1 a2 : Option Addr) (c1 c2 : Nat) (h1 : VlsR w Z d (.slice a1 xs.length c1) xs) (h2 : VlsR w Z2 d (.slice a2 ys.length c2) ys) : Calls Tryz.prog 58 #[.slice a1 xs.length c1, .slice a2 ys.length c2] w (EqR w (xs = ys)) := by
  obtain ⟨_, _, e1, l1⟩ := RowM.sl h1
  clear e1
  have m1 : (xs.length : Int) ≤ 9223372036854775807 := by omega
  have H1 := hid h1
  have H2 := hid h2
  replace HE := hid HE
  clear h1 h2
  by_cases hl : xs.length = ys.length
  · have HL := hid hl
    rw [← hl] at H2
    rw [← hl]
    clear hl
    go_enter Tryz.func58, Tryz.ntmps58
    go_wp2
    go_loopw [5] (fun r wr => ∃ j : Nat, r = .int .i64 j ∧ j ≤ xs.length ∧ Hid (xs.take j = ys.take j) ∧ Hid (Below w.heap.size w wr)) (fun r wr => xs.length - numAt wr r)
    case atStart => exact ⟨0, rfl, by omega, hid rfl, hid (Below.refl _ _)⟩
    case round =>
      obtain ⟨j, rfl, hj, hT, hb⟩ := hrel
      by_cases hlt : j < xs.length
      · have k2 : (j : Int) < (xs.length : Int) := by omega
        have hlt2 : j < ys.length := by have := HL.out; omega
        obtain ⟨b1, o1, ka1, kc1, va1, vc1, rfl, -, hb1, c10, c11, c12, he1⟩ := vls_at (H1.out.kept hb.out) hlt
        obtain ⟨b2, o2, ka2, kc2, va2, vc2, rfl, -, hb2, c20, c21, c22, he2⟩ := vls_at (H2.out.kept hb.out) hlt2
        obtain ⟨_, _, _, _, e1, g1, q1, -, ml1, -⟩ := val_open he1
        simp only [List.cons.injEq, Value.slice.injEq, true_and, and_true] at e1
        obtain ⟨⟨rfl, rfl⟩, rfl, rfl⟩ := e1
        obtain ⟨_, _, _, _, e2, g2, q2, -, ml2, -⟩ := val_open he2
        simp only [List.cons.injEq, Value.slice.injEq, true_and, and_true] at e2
        obtain ⟨⟨rfl, rfl⟩, rfl, rfl⟩ := e2
        have Q1 := hid q1
        have Q2 := hid q2
        have HN := hid (fun h => take_next hlt hlt2 hT.out h)
        have HNO := hid (fun h => ne_at (xs := xs) (ys := ys) hlt hlt2 h)
        have HS := str_eq (xs := xs[j].b) (ys := ys[j].b) (fun v hv => g1.2.1 v hv) (fun v hv => g2.2.1 v hv)
        have k3 : ∀ z, (convert 23 9 (.slice ka1 xs[j].b.length kc1)).run Tryz.prog (wr.drewN z) = .ok (.string (strOfNums xs[j].b)) (wr.drewN z) := fun z => by_conv (g1.kept (below_drewN _ _))
        have k4 : ∀ z, (convert 23 9 (.slice ka2 ys[j].b.length kc2)).run Tryz.prog (wr.drewN z) = .ok (.string (strOfNums ys[j].b)) (wr.drewN z) := fun z => by_conv (g2.kept (below_drewN _ _))
        clear he1 he2 g1 g2 q1 q2
        generalize xs[j] = x at *
        generalize ys[j] = y at *
        have ml3 : (x.ms.length : Int) ≤ 9223372036854775807 := by omega
        by_cases e1 : x.n = y.n
        case neg =>
          have kq : (x.n == y.n) = false := by simpa using e1
          have kn : (x.n != y.n) = true := by simp [bne, kq]
          have HX : Hid (¬ x = y) := hid (fun e => e1 (by rw [e]))
          clear e1
          go_wp2
          go_quiet (fail)
          go_wp2
          go_ret
          exact EqR.no (HNO.out HX.out) (by have := hb.out; exact blBy)
        have kq1 : (x.n == y.n) = true := by simpa using e1
        have kn1 : (x.n != y.n) = false := by simp only [bne, kq1, Bool.not_true]
        have He1 := hid e1
        clear e1
        by_cases e2 : x.b = y.b
        case neg =>
          rw [decide_eq_false e2] at HS
          have ks : ((strOfNums x.b).toList != (strOfNums y.b).toList) = true := by simp only [bne, HS, Bool.not_false]
          have HX : Hid (¬ x = y) := hid (fun e => e2 (by rw [e]))
          clear e2
          go_wp2
          go_quiet (fail)
          go_wp2
          go_ret
          exact EqR.no (HNO.out HX.out) (by have := hb.out; exact blBy)
        rw [decide_eq_true e2] at HS
        have ks : ((strOfNums x.b).toList != (strOfNums y.b).toList) = false := by simp only [bne, HS, Bool.not_true]
        have He2 := hid e2
        clear e2
        by_cases e3 : x.ms.length = y.ms.length
        case neg =>
          have kq3 : ((x.ms.length : Int) == (y.ms.length : Int)) = false := by simp; omega
          have kn3 : ((x.ms.length : Int) != (y.ms.length : Int)) = true := by simp only [bne, kq3, Bool.not_false]
          have kn4 : (x.ms.length != y.ms.length) = true := by simpa using e3
          have HX : Hid (¬ x = y) := hid (fun e => e3 (by rw [e]))
          clear e3
          go_wp2
          go_quiet (fail)
          go_wp2
          go_ret
          exact EqR.no (HNO.out HX.out) (by have := hb.out; exact blBy)
        have He3 := hid e3
        rw [← e3] at c22 Q2
        clear e3 ml2
        go_wp2
        go_quiet (fail)
        replace hb : Hid (Below w.heap.size w (wr.drewN nq)) := hid (by have := hb.out; exact blBy)
        replace c12 := cell_below c12 (below_drewN wr nq)
        replace c22 := cell_below c22 (below_drewN wr nq)
        replace Q1 := hid (Q1.out.kept (below_drewN wr nq))
        replace Q2 := hid (Q2.out.kept (below_drewN wr nq))
        clear c10 c11 c20 c21 k3 k4 HS ks hb1 hb2
        generalize wr.drewN nq = wq at *
        have hb1 : b1 < wq.heap.size := World.block_lt_of_cell? _ _ c12
        have hb2 : b2 < wq.heap.size := World.block_lt_of_cell? _ _ c22
        have C1 := hid c12
        have C2 := hid c22
        clear c12 c22
        go_wp2
        go_loopw [6] (fun r wr => ∃ i : Nat, r = .int .i64 i ∧ i ≤ x.ms.length ∧ Hid (x.ms.take i = y.ms.take i) ∧ Hid (Below wq.heap.size wq wr)) (fun r wr => x.ms.length - numAt wr r)
        case atStart => exact ⟨0, rfl, by omega, hid rfl, hid (Below.refl _ _)⟩
        case round =>
          obtain ⟨i, rfl, hi, hTi, hbi⟩ := hrel
          have c12 := cell_below C1.out hbi.out
          have c22 := cell_below C2.out hbi.out
          by_cases hil : i < x.ms.length
          · have k5 : (i : Int) < (x.ms.length : Int) := by omega
            have hil2 : i < y.ms.length := by have := He3.out; omega
            obtain ⟨p1, r1, fa1, fc1, ua1, uc1, rfl, -, hp1, m10, m11, hm1⟩ := mgs_at' (Q1.out.kept hbi.out) hil
            obtain ⟨p2, r2, fa2, fc2, ua2, uc2, rfl, -, hp2, m20, m21, hm2⟩ := mgs_at' (Q2.out.kept hbi.out) hil2
            have HM1 := hid hm1
            have HM2 := hid hm2
            have HNi := hid (fun h => take_next hil hil2 hTi.out h)
            have HNOi := hid (fun h => ne_at (xs := x.ms) (ys := y.ms) hil hil2 h)
            clear hm1 hm2
            generalize x.ms[i] = mx at *
            generalize y.ms[i] = my at *
            go_wp2_with fail
            go_region_with (go_at_call 22; refine (HE.out _ Z Z2 [.slice fa1 mx.fs.length fc1, .slice ua1 mx.us.length uc1] [.slice fa2 my.fs.length fc2, .slice ua2 my.us.length uc2] mx my (HM1.out.kept (bl_drewW _)) (HM2.out.kept (bl_drewW _))).mono ?_; rintro e w1 ⟨r, rfl, hr, hbx⟩; replace hr := hid hr; replace hbx : Hid (Below wq.heap.size wq w1) := hid (bl_then (bl_drew hbi.out) hbx))
            all_goals
              cases r with
              | true =>
                have HX : Hid (mx = my) := hid (hr.out.1 rfl)
                clear hr
                go_wp2
                exact ⟨⟨i + 1, by simp, by omega, hid (HNi.out HX.out), hbx⟩, by simp [numAt]; omega⟩
              | false =>
                have HX : Hid (¬ mx = my) := hid (fun e => (by have := hr.out.2 e; cases this))
                clear hr
                go_wp2
                go_ret
                exact EqR.no (HNO.out (fun e => HNOi.out HX.out (by rw [e]))) (below_trans hb.out hbx.out)
          · have k5 : ¬ (i : Int) < (x.ms.length : Int) := by omega
            go_wp2
            exact ⟨⟨j + 1, by simp, by omega, hid (HN.out (CV.ext3 He1.out He2.out (take_all (by omega) (by have := He3.out; omega) hTi.out))), hid (below_trans hb.out hbi.out)⟩, by simp [numAt]; omega⟩
      · have k2 : ¬ (j : Int) < (xs.length : Int) := by omega
        go_wp2
        go_ret
        exact EqR.yes (take_all (by omega) (by have := HL.out; omega) hT.out) hb.out
  · have q0 : ((xs.length : Int) == (ys.length : Int)) = false := by simp; omega
    have HL := hid hl
    clear hl
    go_enter Tryz.func58, Tryz.ntmps58
    go_wp2
    go_ret
    exact EqR.no (fun q => HL.out (by rw [q])) (Below.refl _ _)
end Go.Proofs.YtnfdlnelfnigdaaGreatDoor
namespace Go.Proofs.YtnfdlnelfnigdaaGreatDoor
open Go.RowKit
set_option maxRecDepth 1000000
set_option linter.unusedVariables false
set_option linter.unusedSimpArgs false
set_option maxHeartbeats 2000000
theorem sameFieldD (d : Nat) (HE : EqDAt d) (w : World) (Z Z2 : Nat → Prop) (cs ds : List Value) (x y : CF CM) (h1 : FldE w Z (MsgE w Z d) cs x) (h2 : FldE w Z2 (MsgE w Z2 d) ds y) : Calls Tryz.prog 27 #[.agg cs.toArray, .agg ds.toArray] w (EqR w (x = y)) := by
  obtain ⟨ka1, kc1, va1, vc1, rfl, g1, m1, -⟩ := fld_open h1
  obtain ⟨ka2, kc2, va2, vc2, rfl, g2, m2, -⟩ := fld_open h2
  have G1 := hid g1
  have G2 := hid g2
  have M1 := hid m1
  have M2 := hid m2
  replace HE := hid HE
  clear g1 g2 h1 h2 m1 m2
  go_enter Tryz.func27, Tryz.ntmps27
  by_cases e1 : x.num = y.num
  case neg =>
    have kq : (x.num == y.num) = false := by simpa using e1
    have HX := hid e1
    clear e1
    go_wp2
    go_ret
    exact EqR.no (fun e => HX.out (by rw [e])) (by exact blBy)
  have kqe1 : (x.num == y.num) = true := by simpa using e1
  have He1 := hid e1
  clear e1
  go_wp2_with fail
  refine (valsD d HE.out _ Z Z2 x.ks y.ks ka1 ka2 kc1 kc2 (G1.out.kept (by exact blBy)) (G2.out.kept (by exact blBy))).mono ?_
  rintro e w1 ⟨r1, rfl, hr, hb⟩
  have HR := hid hr
  clear hr
  have Bx : Blk w1 w.heap.size 29 #[.int .i64 x.num, .slice ka1 x.ks.length kc1, .slice va1 x.vs.length vc1] := ((Blk.new _ _ _).kept (below_alloc _)).kept hb
  have By : Blk w1 (w.heap.size + 1) 29 #[.int .i64 y.num, .slice ka2 y.ks.length kc2, .slice va2 y.vs.length vc2] := (Blk.newAt (by simp)).kept hb
  have hbz : Hid (Below w.heap.size w w1) := hid (bl_then (by exact blBy) hb)
  clear hb
  cases r1 with
  | false =>
    have HX : Hid (¬ x.ks = y.ks) := hid (fun e => (by have := HR.out.2 e; cases this))
    clear HR
    go_wp2
    go_ret
    exact EqR.no (fun e => HX.out (by rw [e])) hbz.out
  | true =>
  have e2 : Hid (x.ks = y.ks) := hid (HR.out.1 rfl)
  clear HR
  have xx := Bx.cellF
  have zx := Bx.lt
  have xy := By.cellF
  have zy := By.lt
  go_wp2_with fail
  refine (valsD d HE.out _ Z Z2 x.vs y.vs va1 va2 vc1 vc2 (M1.out.kept hbz.out) (M2.out.kept hbz.out)).mono ?_
  rintro e w2 ⟨r2, rfl, hr, hb⟩
  have HR := hid hr
  clear hr
  replace Bx := Bx.kept hb
  replace By := By.kept hb
  replace hbz : Hid (Below w.heap.size w w2) := hid (bl_then (by have := hbz.out; exact blBy) hb)
  clear xx zx xy zy
  clear hb
  cases r2 with
  | false =>
    have HX : Hid (¬ x.vs = y.vs) := hid (fun e => (by have := HR.out.2 e; cases this))
    clear HR
    go_wp2
    go_ret
    exact EqR.no (fun e => HX.out (by rw [e])) hbz.out
  | true =>
  have e3 : Hid (x.vs = y.vs) := hid (HR.out.1 rfl)
  clear HR
  go_wp2
  go_ret
  exact EqR.yes (CF.ext3 He1.out e2.out e3.out) hbz.out
theorem equalD : ∀ d, EqDAt d
  | 0 => fun _ _ _ _ _ _ _ h => h.elim
  | d + 1 => fun w Z Z2 cs ds x y h1 h2 => by
    have HE := hid (equalD d)
    obtain ⟨ka1, kc1, va1, vc1, rfl, g1, m1, lf1, -⟩ := msg_open h1
    obtain ⟨ka2, kc2, va2, vc2, rfl, g2, m2, -⟩ := msg_open h2
    have G1 := hid g1
    have G2 := hid g2
    have M1 := hid m1
    have M2 := hid m2
    have ln : (x.fs.length : Int) ≤ 9223372036854775807 := by omega
    clear g1 g2 h1 h2 m1 m2
    by_cases hl : x.fs.length = y.fs.length
    · have HL := hid hl
      rw [← hl] at G2
      rw [← hl]
      clear hl
      go_enter Tryz.func22, Tryz.ntmps22
      go_wp2_with fail
      refine (listD _ Z Z2 x.us y.us va1 va2 vc1 vc2 (M1.out.kept (by exact blBy)) (M2.out.kept (by exact blBy))).mono ?_
      rintro e w1 ⟨r1, rfl, hr, hb⟩
      have HR := hid hr
      have Bx : Blk w1 w.heap.size 35 #[.slice ka1 x.fs.length kc1, .slice va1 x.us.length vc1] := ((Blk.new _ _ _).kept (below_alloc _)).kept hb
      have By : Blk w1 (w.heap.size + 1) 35 #[.slice ka2 x.fs.length kc2, .slice va2 y.us.length vc2] := (Blk.newAt (by simp)).kept hb
      have hbz : Hid (Below w.heap.size w w1) := hid (bl_then (by exact blBy) hb)
      clear hb hr
      cases r1 with
      | false =>
        have HX : Hid (¬ x.us = y.us) := hid (fun e => (by have := HR.out.2 e; cases this))
        clear HR
        go_wp2
        go_ret
        exact EqR.no (fun e => HX.out (by rw [e])) hbz.out
      | true =>
      have HU : Hid (x.us = y.us) := hid (HR.out.1 rfl)
      clear HR
      have HBx := hid Bx
      have HBy := hid By
      clear Bx By
      go_wp2
      go_loopw [5] (fun r wr => ∃ j : Nat, r = .int .i64 j ∧ j ≤ x.fs.length ∧ Hid (x.fs.take j = y.fs.take j) ∧ Hid (Below w1.heap.size w1 wr)) (fun r wr => x.fs.length - numAt wr r)
      case atStart => exact ⟨0, rfl, by omega, hid rfl, hid (Below.refl _ _)⟩
      case round =>
        obtain ⟨j, rfl, hj, hT, hb⟩ := hrel
        have Bx := HBx.out.kept hb.out
        have By := HBy.out.kept hb.out
        have xx := Bx.cellF
        have zx := Bx.lt
        have xy := By.cellF
        have zy := By.lt
        clear Bx By
        by_cases hlt : j < x.fs.length
        · have k2 : (j : Int) < (x.fs.length : Int) := by omega
          have hlt2 : j < y.fs.length := by have := HL.out; omega
          obtain ⟨p1, o1, pa1, pc1, qa1, qc1, rfl, -, hp1, c10, c11, c12, he1⟩ := fls_at (G1.out.kept (below_trans hbz.out hb.out)) hlt
          obtain ⟨p2, o2, pa2, pc2, qa2, qc2, rfl, -, hp2, c20, c21, c22, he2⟩ := fls_at (G2.out.kept (below_trans hbz.out hb.out)) hlt2
          have HE1 := hid he1
          have HE2 := hid he2
          have HN := hid (fun h => take_next hlt hlt2 hT.out h)
          have HNO := hid (fun h => ne_at (xs := x.fs) (ys := y.fs) hlt hlt2 h)
          clear he1 he2
          generalize x.fs[j] = f at *
          generalize y.fs[j] = g at *
          go_wp2_with fail
          go_region_with (go_at_call 27; refine (sameFieldD d HE.out _ Z Z2 [.int .i64 f.num, .slice pa1 f.ks.length pc1, .slice qa1 f.vs.length qc1] [.int .i64 g.num, .slice pa2 g.ks.length pc2, .slice qa2 g.vs.length qc2] f g (HE1.out.kept (bl_drewW _)) (HE2.out.kept (bl_drewW _))).mono ?_; rintro e w2 ⟨r, rfl, hr, hbx⟩; replace hr := hid hr; replace hbx : Hid (Below w1.heap.size w1 w2) := hid (bl_then (bl_drew hb.out) hbx))
          all_goals
            cases r with
            | true =>
              have HX : Hid (f = g) := hid (hr.out.1 rfl)
              clear hr
              go_wp2
              exact ⟨⟨j + 1, by simp, by omega, hid (HN.out HX.out), hbx⟩, by simp [numAt]; omega⟩
            | false =>
              have HX : Hid (¬ f = g) := hid (fun e => (by have := hr.out.2 e; cases this))
              clear hr
              go_wp2
              go_ret
              exact EqR.no (fun e => HNO.out HX.out (by rw [e])) (below_trans hbz.out hbx.out)
        · have k2 : ¬ (j : Int) < (x.fs.length : Int) := by omega
          go_wp2
          go_ret
          exact EqR.yes (CM.ext (take_all (by omega) (by have := HL.out; omega) hT.out) HU.out) (below_trans hbz.out hb.out)
    · have q0 : ((x.fs.length : Int) == (y.fs.length : Int)) = false := by simp; omega
      have HL := hid hl
      clear hl
      go_enter Tryz.func22, Tryz.ntmps22
      go_wp2
      go_ret
      exact EqR.no (fun q => HL.out (by rw [q])) (by exact blBy)
end Go.Proofs.YtnfdlnelfnigdaaGreatDoor
namespace Go.Proofs.YtnfdlnelfnigdaaGreatDoor
set_option linter.unusedVariables false
set_option linter.unusedSimpArgs false
/-- The greatest depth so far, behind a message at the depth k. -/
def dpW : Nat → Nat → Nat → CM → Nat
  | 0, _, g, _ => g
  | d + 1, k, g, m => m.fs.foldl (fun a f => (allM f).foldl (fun a z => dpW d (k + 1) a z) a) (max g k)
theorem mxL_cons {α : Type} (f : α → Nat) (a : Nat) (x : α) (l : List α) : mxL f a (x :: l) = mxL f (max a (f x)) l := rfl
theorem mxL_app {α : Type} (f : α → Nat) (a : Nat) (l r : List α) : mxL f a (l ++ r) = mxL f (mxL f a l) r := by
  unfold mxL
  exact List.foldl_append
theorem mxL_base {α : Type} (f : α → Nat) : ∀ (l : List α) (a : Nat), mxL f a l = max a (mxL f 0 l)
  | [], a => by simp [mxL]
  | x :: l, a => by
    rw [mxL_cons, mxL_cons, mxL_base f l (max a (f x)), mxL_base f l (max 0 (f x))]
    omega
theorem depVs_mx (dm : CM → Nat) : ∀ (l : List (CV CM)) (a : Nat), depVs dm a l = mxL dm a (l.flatMap CV.ms)
  | [], a => rfl
  | v :: r, a => by
    rw [List.flatMap_cons, mxL_app]
    exact depVs_mx dm r (mxL dm a v.ms)
theorem depF_mx (dm : CM → Nat) (a : Nat) (f : CF CM) : max (max a (depVs dm 0 f.ks)) (depVs dm 0 f.vs) = mxL dm a (allM f) := by
  unfold allM
  rw [mxL_app, depVs_mx, depVs_mx, mxL_base dm _ (mxL dm a _), mxL_base dm _ a]
theorem depFs_mx (dm : CM → Nat) : ∀ (l : List (CF CM)) (a : Nat), l.foldl (fun a f => max (max a (depVs dm 0 f.ks)) (depVs dm 0 f.vs)) a = mxL dm a (l.flatMap allM)
  | [], a => rfl
  | f :: r, a => by
    rw [List.foldl_cons, List.flatMap_cons, mxL_app, depF_mx]
    exact depFs_mx dm r _
theorem depM_succ (d : Nat) (m : CM) : depM (d + 1) m = mxL (depM d) 0 (m.fs.flatMap allM) + 1 := by
  rw [← depFs_mx]
  rfl
theorem mxL_ge {α : Type} (f : α → Nat) (l : List α) (a : Nat) : a ≤ mxL f a l := by rw [mxL_base]; exact Nat.le_max_left _ _
theorem fold_mx {F : Nat → CM → Nat} {G : CM → Nat} {c : Nat} (h : ∀ a z, c ≤ a → F a z = max a (G z)) : ∀ (l : List CM) (a : Nat), c ≤ a → l.foldl F a = mxL G a l
  | [], a, _ => rfl
  | z :: l, a, ha => by
    rw [List.foldl_cons, mxL_cons, h a z ha]
    exact fold_mx h l _ (Nat.le_trans ha (Nat.le_max_left _ _))
theorem foldF_mx {F : Nat → CM → Nat} {G : CM → Nat} {c : Nat} (h : ∀ a z, c ≤ a → F a z = max a (G z)) : ∀ (l : List (CF CM)) (a : Nat), c ≤ a → l.foldl (fun a f => (allM f).foldl F a) a = mxL G a (l.flatMap allM)
  | [], a, _ => rfl
  | f :: l, a, ha => by
    rw [List.foldl_cons, List.flatMap_cons, mxL_app, fold_mx h _ _ ha]
    exact foldF_mx h l _ (Nat.le_trans ha (mxL_ge _ _ _))
theorem mxL_add (G : CM → Nat) (k : Nat) : ∀ (l : List CM) (a : Nat), k ≤ a → mxL (fun z => k + G z) a l = max a (k + mxL G 0 l)
  | [], a, ha => by
    show a = max a (k + 0)
    omega
  | z :: l, a, ha => by
    rw [mxL_cons, mxL_cons, mxL_add G k l _ (by omega), mxL_base G l (max 0 (G z))]
    omega
theorem dpW_eq : ∀ (d k g : Nat) (m : CM), k ≤ g → dpW d (k + 1) g m = max g (k + depM d m)
  | 0, k, g, m, h => by
    show g = max g (k + 0)
    omega
  | d + 1, k, g, m, h => by
    rw [depM_succ]
    show m.fs.foldl (fun a f => (allM f).foldl (fun a z => dpW d (k + 1 + 1) a z) a) (max g (k + 1)) = _
    rw [foldF_mx (c := k + 1) (G := fun z => (k + 1) + depM d z) (fun a z ha => dpW_eq d (k + 1) a z ha) _ _ (by omega), mxL_add _ _ _ _ (by omega)]
    omega
theorem dpW_le (d k g B : Nat) (m : CM) (h1 : k ≤ g) (h2 : g ≤ B) (h3 : k + d ≤ B) : dpW d (k + 1) g m ≤ B := by
  rw [dpW_eq d k g m h1]
  have := depM_le d m
  omega
theorem dpW_ge (d k g : Nat) (m : CM) (h1 : k ≤ g) : g ≤ dpW d (k + 1) g m := by
  rw [dpW_eq d k g m h1]
  exact Nat.le_max_left _ _
theorem dpL_le (d k B : Nat) : ∀ (l : List CM) (g : Nat), k ≤ g → g ≤ B → k + d ≤ B → l.foldl (fun a z => dpW d (k + 1) a z) g ≤ B ∧ g ≤ l.foldl (fun a z => dpW d (k + 1) a z) g
  | [], g, _, h2, _ => ⟨h2, Nat.le_refl _⟩
  | z :: l, g, h1, h2, h3 => by
    rw [List.foldl_cons]
    obtain ⟨a, b⟩ := dpL_le d k B l _ (Nat.le_trans h1 (dpW_ge d k g z h1)) (dpW_le d k g B z h1 h2 h3) h3
    exact ⟨a, Nat.le_trans (dpW_ge d k g z h1) b⟩
theorem depth_of (d : Nat) (m : CM) : dpW d 1 0 m = depM d m := by
  rw [dpW_eq d 0 0 m (Nat.le_refl _)]
  omega
end Go.Proofs.YtnfdlnelfnigdaaGreatDoor
namespace Go.Proofs.YtnfdlnelfnigdaaGreatDoor
open Go.RowKit Go.Shelf
set_option maxRecDepth 1000000
attribute [local go_sem] Oper.semAt_some
set_option linter.unusedVariables false
set_option linter.unusedSimpArgs false
set_option maxHeartbeats 2000000
theorem kpThen {f : Nat → Prop} {w W W' : World} (h : Keep f w W) (g : Below w.heap.size W W') : Keep f w W' := ⟨g.os.trans h.os, g.tape.trans h.tape, g.output.trans h.output, Nat.le_trans h.size g.size, fun k hk hf => (g.block k hk).trans (h.block k hk hf)⟩
theorem kpFirst {f : Nat → Prop} {w W W' : World} (h : Below w.heap.size w W) (g : Keep f W W') : Keep f w W' := (Keep.ofBelow h).trans g
theorem seeT (w : World) (pd : Nat) (g k : Nat) (hp : Blk w pd 3 #[.int .i64 (g : Int)]) (Z : Nat → Prop) (d : Nat) (cs : List Value) (m : CM) (hm : MsgE w Z d cs m) : Calls Tryz.prog 32 #[.int .i64 ((k : Int) + 1), .agg cs.toArray, .pointer (some ⟨pd, 0, none⟩)] w fun e w' => e = .returned (.bool true) ∧ Keep (· ≠ pd) w w' ∧ Blk w' pd 3 #[.int .i64 ((max g (k + 1) : Nat) : Int)] := by
  obtain ⟨ka, kc, va, vc, rfl, -⟩ := msg_openD hm
  have xp := hp.cellF
  have yp := hp.frz
  have zp := hp.lt
  have HP := hid hp
  clear hm hp
  have e1 : ((max g (k + 1) : Nat) : Int) = max (g : Int) ((k : Int) + 1) := by omega
  rw [e1]
  go_enter Tryz.func32, Tryz.ntmps32
  go_wp2
  go_ret
  exact ⟨rfl, kpBl (Keep.setCell (f := (· ≠ pd)) w ⟨pd, 0, none⟩ _ (by simp)) (below_alloc _), ((HP.out.set 0 _).is (by simp)).kept (below_alloc _)⟩
theorem blwDT (w : World) (k : Int) (hk0 : 0 ≤ k) (hk : k ≤ 8000001) (Z : Nat → Prop) (d : Nat) (cs : List Value) (f : CF CM) (hf : FldE w Z (MsgE w Z d) cs f) : Calls Tryz.prog 34 #[.int .i64 k, .agg cs.toArray] w fun e w' => e = .returned (.int .i64 (k + 1)) ∧ Below w.heap.size w w' := by
  obtain ⟨ka, kc, va, vc, rfl, -⟩ := fld_open hf
  clear hf
  have hw : IntKind.i64.wrap (k + 1) = k + 1 := by rw [IntKind.wrap_i64]; omega
  go_enter Tryz.func34, Tryz.ntmps34
  go_wp2
  go_ret
  exact ⟨by first | rfl | simp, by exact blBy⟩
theorem cfSee (args : Array Value) (W : World) : (callFunc 32 args).run Tryz.prog W = .ok (.enter 32 args) W := cf_enter Tryz.func32 (by kernel_rfl) (by kernel_rfl) args W
theorem cfBlwD (args : Array Value) (W : World) : (callFunc 34 args).run Tryz.prog W = .ok (.enter 34 args) W := cf_enter Tryz.func34 (by kernel_rfl) (by kernel_rfl) args W
theorem own_keepD {β : Type} {w3 : World} {p : Nat} {t : TypeId} (g : β → Array Value) (hp : p < w3.heap.size) : OwnFrom w3.heap.size (fun (s : β) W => Keep (· ≠ p) w3 W ∧ Blk W p t (g s)) := fun s A B row hs hg hr =>
  ⟨⟨hg.os.trans hs.1.os, hg.tape.trans hs.1.tape, hg.output.trans hs.1.output, Nat.le_trans hs.1.size hg.size, fun k hk hf => (hg.block k (Nat.lt_of_lt_of_le hk hs.1.size) (fun e => by have := (hr k e.symm).1; omega)).trans (hs.1.block k hk hf)⟩, blk_own hs.2 hg (fun r e => (hr r e).2)⟩
/-- What the walk leaves in the box of the greatest depth. -/
def DwAt (pd d : Nat) : Prop := ∀ (Z : Nat → Prop) (w : World) (k g : Nat) (cs : List Value) (m : CM), (∀ b, Z b → b ≠ pd) → Blk w pd 3 #[.int .i64 (g : Int)] → k ≤ g → g ≤ 8000000 → k + d ≤ 8000000 → MsgE w Z d cs m → Calls Tryz.prog 33 #[.int .i64 ((k : Int) + 1), .agg cs.toArray, .func (.func 32) #[] #[.pointer (some ⟨pd, 0, none⟩)], .func (.func 34) #[] #[]] w fun e w' => e = .returned (.bool true) ∧ Keep (· ≠ pd) w w' ∧ Blk w' pd 3 #[.int .i64 ((dpW d (k + 1) g m : Nat) : Int)]
theorem walkD (pd : Nat) : ∀ d, DwAt pd d
  | 0 => fun _ _ _ _ _ _ _ _ _ _ _ h => h.elim
  | d + 1 => fun Z w k g cs m hZ hp hkg hg hkd h => by
    have IH := hid (walkD pd d)
    obtain ⟨ka, kc, va, vc, rfl, fg, fq, l1, -⟩ := msg_open h
    have HH := hid (fun W (hW : Below w.heap.size w W) => seeT W pd g k (hp.kept hW) Z (d + 1) _ m (h.kept hW))
    have hcf1 := cfSee
    have hcf2 := cfBlwD
    have G := hid fg
    have m1 : (m.fs.length : Int) ≤ 9223372036854775807 := by omega
    have hpd := hp.lt
    have HX : Hid (dpW (d + 1) (k + 1) g m = m.fs.foldl (fun a f => (allM f).foldl (fun a z => dpW d (k + 1 + 1) a z) a) (max g (k + 1))) := hid rfl
    generalize dpW (d + 1) (k + 1) g m = res at *
    clear h fg fq hp
    refine callsIn_wide (n := 3) |>.1 ?_
    refine callsIn_of_wp_marks Tryz.func33 rfl trivial ?_ rfl
    simp only [Tryz.ntmps33, List.size_toArray, List.length_cons, List.length_nil, Nat.reduceAdd, Nat.reduceSub, Array.replicate_succ, Array.replicate_zero, List.push_toArray, List.append_toArray, List.nil_append, List.cons_append]
    gi_wp2_with fail
    refine ⟨trivial, (callsIn_wide.2 (HH.out _ (by exact blBy))).mono ?_⟩
    rintro e w1 ⟨rfl, hbx, Bd⟩
    have B5 : Blk w1 (w.heap.size) 35 #[.slice ka m.fs.length kc, .slice va m.us.length vc] := ((((Blk.new _ _ _).kept (below_alloc _)).kept (below_alloc _)).kept (below_alloc _)).keep hbx (show w.heap.size ≠ pd by omega)
    have B6 : Blk w1 (w.heap.size + 1) 78 #[.func (.func 32) #[] #[.pointer (some ⟨pd, 0, none⟩)]] := (((Blk.newAt (by simp)).kept (below_alloc _)).kept (below_alloc _)).keep hbx (show w.heap.size + 1 ≠ pd by omega)
    have B7 : Blk w1 (w.heap.size + 1 + 1) 80 #[.func (.func 34) #[] #[]] := ((Blk.newAt (by simp)).kept (below_alloc _)).keep hbx (show w.heap.size + 1 + 1 ≠ pd by omega)
    have B8 : Blk w1 (w.heap.size + 1 + 1 + 1) 4 #[.bool false] := (Blk.newAt (by simp)).keep hbx (show w.heap.size + 1 + 1 + 1 ≠ pd by omega)
    have hbz : Hid (Keep (· ≠ pd) w w1) := hid (kpFirst (by exact blBy) hbx)
    have hs1 : w.heap.size + 4 ≤ w1.heap.size := by have := hbx.size; simpa using this
    clear hbx HH
    have x8 := B8.cellF
    have y8 := B8.frz
    have z8 := B8.lt
    have x5 := B5.cellF
    have z5 := B5.lt
    have HBd := hid Bd
    clear Bd
    gi_wp2
    refine wpIn_loop (fun a W => ∃ (j : Nat) (gj : Nat) (Ds : List Nat) (u10 u11 u12 u22 u23 u24 u25 u26 u27 u28 u29 u30 u31 u32 u33 u34 u35 u36 u37 u38 : Value), a = { tmps := #[.int .i64 ((k : Int) + 1), .agg #[.slice ka m.fs.length kc, .slice va m.us.length vc], .func (.func 32) #[] #[.pointer (some ⟨pd, 0, none⟩)], .func (.func 34) #[] #[], undef, .pointer (some ⟨w.heap.size, 0, none⟩), .pointer (some ⟨w.heap.size + 1, 0, none⟩), .pointer (some ⟨w.heap.size + 1 + 1, 0, none⟩), .pointer (some ⟨w.heap.size + 1 + 1 + 1, 0, none⟩), undef, u10, u11, u12, .func (.func 32) #[] #[.pointer (some ⟨pd, 0, none⟩)], .int .i64 ((k : Int) + 1), .agg #[.slice ka m.fs.length kc, .slice va m.us.length vc], .bool true, .bool false, .pointer (some ⟨w.heap.size, 0, none⟩), .slice ka m.fs.length kc, .int .i64 (m.fs.length : Int), .int .i64 (j : Int), u22, u23, u24, u25, u26, u27, u28, u29, u30, u31, u32, u33, u34, u35, u36, u37, u38], defers := Ds.map mkD } ∧ j ≤ m.fs.length ∧ Hid (res = (m.fs.drop j).foldl (fun a f => (allM f).foldl (fun a z => dpW d (k + 1 + 1) a z) a) gj) ∧ Hid (k + 1 ≤ gj ∧ gj ≤ 8000000) ∧ Hid (Blk W pd 3 #[.int .i64 (gj : Int)]) ∧ Hid (Coll W w1.heap.size Ds) ∧ Hid (Keep (· ≠ pd) w1 W)) (fun a _ => m.fs.length - (intOf (a.tmps.getD 21 undef)).toNat) ⟨0, max g (k + 1), [], undef, undef, undef, undef, undef, undef, undef, undef, undef, undef, undef, undef, undef, undef, undef, undef, undef, undef, undef, undef, rfl, by omega, HX, hid ⟨by omega, by omega⟩, HBd, hid (Coll.nil _ _), hid (Keep.refl _ _)⟩ ?_
    rintro a W ⟨j, gj, Ds, u10, u11, u12, u22, u23, u24, u25, u26, u27, u28, u29, u30, u31, u32, u33, u34, u35, u36, u37, u38, rfl, hj, HA, HGJ, HBJ, HC, hb⟩
    have B6' := B6.keep hb.out (show w.heap.size + 1 ≠ pd by omega)
    have B7' := B7.keep hb.out (show w.heap.size + 1 + 1 ≠ pd by omega)
    have B8' := B8.keep hb.out (show w.heap.size + 1 + 1 + 1 ≠ pd by omega)
    have x6 := B6'.cellF
    have z6 := B6'.lt
    have x7 := B7'.cellF
    have z7 := B7'.lt
    clear x5 z5 x8 y8 z8
    by_cases hlt : j < m.fs.length
    · have k2 : (j : Int) < (m.fs.length : Int) := by omega
      obtain ⟨b1, o1, pa, pc, qa, qc, rfl, -, hb1, c0, c1, c2, he⟩ := fls_at (FlsR.go G.out (hbz.out.trans hb.out) hZ (fun _ h => h)) hlt
      have HD : Hid ((m.fs.drop j).foldl (fun a f => (allM f).foldl (fun a z => dpW d (k + 1 + 1) a z) a) gj = (m.fs.drop (j + 1)).foldl (fun a f => (allM f).foldl (fun a z => dpW d (k + 1 + 1) a z) a) ((allM m.fs[j]).foldl (fun a z => dpW d (k + 1 + 1) a z) gj)) := hid (by rw [List.drop_eq_getElem_cons hlt, List.foldl_cons])
      have HFE := hid he
      clear he
      generalize m.fs[j] = f at *
      gi_wp2_with fail
      refine ⟨trivial, (callsIn_wide.2 (blwDT _ ((k : Int) + 1) (by omega) (by omega) Z d _ f (HFE.out.kept (by exact blBy)))).mono ?_⟩
      rintro e w2 ⟨rfl, hbx⟩
      have B10 : Blk w2 W.heap.size 29 #[.int .i64 f.num, .slice pa f.ks.length pc, .slice qa f.vs.length qc] := (Blk.new _ _ _).kept hbx
      have hb2 : Hid (Below W.heap.size W w2) := hid (below_trans (below_alloc _) hbx)
      clear hbx
      have x10 := B10.cellF
      have z10 := B10.lt
      gi_wp2_with fail
      refine ⟨trivial, (callsIn_wide.2 (msgsOfT _ f pa qa pc qc)).mono ?_⟩
      rintro e w3 ⟨rfl, hw3⟩
      have B11 : Blk w3 w2.heap.size 3 #[.int .i64 ((k : Int) + 1 + 1)] := by rw [hw3]; exact (Blk.new _ _ _).kept (below_alloc _)
      have Bq : Blk w3 (w2.heap.size + 1) 29 #[.int .i64 f.num, .slice pa f.ks.length pc, .slice qa f.vs.length qc] := by rw [hw3]; exact Blk.newAt (by simp)
      have hb3 : Hid (Below W.heap.size W w3) := hid (by rw [hw3]; have := hb2.out; exact blBy)
      have hsq : w2.heap.size + 2 ≤ w3.heap.size := by rw [hw3]; simp
      have esq : (w2.alloc (.cells #[.int .i64 ((k : Int) + 1 + 1)] 3)).heap.size = w2.heap.size + 1 := by simp
      rw [esq]
      clear hw3 esq x10 z10 B10 c0 c1 c2 hb1 x6 z6 x7 z7
      have hFX := FldE.old' (HFE.out.kept hb3.out) (fun cs z hz => MsgE.old d cs z hz)
      obtain ⟨_, _, _, _, ef, g1, g2, -⟩ := fld_open hFX
      simp only [List.cons.injEq, Value.slice.injEq, true_and, and_true] at ef
      obtain ⟨⟨rfl, rfl⟩, rfl, rfl⟩ := ef
      have B6q := B6'.kept hb3.out
      have B7q := B7'.kept hb3.out
      have B8q := B8'.kept hb3.out
      have BDq := hid (HBJ.out.kept hb3.out)
      have hbq : Hid (Keep (· ≠ pd) w w3) := hid (kpBl (hbz.out.trans hb.out) hb3.out)
      have hbq1 : Hid (Keep (· ≠ pd) w1 w3) := hid (kpBl hb.out hb3.out)
      have HCq := hid (HC.out.kept hb3.out)
      have hs2 : W.heap.size ≤ w2.heap.size := hb2.out.size
      have hsW := hb.out.size
      have hG1 := HGJ.out.1
      have hG2 := HGJ.out.2
      have hpd3 : pd < w3.heap.size := by omega
      clear B6' B7' B8' hb2 HFE hFX
      gi_wp2_with fail
      refine wpIn_rangeFunc_ownH rfl (by omega) (gf := 107) (lb := #[.pointer (some ⟨w2.heap.size + 1, 0, none⟩)]) rfl trivial cfIter (msgsOf_inK (fun b => b < w3.heap.size ∧ b ≠ pd) w3 (fun b => Z b ∧ b < w3.heap.size) d (3 - 1) (by omega) (w2.heap.size + 1) f pa qa pc qc Bq (fun b hb => ⟨hb.2, hZ b hb.1⟩) g1 g2) keepK_t (keepK_b hpd3) (Below.refl _ _) (fun _ => rfl)
        (fun pre W' => Keep (· ≠ pd) w3 W' ∧ Blk W' pd 3 #[.int .i64 (((pre.map (fun z => z.1.2)).foldl (fun a z => dpW d (k + 1 + 1) a z) gj : Nat) : Int)])
        (fun c pre W' => False)
        (own_keepD (fun (pre : List (XM w3 (fun b => Z b ∧ b < w3.heap.size) d (allM f))) => #[.int .i64 (((pre.map (fun z => z.1.2)).foldl (fun a z => dpW d (k + 1 + 1) a z) gj : Nat) : Int)]) hpd3)
        (fun c => ownFrom_pure _ _)
        ⟨Keep.refl _ _, BDq.out⟩
        (fun z a' W' => ∃ Bx, w3.heap.size ≤ Bx ∧ Blk W' Bx 35 z.1.1.toArray ∧ a' = { tmps := #[.int .i64 ((k : Int) + 1), .agg #[.slice (some ⟨b1, o1, none⟩) m.fs.length kc, .slice va m.us.length vc], .func (.func 32) #[] #[.pointer (some ⟨pd, 0, none⟩)], .func (.func 34) #[] #[], undef, .pointer (some ⟨w.heap.size, 0, none⟩), .pointer (some ⟨w.heap.size + 1, 0, none⟩), .pointer (some ⟨w.heap.size + 1 + 1, 0, none⟩), .pointer (some ⟨w.heap.size + 1 + 1 + 1, 0, none⟩), undef, .pointer (some ⟨W.heap.size, 0, none⟩), .pointer (some ⟨w2.heap.size, 0, none⟩), .pointer (some ⟨Bx, 0, none⟩), .func (.func 32) #[] #[.pointer (some ⟨pd, 0, none⟩)], .int .i64 ((k : Int) + 1), .agg #[.slice (some ⟨b1, o1, none⟩) m.fs.length kc, .slice va m.us.length vc], .bool true, .bool false, .pointer (some ⟨w.heap.size, 0, none⟩), .slice (some ⟨b1, o1, none⟩) m.fs.length kc, .int .i64 (m.fs.length : Int), .int .i64 (j : Int), .bool true, .pointer (some ⟨b1, o1 + j * 3, none⟩), .agg #[.int .i64 f.num, .slice pa f.ks.length pc, .slice qa f.vs.length qc], .func (.func 34) #[] #[], .int .i64 ((k : Int) + 1), .agg #[.int .i64 f.num, .slice pa f.ks.length pc, .slice qa f.vs.length qc], .int .i64 ((k : Int) + 1 + 1), .agg #[.int .i64 f.num, .slice pa f.ks.length pc, .slice qa f.vs.length qc], .func (.func 107) #[] #[.pointer (some ⟨w2.heap.size + 1, 0, none⟩)], .agg z.1.1.toArray, u32, u33, u34, u35, u36, u37, u38], defers := [] })
        (fun z a' _ X Y row hs hg hr => by obtain ⟨Bx, h1, h2, h3⟩ := hs; exact ⟨Bx, h1, blk_own h2 hg (fun r e => (hr r e).2), h3⟩)
        ?assign ?body ?done ?stop
      case assign =>
        rintro l pre z W' K ⟨hK1, hBd⟩ hK
        obtain ⟨⟨zc, zm⟩, hz⟩ := z
        have hz' : MsgE w3 (fun b => Z b ∧ b < w3.heap.size) d zc zm := hz.1
        obtain ⟨fa, fc, ua, uc, e0, -⟩ := msg_openD hz'
        subst e0
        dsimp only [encM] at hK ⊢
        gi_wp2
        exact hK _ _ ((KeepsOthers.alloc _ _).from _) (Keep.ofBelow (below_alloc _)) ⟨kpBl hK1 (below_alloc _), hBd.kept (below_alloc _)⟩ ⟨W'.heap.size, hK1.size, Blk.new _ _ _, rfl⟩
      case body =>
        rintro l pre z a' W' hl ⟨r, hr⟩ ⟨hK1, hBd⟩ ⟨Bx, hBx, bX, rfl⟩ hlt2
        obtain ⟨⟨zc, zm⟩, hz⟩ := z
        have hz' : MsgE w3 (fun b => Z b ∧ b < w3.heap.size) d zc zm := hz.1
        have HZ := hid hz'
        obtain ⟨fa, fc, ua, uc, e0, -⟩ := msg_openD hz'
        subst e0
        dsimp only at bX
        have C6 := B6q.keep hK1 (show w.heap.size + 1 ≠ pd by omega)
        have C7 := B7q.keep hK1 (show w.heap.size + 1 + 1 ≠ pd by omega)
        have C11 := B11.keep hK1 (show w2.heap.size ≠ pd by omega)
        have x6 := C6.cellF
        have z6 := C6.lt
        have x7 := C7.cellF
        have z7 := C7.lt
        have x11 := C11.cellF
        have z11 := C11.lt
        have xX := bX.cellF
        have zX := bX.lt
        have HPL := hid (dpL_le d (k + 1) 8000000 (pre.map (fun z => z.1.2)) gj hG1 hG2 (by omega))
        have HFO : Hid (((pre ++ [(⟨([.slice fa zm.fs.length fc, .slice ua zm.us.length uc], zm), hz⟩ : XM w3 (fun b => Z b ∧ b < w3.heap.size) d (allM f))]).map (fun z => z.1.2)).foldl (fun a z => dpW d (k + 1 + 1) a z) gj = dpW d (k + 1 + 1) ((pre.map (fun z => z.1.2)).foldl (fun a z => dpW d (k + 1 + 1) a z) gj) zm) := hid (by rw [List.map_append, List.foldl_append]; rfl)
        generalize (pre.map (fun z => z.1.2)).foldl (fun a z => dpW d (k + 1 + 1) a z) gj = cur at *
        have HIW := hid (IH.out (fun b => Z b ∧ b < w3.heap.size) W' (k + 1) cur [.slice fa zm.fs.length fc, .slice ua zm.us.length uc] zm (fun b hb => hZ b hb.1) hBd (Nat.le_trans hG1 HPL.out.2) HPL.out.1 (by omega) (MsgE.go hK1 (fun b hb => hZ b hb.1) (fun _ h => h) d _ _ HZ.out))
        rw [show ((k + 1 : Nat) : Int) = (k : Int) + 1 by omega] at HIW
        have HK1 := hid hK1
        clear hK1 hlt2 hBd
        gi_wp2_with fail
        refine ⟨trivial, (CallsIn.inRound l (callsIn_wide.2 HIW.out)).mono ?_⟩
        rintro e W4 ⟨rfl, hb4, Bd4⟩
        have HB4 := hid hb4
        have HBd4 := hid Bd4
        have hsB := HK1.out.size
        have HKF : Hid (KeepsFrom w3.heap.size W' W4) := hid ⟨hb4.size, fun k o h1 hk _ => (hb4.block k (Array.getElem?_eq_some_iff.1 hk).1 (by omega)).trans hk⟩
        clear hb4 HIW x6 z6 x7 z7 x11 z11 xX zX Bd4
        gi_wp2
        exact ⟨HKF.out, HB4.out.weak (fun _ h => h.2), HK1.out.trans HB4.out, by rw [HFO.out]; exact HBd4.out⟩
      case done =>
        rintro D xs W' hD hS ⟨hK1, hBd⟩ hK
        have HK1 := hid hK1
        rw [hS] at hBd
        have HBd2 := hid hBd
        have HPL := hid (dpL_le d (k + 1) 8000000 (allM f) gj hG1 hG2 (by omega))
        have HR : Hid (res = (m.fs.drop (j + 1)).foldl (fun a f => (allM f).foldl (fun a z => dpW d (k + 1 + 1) a z) a) ((allM f).foldl (fun a z => dpW d (k + 1 + 1) a z) gj)) := hid (by rw [HA.out, HD.out])
        generalize (allM f).foldl (fun a z => dpW d (k + 1 + 1) a z) gj = nx at *
        have hsw := hK1.size
        have HCd : Hid (Coll W' w1.heap.size (D :: Ds)) := hid ((HCq.out.keep (fun E hE => hK1.block E (HCq.out.lt hE) (by have := (HCq.out.2 E hE).1; omega))).cons (by omega) (fun h => by have := HCq.out.lt h; omega) hK)
        have hbd : Hid (Keep (· ≠ pd) w1 W') := hid (hbq1.out.trans hK1)
        clear hK1 hS hK hBd
        gi_wp2
        exact ⟨⟨j + 1, nx, D :: Ds, _, _, _, _, _, _, _, _, _, _, _, _, _, _, _, _, _, _, _, _, rfl, by omega, HR, hid ⟨Nat.le_trans hG1 HPL.out.2, HPL.out.1⟩, HBd2, HCd, hbd⟩, by simp [intOf]; omega⟩
      case stop =>
        rintro D c pre W' hD hSp hF hK
        exact hF.elim
    · have k2 : ¬ (j : Int) < (m.fs.length : Int) := by omega
      have HE : Hid (res = gj) := hid (by rw [HA.out, List.drop_of_length_le (by omega)]; rfl)
      have x8 := B8'.cellF
      have y8 := B8'.frz
      have z8 := B8'.lt
      have HB8 := hid (B8'.set 0 (.bool true))
      have hbw : Hid (Keep (· ≠ pd) w W) := hid (hbz.out.trans hb.out)
      have hsW := hb.out.size
      gi_wp2
      refine leave_all (base := w1.heap.size) 3 Ds _ (HC.out.keep (fun D hD => Below.heap_setCell _ _ _ _ (by have := (HC.out.2 D hD).1; simp; omega))) (by simpa [World.setCell] using hsW) (fun W' hW' => ?_)
      have B9 : Blk W' (w.heap.size + 1 + 1 + 1) 4 #[.bool true] := (hW'.block _ (by omega)).trans HB8.out
      have x9 := B9.cellF
      have y9 := B9.frz
      have z9 := B9.lt
      have Bz : Blk W' pd 3 #[.int .i64 (gj : Int)] := (hW'.block _ (by omega)).trans (HBJ.out.other (by simp; omega) _)
      exact ⟨.bool true, by simp [results, Tryz.results33, go_sem, x9, y9, z9], rfl, kpThen (kpThen hbw.out (by have := Below.refl w.heap.size W; exact Below.setCell this (by simp; omega) _)) (hW'.mono (by omega)), by rw [HE.out]; exact Bz⟩
theorem depthT (d : Nat) (hd : d ≤ 4000000) (w : World) (Z : Nat → Prop) (cs : List Value) (m : CM) (h : MsgE w Z d cs m) : Calls Tryz.prog 15 #[.agg cs.toArray] w fun e w' => e = .returned (.int .i64 (depM d m)) ∧ Below w.heap.size w w' := by
  have h0 := MsgE.old d _ _ h
  have HW : Hid (∀ (W : World) (p : Nat), Below w.heap.size w W → w.heap.size ≤ p → Blk W p 3 #[.int .i64 0] → Calls Tryz.prog 33 #[.int .i64 1, .agg cs.toArray, .func (.func 32) #[] #[.pointer (some ⟨p, 0, none⟩)], .func (.func 34) #[] #[]] W fun e w' => e = .returned (.bool true) ∧ Keep (· ≠ p) W w' ∧ Blk w' p 3 #[.int .i64 ((depM d m : Nat) : Int)]) := hid fun W p hW hp hB => by
    have := walkD p d (fun b => Z b ∧ b < w.heap.size) W 0 0 cs m (fun b hb => by have := hb.2; omega) hB (Nat.le_refl _) (by omega) (by omega) (h0.kept hW)
    rw [show dpW d (0 + 1) 0 m = depM d m from depth_of d m] at this
    exact this
  obtain ⟨ka, kc, va, vc, rfl, -⟩ := msg_openD h
  generalize depM d m = res at *
  clear h h0
  go_enter Tryz.func15, Tryz.ntmps15
  go_wp2_with fail
  refine (HW.out _ (w.heap.size + 1) (by exact blBy) (by omega) (Blk.newAt (by simp))).mono ?_
  rintro e w1 ⟨rfl, hk, Bd⟩
  have hb1 : Hid (Below w.heap.size w w1) := hid (Below.trans (by exact blBy) (hk.below (by simp; omega) (fun k hk => by omega)))
  have xd := Bd.cellF
  have zd := Bd.lt
  clear hk
  go_wp2
  go_ret
  exact ⟨rfl, hb1.out⟩
end Go.Proofs.YtnfdlnelfnigdaaGreatDoor
