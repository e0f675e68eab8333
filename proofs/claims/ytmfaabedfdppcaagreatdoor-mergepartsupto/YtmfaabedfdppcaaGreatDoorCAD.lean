/-
  Equal: what the document answers.
  Equal: what the document answers, at every depth.
  The examples' numbers and messages; what merged says.
  The law's own merged; a number twice, a list twice.
  A number twice, a list twice: they are merged as the document says.
-/
import Derived.Test.YtmfaabedfdppcaaGreatDoorCIO
import Derived.Deep.RegionWith
import Derived.BigQuiet
import Derived.Test.YtmfaabedfdppcaaGreatDoorCGP
import Derived.Test.YtmfaabedfdppcaaGreatDoorCTY
namespace Go.Proofs.YtmfaabedfdppcaaGreatDoor
open Go.RowKit
set_option maxRecDepth 1000000
set_option linter.unusedVariables false
set_option linter.unusedSimpArgs false
set_option maxHeartbeats 2000000
theorem bl_drewW (w : World) : Below w.heap.size w w.drew := below_drew1 w
theorem sameD (w : World) (Z Z2 : Nat → Prop) (cs ds : List Value) (x y : CE) (h1 : EntE w Z cs x) (h2 : EntE w Z2 ds y) : Calls Tryz.prog 57 #[.agg cs.toArray, .agg ds.toArray] w (EqR w (x = y)) := by
  obtain ⟨ka1, kc1, rfl, g1, -⟩ := ent_open h1
  obtain ⟨ka2, kc2, rfl, g2, -⟩ := ent_open h2
  have k1 := by_conv (g1.kept (by exact blBy : Below w.heap.size w ((w.alloc (.cells #[.int .i64 x.num, .int .i64 x.kind, .int .u64 x.n, .slice ka1 x.b.length kc1] 117)).alloc (.cells #[.int .i64 y.num, .int .i64 y.kind, .int .u64 y.n, .slice ka2 y.b.length kc2] 117))))
  have k2 := by_conv (g2.kept (by exact blBy : Below w.heap.size w ((w.alloc (.cells #[.int .i64 x.num, .int .i64 x.kind, .int .u64 x.n, .slice ka1 x.b.length kc1] 117)).alloc (.cells #[.int .i64 y.num, .int .i64 y.kind, .int .u64 y.n, .slice ka2 y.b.length kc2] 117))))
  have HS := str_eq (xs := x.b) (ys := y.b) (fun v hv => g1.2.1 v hv) (fun v hv => g2.2.1 v hv)
  clear g1 g2 h1 h2
  go_enter Tryz.func57, Tryz.ntmps57
  by_cases e1 : x.num = y.num
  case neg =>
    have kq : (x.num == y.num) = false := by simpa using e1
    have HX := hid e1
    clear e1
    go_wp2
    go_ret
    exact EqR.no (fun e => HX.out (by rw [e])) (by exact blBy)
  have kqe1 : (x.num == y.num) = true := by simpa using e1
  have He1 := hid e1
  clear e1
  by_cases e2 : x.kind = y.kind
  case neg =>
    have kq : (x.kind == y.kind) = false := by simpa using e2
    have HX := hid e2
    clear e2
    go_wp2
    go_ret
    exact EqR.no (fun e => HX.out (by rw [e])) (by exact blBy)
  have kqe2 : (x.kind == y.kind) = true := by simpa using e2
  have He2 := hid e2
  clear e2
  by_cases e3 : x.n = y.n
  case neg =>
    have kq : (x.n == y.n) = false := by simpa using e3
    have HX := hid e3
    clear e3
    go_wp2
    go_ret
    exact EqR.no (fun e => HX.out (by rw [e])) (by exact blBy)
  have kqe3 : (x.n == y.n) = true := by simpa using e3
  have He3 := hid e3
  clear e3
  by_cases e4 : x.b = y.b
  · rw [decide_eq_true e4] at HS
    have He4 := hid e4
    clear e4
    go_wp2
    go_ret
    exact EqR.yes (CE.ext4 He1.out He2.out He3.out He4.out) (by exact blBy)
  · rw [decide_eq_false e4] at HS
    have HX := hid e4
    clear e4
    go_wp2
    go_ret
    exact EqR.no (fun e => HX.out (by rw [e])) (by exact blBy)
theorem listD (w : World) (Z Z2 : Nat → Prop) (xs ys : List CE) (a1 a2 : Option Addr) (c1 c2 : Nat) (h1 : EnsR w Z (.slice a1 xs.length c1) xs) (h2 : EnsR w Z2 (.slice a2 ys.length c2) ys) : Calls Tryz.prog 34 #[.slice a1 xs.length c1, .slice a2 ys.length c2] w (EqR w (xs = ys)) := by
  obtain ⟨_, _, e1, l1⟩ := RowM.sl h1
  clear e1
  have m1 : (xs.length : Int) ≤ 9223372036854775807 := by omega
  have H1 := hid h1
  have H2 := hid h2
  clear h1 h2
  by_cases hl : xs.length = ys.length
  · have HL := hid hl
    rw [← hl] at H2
    rw [← hl]
    clear hl
    go_enter Tryz.func34, Tryz.ntmps34
    go_wp2
    go_loopw [5] (fun r wr => ∃ j : Nat, r = .int .i64 j ∧ j ≤ xs.length ∧ Hid (xs.take j = ys.take j) ∧ Hid (Below w.heap.size w wr)) (fun r wr => xs.length - numAt wr r)
    case atStart => exact ⟨0, rfl, by omega, hid rfl, hid (Below.refl _ _)⟩
    case round =>
      obtain ⟨j, rfl, hj, hT, hb⟩ := hrel
      by_cases hlt : j < xs.length
      · have k2 : (j : Int) < (xs.length : Int) := by omega
        have hlt2 : j < ys.length := by have := HL.out; omega
        obtain ⟨b1, o1, ka1, kc1, rfl, -, hb1, c10, c11, c12, c13, he1⟩ := ens_at (H1.out.kept hb.out) hlt
        obtain ⟨b2, o2, ka2, kc2, rfl, -, hb2, c20, c21, c22, c23, he2⟩ := ens_at (H2.out.kept hb.out) hlt2
        have HE1 := hid he1
        have HE2 := hid he2
        have HN := hid (fun h => take_next hlt hlt2 hT.out h)
        have HNO := hid (fun h => ne_at (xs := xs) (ys := ys) hlt hlt2 h)
        clear he1 he2
        generalize xs[j] = x at *
        generalize ys[j] = y at *
        go_wp2_with fail
        go_region_with (go_at_call 57; refine (sameD _ Z Z2 [.int .i64 x.num, .int .i64 x.kind, .int .u64 x.n, .slice ka1 x.b.length kc1] [.int .i64 y.num, .int .i64 y.kind, .int .u64 y.n, .slice ka2 y.b.length kc2] x y (HE1.out.kept (bl_drewW _)) (HE2.out.kept (bl_drewW _))).mono ?_; rintro e w1 ⟨r, rfl, hr, hbx⟩; replace hr := hid hr; replace hbx : Hid (Below w.heap.size w w1) := hid (bl_then (bl_drew hb.out) hbx))
        all_goals
          cases r with
          | true =>
            have HX : Hid (x = y) := hid (hr.out.1 rfl)
            clear hr
            go_wp2
            exact ⟨⟨j + 1, by simp, by omega, hid (HN.out HX.out), hbx⟩, by simp [numAt]; omega⟩
          | false =>
            have HX : Hid (¬ x = y) := hid (fun e => (by have := hr.out.2 e; cases this))
            clear hr
            go_wp2
            go_ret
            exact EqR.no (HNO.out HX.out) hbx.out
      · have k2 : ¬ (j : Int) < (xs.length : Int) := by omega
        go_wp2
        go_ret
        exact EqR.yes (take_all (by omega) (by have := HL.out; omega) hT.out) hb.out
  · have q0 : ((xs.length : Int) == (ys.length : Int)) = false := by simp; omega
    have HL := hid hl
    clear hl
    go_enter Tryz.func34, Tryz.ntmps34
    go_wp2
    go_ret
    exact EqR.no (fun q => HL.out (by rw [q])) (Below.refl _ _)
/-- The document's Equal at a depth. -/
def EqDAt (d : Nat) : Prop := ∀ (w : World) (Z Z2 : Nat → Prop) (cs ds : List Value) (m m' : CM), MsgE w Z d cs m → MsgE w Z2 d ds m' → Calls Tryz.prog 21 #[.agg cs.toArray, .agg ds.toArray] w (EqR w (m = m'))
theorem valsD (d : Nat) (HE : EqDAt d) (w : World) (Z Z2 : Nat → Prop) (xs ys : List (CV CM)) (a1 a2 : Option Addr) (c1 c2 : Nat) (h1 : VlsR w Z d (.slice a1 xs.length c1) xs) (h2 : VlsR w Z2 d (.slice a2 ys.length c2) ys) : Calls Tryz.prog 27 #[.slice a1 xs.length c1, .slice a2 ys.length c2] w (EqR w (xs = ys)) := by
  obtain ⟨_, _, e1, l1⟩ := RowM.sl h1
  clear e1
  have m1 : (xs.length : Int) ≤ 9223372036854775807 := by omega
  have H1 := hid h1
  have H2 := hid h2
  replace HE := hid HE
  clear h1 h2
  by_cases hl : xs.length = ys.length
  · have HL := hid hl
    rw [← hl] at H2
    rw [← hl]
    clear hl
    go_enter Tryz.func27, Tryz.ntmps27
    go_wp2
    go_loopw [5] (fun r wr => ∃ j : Nat, r = .int .i64 j ∧ j ≤ xs.length ∧ Hid (xs.take j = ys.take j) ∧ Hid (Below w.heap.size w wr)) (fun r wr => xs.length - numAt wr r)
    case atStart => exact ⟨0, rfl, by omega, hid rfl, hid (Below.refl _ _)⟩
    case round =>
      obtain ⟨j, rfl, hj, hT, hb⟩ := hrel
      by_cases hlt : j < xs.length
      · have k2 : (j : Int) < (xs.length : Int) := by omega
        have hlt2 : j < ys.length := by have := HL.out; omega
        obtain ⟨b1, o1, ka1, kc1, va1, vc1, rfl, -, hb1, c10, c11, c12, he1⟩ := vls_at (H1.out.kept hb.out) hlt
        obtain ⟨b2, o2, ka2, kc2, va2, vc2, rfl, -, hb2, c20, c21, c22, he2⟩ := vls_at (H2.out.kept hb.out) hlt2
        obtain ⟨_, _, _, _, e1, g1, q1, -, ml1, -⟩ := val_open he1
        simp only [List.cons.injEq, Value.slice.injEq, true_and, and_true] at e1
        obtain ⟨⟨rfl, rfl⟩, rfl, rfl⟩ := e1
        obtain ⟨_, _, _, _, e2, g2, q2, -, ml2, -⟩ := val_open he2
        simp only [List.cons.injEq, Value.slice.injEq, true_and, and_true] at e2
        obtain ⟨⟨rfl, rfl⟩, rfl, rfl⟩ := e2
        have Q1 := hid q1
        have Q2 := hid q2
        have HN := hid (fun h => take_next hlt hlt2 hT.out h)
        have HNO := hid (fun h => ne_at (xs := xs) (ys := ys) hlt hlt2 h)
        have HS := str_eq (xs := xs[j].b) (ys := ys[j].b) (fun v hv => g1.2.1 v hv) (fun v hv => g2.2.1 v hv)
        have k3 : ∀ z, (convert 36 9 (.slice ka1 xs[j].b.length kc1)).run Tryz.prog (wr.drewN z) = .ok (.string (strOfNums xs[j].b)) (wr.drewN z) := fun z => by_conv (g1.kept (below_drewN _ _))
        have k4 : ∀ z, (convert 36 9 (.slice ka2 ys[j].b.length kc2)).run Tryz.prog (wr.drewN z) = .ok (.string (strOfNums ys[j].b)) (wr.drewN z) := fun z => by_conv (g2.kept (below_drewN _ _))
        clear he1 he2 g1 g2 q1 q2
        generalize xs[j] = x at *
        generalize ys[j] = y at *
        have ml3 : (x.ms.length : Int) ≤ 9223372036854775807 := by omega
        by_cases e1 : x.n = y.n
        case neg =>
          have kq : (x.n == y.n) = false := by simpa using e1
          have kn : (x.n != y.n) = true := by simp [bne, kq]
          have HX : Hid (¬ x = y) := hid (fun e => e1 (by rw [e]))
          clear e1
          go_wp2
          go_quiet (fail)
          go_wp2
          go_ret
          exact EqR.no (HNO.out HX.out) (by have := hb.out; exact blBy)
        have kq1 : (x.n == y.n) = true := by simpa using e1
        have kn1 : (x.n != y.n) = false := by simp only [bne, kq1, Bool.not_true]
        have He1 := hid e1
        clear e1
        by_cases e2 : x.b = y.b
        case neg =>
          rw [decide_eq_false e2] at HS
          have ks : ((strOfNums x.b).toList != (strOfNums y.b).toList) = true := by simp only [bne, HS, Bool.not_false]
          have HX : Hid (¬ x = y) := hid (fun e => e2 (by rw [e]))
          clear e2
          go_wp2
          go_quiet (fail)
          go_wp2
          go_ret
          exact EqR.no (HNO.out HX.out) (by have := hb.out; exact blBy)
        rw [decide_eq_true e2] at HS
        have ks : ((strOfNums x.b).toList != (strOfNums y.b).toList) = false := by simp only [bne, HS, Bool.not_true]
        have He2 := hid e2
        clear e2
        by_cases e3 : x.ms.length = y.ms.length
        case neg =>
          have kq3 : ((x.ms.length : Int) == (y.ms.length : Int)) = false := by simp; omega
          have kn3 : ((x.ms.length : Int) != (y.ms.length : Int)) = true := by simp only [bne, kq3, Bool.not_false]
          have kn4 : (x.ms.length != y.ms.length) = true := by simpa using e3
          have HX : Hid (¬ x = y) := hid (fun e => e3 (by rw [e]))
          clear e3
          go_wp2
          go_quiet (fail)
          go_wp2
          go_ret
          exact EqR.no (HNO.out HX.out) (by have := hb.out; exact blBy)
        have He3 := hid e3
        rw [← e3] at c22 Q2
        clear e3 ml2
        go_wp2
        go_quiet (fail)
        replace hb : Hid (Below w.heap.size w (wr.drewN nq)) := hid (by have := hb.out; exact blBy)
        replace c12 := cell_below c12 (below_drewN wr nq)
        replace c22 := cell_below c22 (below_drewN wr nq)
        replace Q1 := hid (Q1.out.kept (below_drewN wr nq))
        replace Q2 := hid (Q2.out.kept (below_drewN wr nq))
        clear c10 c11 c20 c21 k3 k4 HS ks hb1 hb2
        generalize wr.drewN nq = wq at *
        have hb1 : b1 < wq.heap.size := World.block_lt_of_cell? _ _ c12
        have hb2 : b2 < wq.heap.size := World.block_lt_of_cell? _ _ c22
        have C1 := hid c12
        have C2 := hid c22
        clear c12 c22
        go_wp2
        go_loopw [6] (fun r wr => ∃ i : Nat, r = .int .i64 i ∧ i ≤ x.ms.length ∧ Hid (x.ms.take i = y.ms.take i) ∧ Hid (Below wq.heap.size wq wr)) (fun r wr => x.ms.length - numAt wr r)
        case atStart => exact ⟨0, rfl, by omega, hid rfl, hid (Below.refl _ _)⟩
        case round =>
          obtain ⟨i, rfl, hi, hTi, hbi⟩ := hrel
          have c12 := cell_below C1.out hbi.out
          have c22 := cell_below C2.out hbi.out
          by_cases hil : i < x.ms.length
          · have k5 : (i : Int) < (x.ms.length : Int) := by omega
            have hil2 : i < y.ms.length := by have := He3.out; omega
            obtain ⟨p1, r1, fa1, fc1, ua1, uc1, rfl, -, hp1, m10, m11, hm1⟩ := mgs_at' (Q1.out.kept hbi.out) hil
            obtain ⟨p2, r2, fa2, fc2, ua2, uc2, rfl, -, hp2, m20, m21, hm2⟩ := mgs_at' (Q2.out.kept hbi.out) hil2
            have HM1 := hid hm1
            have HM2 := hid hm2
            have HNi := hid (fun h => take_next hil hil2 hTi.out h)
            have HNOi := hid (fun h => ne_at (xs := x.ms) (ys := y.ms) hil hil2 h)
            clear hm1 hm2
            generalize x.ms[i] = mx at *
            generalize y.ms[i] = my at *
            go_wp2_with fail
            go_region_with (go_at_call 21; refine (HE.out _ Z Z2 [.slice fa1 mx.fs.length fc1, .slice ua1 mx.us.length uc1] [.slice fa2 my.fs.length fc2, .slice ua2 my.us.length uc2] mx my (HM1.out.kept (bl_drewW _)) (HM2.out.kept (bl_drewW _))).mono ?_; rintro e w1 ⟨r, rfl, hr, hbx⟩; replace hr := hid hr; replace hbx : Hid (Below wq.heap.size wq w1) := hid (bl_then (bl_drew hbi.out) hbx))
            all_goals
              cases r with
              | true =>
                have HX : Hid (mx = my) := hid (hr.out.1 rfl)
                clear hr
                go_wp2
                exact ⟨⟨i + 1, by simp, by omega, hid (HNi.out HX.out), hbx⟩, by simp [numAt]; omega⟩
              | false =>
                have HX : Hid (¬ mx = my) := hid (fun e => (by have := hr.out.2 e; cases this))
                clear hr
                go_wp2
                go_ret
                exact EqR.no (HNO.out (fun e => HNOi.out HX.out (by rw [e]))) (below_trans hb.out hbx.out)
          · have k5 : ¬ (i : Int) < (x.ms.length : Int) := by omega
            go_wp2
            exact ⟨⟨j + 1, by simp, by omega, hid (HN.out (CV.ext3 He1.out He2.out (take_all (by omega) (by have := He3.out; omega) hTi.out))), hid (below_trans hb.out hbi.out)⟩, by simp [numAt]; omega⟩
      · have k2 : ¬ (j : Int) < (xs.length : Int) := by omega
        go_wp2
        go_ret
        exact EqR.yes (take_all (by omega) (by have := HL.out; omega) hT.out) hb.out
  · have q0 : ((xs.length : Int) == (ys.length : Int)) = false := by simp; omega
    have HL := hid hl
    clear hl
    go_enter Tryz.func27, Tryz.ntmps27
    go_wp2
    go_ret
    exact EqR.no (fun q => HL.out (by rw [q])) (Below.refl _ _)
theorem sameFieldD (d : Nat) (HE : EqDAt d) (w : World) (Z Z2 : Nat → Prop) (cs ds : List Value) (x y : CF CM) (h1 : FldE w Z (MsgE w Z d) cs x) (h2 : FldE w Z2 (MsgE w Z2 d) ds y) : Calls Tryz.prog 15 #[.agg cs.toArray, .agg ds.toArray] w (EqR w (x = y)) := by
  obtain ⟨ka1, kc1, va1, vc1, rfl, g1, m1, -⟩ := fld_open h1
  obtain ⟨ka2, kc2, va2, vc2, rfl, g2, m2, -⟩ := fld_open h2
  have G1 := hid g1
  have G2 := hid g2
  have M1 := hid m1
  have M2 := hid m2
  replace HE := hid HE
  clear g1 g2 h1 h2 m1 m2
  go_enter Tryz.func15, Tryz.ntmps15
  by_cases e1 : x.num = y.num
  case neg =>
    have kq : (x.num == y.num) = false := by simpa using e1
    have HX := hid e1
    clear e1
    go_wp2
    go_ret
    exact EqR.no (fun e => HX.out (by rw [e])) (by exact blBy)
  have kqe1 : (x.num == y.num) = true := by simpa using e1
  have He1 := hid e1
  clear e1
  go_wp2_with fail
  refine (valsD d HE.out _ Z Z2 x.ks y.ks ka1 ka2 kc1 kc2 (G1.out.kept (by exact blBy)) (G2.out.kept (by exact blBy))).mono ?_
  rintro e w1 ⟨r1, rfl, hr, hb⟩
  have HR := hid hr
  clear hr
  have Bx : Blk w1 w.heap.size 33 #[.int .i64 x.num, .slice ka1 x.ks.length kc1, .slice va1 x.vs.length vc1] := ((Blk.new _ _ _).kept (below_alloc _)).kept hb
  have By : Blk w1 (w.heap.size + 1) 33 #[.int .i64 y.num, .slice ka2 y.ks.length kc2, .slice va2 y.vs.length vc2] := (Blk.newAt (by simp)).kept hb
  have hbz : Hid (Below w.heap.size w w1) := hid (bl_then (by exact blBy) hb)
  clear hb
  cases r1 with
  | false =>
    have HX : Hid (¬ x.ks = y.ks) := hid (fun e => (by have := HR.out.2 e; cases this))
    clear HR
    go_wp2
    go_ret
    exact EqR.no (fun e => HX.out (by rw [e])) hbz.out
  | true =>
  have e2 : Hid (x.ks = y.ks) := hid (HR.out.1 rfl)
  clear HR
  have xx := Bx.cellF
  have zx := Bx.lt
  have xy := By.cellF
  have zy := By.lt
  go_wp2_with fail
  refine (valsD d HE.out _ Z Z2 x.vs y.vs va1 va2 vc1 vc2 (M1.out.kept hbz.out) (M2.out.kept hbz.out)).mono ?_
  rintro e w2 ⟨r2, rfl, hr, hb⟩
  have HR := hid hr
  clear hr
  replace Bx := Bx.kept hb
  replace By := By.kept hb
  replace hbz : Hid (Below w.heap.size w w2) := hid (bl_then (by have := hbz.out; exact blBy) hb)
  clear xx zx xy zy
  clear hb
  cases r2 with
  | false =>
    have HX : Hid (¬ x.vs = y.vs) := hid (fun e => (by have := HR.out.2 e; cases this))
    clear HR
    go_wp2
    go_ret
    exact EqR.no (fun e => HX.out (by rw [e])) hbz.out
  | true =>
  have e3 : Hid (x.vs = y.vs) := hid (HR.out.1 rfl)
  clear HR
  go_wp2
  go_ret
  exact EqR.yes (CF.ext3 He1.out e2.out e3.out) hbz.out
theorem equalD : ∀ d, EqDAt d
  | 0 => fun _ _ _ _ _ _ _ h => h.elim
  | d + 1 => fun w Z Z2 cs ds x y h1 h2 => by
    have HE := hid (equalD d)
    obtain ⟨ka1, kc1, va1, vc1, rfl, g1, m1, lf1, -⟩ := msg_open h1
    obtain ⟨ka2, kc2, va2, vc2, rfl, g2, m2, -⟩ := msg_open h2
    have G1 := hid g1
    have G2 := hid g2
    have M1 := hid m1
    have M2 := hid m2
    have ln : (x.fs.length : Int) ≤ 9223372036854775807 := by omega
    clear g1 g2 h1 h2 m1 m2
    by_cases hl : x.fs.length = y.fs.length
    · have HL := hid hl
      rw [← hl] at G2
      rw [← hl]
      clear hl
      go_enter Tryz.func21, Tryz.ntmps21
      go_wp2_with fail
      refine (listD _ Z Z2 x.us y.us va1 va2 vc1 vc2 (M1.out.kept (by exact blBy)) (M2.out.kept (by exact blBy))).mono ?_
      rintro e w1 ⟨r1, rfl, hr, hb⟩
      have HR := hid hr
      have Bx : Blk w1 w.heap.size 29 #[.slice ka1 x.fs.length kc1, .slice va1 x.us.length vc1] := ((Blk.new _ _ _).kept (below_alloc _)).kept hb
      have By : Blk w1 (w.heap.size + 1) 29 #[.slice ka2 x.fs.length kc2, .slice va2 y.us.length vc2] := (Blk.newAt (by simp)).kept hb
      have hbz : Hid (Below w.heap.size w w1) := hid (bl_then (by exact blBy) hb)
      clear hb hr
      cases r1 with
      | false =>
        have HX : Hid (¬ x.us = y.us) := hid (fun e => (by have := HR.out.2 e; cases this))
        clear HR
        go_wp2
        go_ret
        exact EqR.no (fun e => HX.out (by rw [e])) hbz.out
      | true =>
      have HU : Hid (x.us = y.us) := hid (HR.out.1 rfl)
      clear HR
      have HBx := hid Bx
      have HBy := hid By
      clear Bx By
      go_wp2
      go_loopw [5] (fun r wr => ∃ j : Nat, r = .int .i64 j ∧ j ≤ x.fs.length ∧ Hid (x.fs.take j = y.fs.take j) ∧ Hid (Below w1.heap.size w1 wr)) (fun r wr => x.fs.length - numAt wr r)
      case atStart => exact ⟨0, rfl, by omega, hid rfl, hid (Below.refl _ _)⟩
      case round =>
        obtain ⟨j, rfl, hj, hT, hb⟩ := hrel
        have Bx := HBx.out.kept hb.out
        have By := HBy.out.kept hb.out
        have xx := Bx.cellF
        have zx := Bx.lt
        have xy := By.cellF
        have zy := By.lt
        clear Bx By
        by_cases hlt : j < x.fs.length
        · have k2 : (j : Int) < (x.fs.length : Int) := by omega
          have hlt2 : j < y.fs.length := by have := HL.out; omega
          obtain ⟨p1, o1, pa1, pc1, qa1, qc1, rfl, -, hp1, c10, c11, c12, he1⟩ := fls_at (G1.out.kept (below_trans hbz.out hb.out)) hlt
          obtain ⟨p2, o2, pa2, pc2, qa2, qc2, rfl, -, hp2, c20, c21, c22, he2⟩ := fls_at (G2.out.kept (below_trans hbz.out hb.out)) hlt2
          have HE1 := hid he1
          have HE2 := hid he2
          have HN := hid (fun h => take_next hlt hlt2 hT.out h)
          have HNO := hid (fun h => ne_at (xs := x.fs) (ys := y.fs) hlt hlt2 h)
          clear he1 he2
          generalize x.fs[j] = f at *
          generalize y.fs[j] = g at *
          go_wp2_with fail
          go_region_with (go_at_call 15; refine (sameFieldD d HE.out _ Z Z2 [.int .i64 f.num, .slice pa1 f.ks.length pc1, .slice qa1 f.vs.length qc1] [.int .i64 g.num, .slice pa2 g.ks.length pc2, .slice qa2 g.vs.length qc2] f g (HE1.out.kept (bl_drewW _)) (HE2.out.kept (bl_drewW _))).mono ?_; rintro e w2 ⟨r, rfl, hr, hbx⟩; replace hr := hid hr; replace hbx : Hid (Below w1.heap.size w1 w2) := hid (bl_then (bl_drew hb.out) hbx))
          all_goals
            cases r with
            | true =>
              have HX : Hid (f = g) := hid (hr.out.1 rfl)
              clear hr
              go_wp2
              exact ⟨⟨j + 1, by simp, by omega, hid (HN.out HX.out), hbx⟩, by simp [numAt]; omega⟩
            | false =>
              have HX : Hid (¬ f = g) := hid (fun e => (by have := hr.out.2 e; cases this))
              clear hr
              go_wp2
              go_ret
              exact EqR.no (fun e => HNO.out HX.out (by rw [e])) (below_trans hbz.out hbx.out)
        · have k2 : ¬ (j : Int) < (x.fs.length : Int) := by omega
          go_wp2
          go_ret
          exact EqR.yes (CM.ext (take_all (by omega) (by have := HL.out; omega) hT.out) HU.out) (below_trans hbz.out hb.out)
    · have q0 : ((x.fs.length : Int) == (y.fs.length : Int)) = false := by simp; omega
      have HL := hid hl
      clear hl
      go_enter Tryz.func21, Tryz.ntmps21
      go_wp2
      go_ret
      exact EqR.no (fun q => HL.out (by rw [q])) (by exact blBy)
set_option maxHeartbeats 4000000
theorem emptyD10 (w : World) (Z : Nat → Prop) (d : Nat) (cs : List Value) (m : CM) (hm : MsgE w Z d cs m) : Calls Tryz.prog 13 #[.agg cs.toArray] w fun e w' => e = .returned (.bool (((m.fs.length : Int) == 0) && ((m.us.length : Int) == 0))) ∧ Below w.heap.size w w' := by
  have hd : ∃ k, d = k + 1 := by
    cases d with
    | zero => exact hm.elim
    | succ k => exact ⟨k, rfl⟩
  obtain ⟨k, rfl⟩ := hd
  obtain ⟨fa, fc, ua, uc, rfl, -, -, l1, l2⟩ := msg_open hm
  clear hm
  have m1 : (m.fs.length : Int) ≤ 9223372036854775807 := by omega
  have m2 : (m.us.length : Int) ≤ 9223372036854775807 := by omega
  go_enter Tryz.func13, Tryz.ntmps13
  go_wp2
  all_goals (go_ret; exact ⟨ret_bool (by simp [*]), by exact blBy⟩)
/-- A number as a value; a field of numbers. -/
def nV (v : Int) : CV CM := ⟨v, [], []⟩
def nL (k : Int) (vs : List Int) : CF CM := ⟨k, [], vs.map nV⟩
theorem msgW10 (w : World) (a : Option Addr) (n c : Nat) : Calls Tryz.prog 7 #[.slice a n c] w fun e w' => e = .returned (.agg #[.slice a n c, .slice none 0 0]) ∧ Below w.heap.size w w' := by
  go_enter Tryz.func7, Tryz.ntmps7
  go_wp2
  exact bodyPost_ret (v := .agg #[.slice a n c, .slice none 0 0]) (by simp [results, Tryz.results7, go_sem]) rfl ⟨rfl, by exact blBy⟩
theorem nW10 (w : World) (d : Nat) (k : Int) (hk : I64 k) (vs : List Int) (hv : ∀ v ∈ vs, U64 v ∧ IntKind.u64.wrap v = v) (la : Option Addr) (lc : Nat) (Z : Nat → Prop) (hr : RowM w Z 1 (FmI w Z) (.slice la vs.length lc) vs) : Calls Tryz.prog 8 #[.int .i64 k, .slice la vs.length lc] w fun e w' => ∃ cs : List Value, e = .returned (.agg cs.toArray) ∧ FmF d w' (w.heap.size ≤ ·) cs (nL k vs) ∧ Below w.heap.size w w' := by
  obtain ⟨_, _, -, lv⟩ := RowM.sl hr
  have mU : (vs.length : Int) ≤ 9223372036854775807 := by omega
  have HV := hid hv
  have HK := hid hk
  have HRR := hid hr
  clear hv hk hr
  go_enter Tryz.func8, Tryz.ntmps8
  go_wp2
  generalize hw0 : World.alloc (World.alloc w _) _ = w0
  have HB0 : Hid (Below w.heap.size w w0) := hid (hw0 ▸ (by exact blBy))
  have HS0 : Hid (w0.heap.size = w.heap.size + 2) := hid (by rw [← hw0]; simp)
  have BR : Hid (Blk w0 w.heap.size 33 #[.int .i64 0, .slice none 0 0, .slice none 0 0]) := hid (hw0 ▸ ((Blk.new _ _ _).kept (below_alloc _)))
  have BQ : Hid (Blk w0 (w.heap.size + 1) 33 #[.int .i64 k, .slice none 0 0, .slice none 0 0]) := hid (hw0 ▸ (Blk.newAt (by simp)))
  clear hw0
  generalize hq : w.heap.size + 1 = q at *
  have HQ : Hid (q = w.heap.size + 1) := hid hq.symm
  clear hq
  have HqN : q < w0.heap.size := BQ.out.lt
  go_loopw [6] (fun s6 wr => ∃ (j : Nat) (oa : Option Addr) (oc : Nat), s6 = .int .i64 (j : Int) ∧ j ≤ vs.length ∧ Hid (Blk wr q 33 #[.int .i64 k, .slice none 0 0, .slice oa j oc]) ∧ Hid (OwnY wr w0.heap.size (fun _ => False) 39 3 (FmV d) (.slice oa j oc) ((vs.take j).map nV)) ∧ Hid (Keep (fun b => b < w0.heap.size ∧ b ≠ q) w0 wr)) (fun s6 wr => vs.length - numAt wr s6)
  case atStart => exact ⟨0, none, 0, rfl, by omega, BQ, hid (OwnY.nil _ _ _ _ _ _), hid (Keep.refl _ _)⟩
  case round =>
    obtain ⟨j, oa, oc, rfl, hj, BQr, HO1, HK1⟩ := hrel
    by_cases hlt : j < vs.length
    · have k2 : (j : Int) < (vs.length : Int) := by omega
      have k3 : (0 : Int) ≤ (j : Int) := by omega
      obtain ⟨b1, o1, cs, rfl, -, hb1, hl1, hm1, hc1⟩ := RowM.at HRR.out (by decide) hlt
      have hcs : cs = [.int .i64 vs[j]] := hm1
      subst hcs
      have c0 := cellKp (cell_below (hc1 0 _ rfl) HB0.out) HK1.out (by have := HS0.out; have := HQ.out; constructor <;> omega)
      simp only [Nat.mul_one, Nat.add_zero] at c0
      have HT1 : Hid ((vs.take (j + 1)).map nV = (vs.take j).map nV ++ [nV vs[j]]) := hid (by rw [List.take_succ_eq_append_getElem hlt, List.map_append]; rfl)
      have HLa : Hid (((vs.take j).map nV).length = j) := hid (by rw [List.length_map, List.length_take]; omega)
      have HLj : Hid (j + 1 ≤ 4000000) := hid (by omega)
      obtain ⟨hu, hw⟩ := HV.out vs[j] (List.getElem_mem hlt)
      have HXX : Hid (FmV d wr (fun _ => False) [.int .u64 vs[j], .slice none 0 0, .slice none 0 0] (nV vs[j])) := hid ⟨_, _, rfl, ⟨rowS_nil _ _ 1, by simp [nV], by simp [nV]⟩, RowM.nil _ _ _ _, hu⟩
      have hbq : b1 ≠ q := by have := HQ.out; omega
      clear hm1 hc1 hu
      generalize vs[j] = x at *
      have HSZ : Hid (w0.heap.size ≤ wr.heap.size) := hid HK1.out.size
      go_upto_region 5 with fail
      have BQx := hid (BQr.out.kept (below_drew1 _))
      have HOx := hid (HO1.out.kept (famV d) (below_drew1 _))
      have C0 := hid c0
      have HS0K : Hid (∀ W, Keep (fun b => b = b1) wr W → (fun W => W.cell? ⟨b1, o1 + j, none⟩ = some (.int .i64 x)) W) := hid fun W hk => cellKp C0.out hk rfl
      have HSK : Hid (∀ W, Keep (fun b => b = b1 ∨ b = q) wr W → (fun W => W.cell? ⟨b1, o1 + j, none⟩ = some (.int .i64 x)) W ∧ (fun W => ∀ k1, W.cell? ⟨q, k1, none⟩ = #[.int .i64 k, .slice none 0 0, .slice oa j oc][k1]?) W) := hid fun W hk => ⟨cellKp C0.out hk (Or.inl rfl), (BQr.out.keep hk (Or.inr rfl)).cellF⟩
      have KD : Hid (Keep (fun b => b = b1 ∨ b = q) wr wr.drew) := hid (Keep.ofBelow (below_drew1 _))
      refine wp_regionL (S := SL (fun W => W.cell? ⟨b1, o1 + j, none⟩ = some (.int .i64 x)) (fun W => ∀ k1, W.cell? ⟨q, k1, none⟩ = #[.int .i64 k, .slice none 0 0, .slice oa j oc][k1]?) 11) (by kernel_rfl) (SL.of (HSK.out _ KD.out).1 (HSK.out _ KD.out).2) (fun hHeld => ?_)
      refine takeL0 0 (v := ?_) rfl (by kernel_rfl) (by kernel_rfl) (by kernel_rfl) (fun _ _ _ h => h) (by kernel_rfl) (Or.inl ⟨by rfl, ?_⟩) hHeld (fun hHeld => ?_)
      rotate_left
      · (intro w hSw; (try obtain ⟨hSw, hSx⟩ := hSw); (try dsimp only at hSw); (try dsimp only at hSx); go_simp; (try with_reducible rfl))
      try simp only [Act.put, List.getElem_toArray, List.getElem_cons_succ, List.getElem_cons_zero, List.setIfInBounds_toArray, List.set_cons_zero, List.set_cons_succ]
      refine takeL1 1 (v := ?_) rfl rfl (by kernel_rfl) (by kernel_rfl) (by kernel_rfl) (by kernel_rfl) (by kernel_rfl) (fun _ _ _ h => h) (by kernel_rfl) (Or.inl ⟨by rfl, ?_⟩) hHeld (fun hHeld => ?_)
      rotate_left
      · (intro w hSw; (try obtain ⟨hSw, hSx⟩ := hSw); (try dsimp only at hSw); (try dsimp only at hSx); go_simp; (try with_reducible rfl))
      try simp only [Act.put, List.getElem_toArray, List.getElem_cons_succ, List.getElem_cons_zero, List.setIfInBounds_toArray, List.set_cons_zero, List.set_cons_succ]
      refine takeL0 2 (v := ?_) rfl (by kernel_rfl) (by kernel_rfl) (by kernel_rfl) (fun _ _ _ h => h) (by kernel_rfl) (Or.inl ⟨by rfl, ?_⟩) hHeld (fun hHeld => ?_)
      rotate_left
      · (intro w hSw; (try obtain ⟨hSw, hSx⟩ := hSw); (try dsimp only at hSw); (try dsimp only at hSx); go_simp; (try with_reducible rfl))
      try simp only [Act.put, List.getElem_toArray, List.getElem_cons_succ, List.getElem_cons_zero, List.setIfInBounds_toArray, List.set_cons_zero, List.set_cons_succ]
      refine takeL0 3 (v := ?_) rfl (by kernel_rfl) (by kernel_rfl) (by kernel_rfl) (fun _ _ _ h => h) (by kernel_rfl) (Or.inl ⟨by rfl, ?_⟩) hHeld (fun hHeld => ?_)
      rotate_left
      · (intro w hSw; (try obtain ⟨hSw, hSx⟩ := hSw); (try dsimp only at hSw); (try dsimp only at hSx); go_simp; (try with_reducible rfl))
      try simp only [Act.put, List.getElem_toArray, List.getElem_cons_succ, List.getElem_cons_zero, List.setIfInBounds_toArray, List.set_cons_zero, List.set_cons_succ]
      refine takeL0 4 (v := ?_) rfl (by kernel_rfl) (by kernel_rfl) (by kernel_rfl) (fun _ _ _ h => h) (by kernel_rfl) (Or.inl ⟨by rfl, ?_⟩) hHeld (fun hHeld => ?_)
      rotate_left
      · (intro w hSw; (try obtain ⟨hSw, hSx⟩ := hSw); (try dsimp only at hSw); (try dsimp only at hSx); go_simp; (try with_reducible rfl))
      try simp only [Act.put, List.getElem_toArray, List.getElem_cons_succ, List.getElem_cons_zero, List.setIfInBounds_toArray, List.set_cons_zero, List.set_cons_succ]
      refine takeL0 5 (v := ?_) rfl (by kernel_rfl) (by kernel_rfl) (by kernel_rfl) (fun _ _ _ h => h) (by kernel_rfl) (Or.inl ⟨by rfl, ?_⟩) hHeld (fun hHeld => ?_)
      rotate_left
      · (intro w hSw; (try obtain ⟨hSw, hSx⟩ := hSw); (try dsimp only at hSw); (try dsimp only at hSx); go_simp; (try with_reducible rfl))
      try simp only [Act.put, List.getElem_toArray, List.getElem_cons_succ, List.getElem_cons_zero, List.setIfInBounds_toArray, List.set_cons_zero, List.set_cons_succ]
      refine takeL0 6 (v := ?_) rfl (by kernel_rfl) (by kernel_rfl) (by kernel_rfl) (fun _ _ _ h => h) (by kernel_rfl) (Or.inl ⟨by rfl, ?_⟩) hHeld (fun hHeld => ?_)
      rotate_left
      · (intro w hSw; (try obtain ⟨hSw, hSx⟩ := hSw); (try dsimp only at hSw); (try dsimp only at hSx); go_simp; (try with_reducible rfl))
      try simp only [Act.put, List.getElem_toArray, List.getElem_cons_succ, List.getElem_cons_zero, List.setIfInBounds_toArray, List.set_cons_zero, List.set_cons_succ]
      refine takeL0 7 (v := ?_) rfl (by kernel_rfl) (by kernel_rfl) (by kernel_rfl) (fun _ _ _ h => h) (by kernel_rfl) (Or.inl ⟨by rfl, ?_⟩) hHeld (fun hHeld => ?_)
      rotate_left
      · (intro w hSw; (try obtain ⟨hSw, hSx⟩ := hSw); (try dsimp only at hSw); (try dsimp only at hSx); go_simp; (try with_reducible rfl))
      try simp only [Act.put, List.getElem_toArray, List.getElem_cons_succ, List.getElem_cons_zero, List.setIfInBounds_toArray, List.set_cons_zero, List.set_cons_succ]
      refine wpAnyL_ready (rs := [8]) (by kernel_rfl) (by simp) ?_
      refine AllReadyL.cons rfl (fun K hK => ?_) ?_
      · go_simp
        have O1 := hid (HOx.out.kept (famV d) (below_alloc (w := wr.drew) (.cells #[.int .u64 x, .slice none 0 0, .slice none 0 0] 39)))
        have B1 : Hid (Blk (wr.drew.alloc (.cells #[.int .u64 x, .slice none 0 0, .slice none 0 0] 39)) wr.heap.size 39 #[.int .u64 x, .slice none 0 0, .slice none 0 0]) := hid (Blk.newAt (by simp))
        have K1 : Hid (Keep (fun b => b = b1 ∨ b = q) wr (wr.drew.alloc (.cells #[.int .u64 x, .slice none 0 0, .slice none 0 0] 39))) := hid (KD.out.trans (Keep.ofBelow (below_alloc _)))
        refine hK.out _ _ ?_ (fun hHeld => ?_)
        · exact SL.of (HSK.out _ K1.out).1 (HSK.out _ K1.out).2
        clear hK K
        try simp only [Act.put, List.getElem_toArray, List.getElem_cons_succ, List.getElem_cons_zero, List.setIfInBounds_toArray, List.set_cons_zero, List.set_cons_succ]
        refine wpAnyL_ready (rs := [9]) (by kernel_rfl) (by simp) ?_
        refine AllReadyL.cons rfl (fun K hK => ?_) ?_
        · obtain ⟨la2, lc2, y1, HR1, OA, HG⟩ := OwnY.one (famV d) 39 31 56 (.agg #[.int .u64 0, .slice none 0 0, .slice none 0 0]) Tryz.underlying31 Tryz.infoV rfl (by decide) (by decide) O1.out (cs := [.int .u64 x, .slice none 0 0, .slice none 0 0]) (x := nV x) (Fam.go (famV d) HXX.out (keepT (by exact blBy)) (fun _ _ => trivial) (fun _ h => h)) B1.out (by have := HSZ.out; simp; omega) (fun _ h => h.elim) (by rw [HLa.out]; exact HLj.out)
          rw [HLa.out] at HR1 OA HG
          have KG : Hid (Keep (fun b => b < w0.heap.size) wr y1) := hid ((Keep.ofBelow (by exact blBy)).trans (Keep.ofGrow HG.out (fun b hb e => by have := (O1.out.own e).1; omega)))
          have KS : Hid (Keep (fun b => b = b1 ∨ b = q) wr y1) := hid (KG.out.weak (fun b hb => by have := HB0.out.size; rcases hb with hb | hb <;> (show b < _) <;> omega))
          refine step_append_ran rfl _ _ 31 31 rfl rfl _ _ (.slice la2 (j + 1) lc2) y1 rfl rfl HR1.out ?_
          refine hK.out _ _ ?_ (fun hHeld => ?_)
          · exact SL.of (HSK.out _ KS.out).1 (HSK.out _ KS.out).2
          clear hK K
          try simp only [Act.put, List.getElem_toArray, List.getElem_cons_succ, List.getElem_cons_zero, List.setIfInBounds_toArray, List.set_cons_zero, List.set_cons_succ]
          refine takeL0 10 (v := ?_) rfl (by kernel_rfl) (by kernel_rfl) (by kernel_rfl) (fun _ _ _ h => h) (by kernel_rfl) (Or.inl ⟨by rfl, ?_⟩) hHeld (fun hHeld => ?_)
          rotate_left
          · (intro w hSw; (try obtain ⟨hSw, hSx⟩ := hSw); (try dsimp only at hSw); (try dsimp only at hSx); go_simp; (try with_reducible rfl))
          try simp only [Act.put, List.getElem_toArray, List.getElem_cons_succ, List.getElem_cons_zero, List.setIfInBounds_toArray, List.set_cons_zero, List.set_cons_succ]
          have BQ2 := hid (BQr.out.keep KG.out HqN)
          have xq := BQ2.out.cellF
          have yq := BQ2.out.frz
          have zq := BQ2.out.lt
          refine wpAnyL_ready (rs := [11]) (by kernel_rfl) (by simp) ?_
          refine AllReadyL.cons rfl (fun K hK => ?_) ?_
          · go_simp
            refine hK.out _ _ ?_ (fun hHeld => ?_)
            · exact SL.late (HS0K.out _ ((KS.out.weak (fun b hb => Or.inl hb)).trans (Keep.setCell _ _ _ (by simpa using Ne.symm hbq)))) (by kernel_rfl)
            clear hK K
            try simp only [Act.put, List.getElem_toArray, List.getElem_cons_succ, List.getElem_cons_zero, List.setIfInBounds_toArray, List.set_cons_zero, List.set_cons_succ]
            refine wpAnyL_done (by kernel_rfl) ?_ _
            have HKQ : Hid (Keep (fun b => b ≠ q) y1 (y1.setCell ⟨q, 2, none⟩ (.slice la2 (j + 1) lc2))) := hid (Keep.setCell _ _ _ (by simp))
            have BQ5 := hid (BQ2.out.set 2 (.slice la2 (j + 1) lc2))
            clear xq yq zq hHeld
            go_wp2
            exact ⟨⟨j + 1, la2, lc2, by simp, by omega, hid (BQ5.out.is (by simp)), hid (by rw [HT1.out]; exact OA.out.keep (famV d) HKQ.out (fun _ h => h.elim) (fun b e => by have := (OA.out.own e).1; omega)), hid ((HK1.out.trans (KG.out.weak (fun b hb => hb.1))).trans (HKQ.out.weak (fun b hb => hb.2)))⟩, by simp [numAt]; omega⟩
          exact AllReadyL.nil
        exact AllReadyL.nil
      exact AllReadyL.nil
    · have k2 : ¬ (j : Int) < (vs.length : Int) := by omega
      obtain rfl : j = vs.length := by omega
      have e1 : vs.take vs.length = vs := List.take_length
      rw [e1] at HO1
      have HR1 := hid (HO1.out.row (famV d) (by rw [List.length_map]; omega))
      have hn2 : w.heap.size < w0.heap.size ∧ w.heap.size ≠ q := by have := HS0.out; have := HQ.out; omega
      have BRr := hid (BR.out.keep HK1.out hn2)
      have xq := BQr.out.cellF
      have zq := BQr.out.lt
      have xr := BRr.out.cellF
      have yr := BRr.out.frz
      have zr := BRr.out.lt
      have HFB : Hid (Below w.heap.size w wr) := hid (Below.trans HB0.out (HK1.out.below HB0.out.size (fun k hk => ⟨by omega, by have := HQ.out; omega⟩)))
      clear HO1 hlt hj e1
      go_wp2
      refine bodyPost_ret (v := .agg #[.int .i64 k, .slice none 0 0, .slice oa vs.length oc]) (by simp [results, Tryz.results8, go_sem, xr, yr, zr]) rfl ⟨[.int .i64 k, .slice none 0 0, .slice oa vs.length oc], rfl, ⟨_, _, rfl, RowM.nil _ _ _ _, ?_, HK.out⟩, ?_⟩
      · have hl : (Value.slice oa vs.length oc) = .slice oa (vs.map nV).length oc := by rw [List.length_map]
        exact VlsR.go HR1.out (keepR _ _ _ _) (fun b hb => by rcases hb with hb | hb; exact hb.elim; show b ≠ _; omega) (fun b hb => by rcases hb with hb | hb; exact hb.elim; show _ ≤ b; omega)
      · exact Below.trans HFB.out ((keepR _ _ _ _).below (Nat.le_trans HFB.out.size (Nat.le_refl _)) (fun k hk => by show k ≠ _; omega))
theorem simpleX (w : World) : Calls Tryz.prog 6 #[] w fun e w' => ∃ (h : Nat) (a : Option Addr), e = .returned (.agg #[.slice a (simL h).length 2]) ∧ TbR w' (.slice a (simL h).length 2) (simL h) ∧ Below w.heap.size w w' := (simpleW w).mono fun e w' ⟨h1, h2, h3⟩ => ⟨_, _, h1, h2, h3⟩
/-- A message laid into the block Q. -/
theorem laid2 {w2 : World} {Q n d : Nat} {u v : Value} {c : CM} (hB : Blk w2 Q 29 #[.slice none 0 0, .slice none 0 0]) (hm : MsgE w2 (n ≤ ·) d [u, v] c) (hQ : Q < n) : Blk ((w2.setCell ⟨Q, 0, none⟩ u).setCell ⟨Q, 1, none⟩ v) Q 29 #[u, v] ∧ MsgE ((w2.setCell ⟨Q, 0, none⟩ u).setCell ⟨Q, 1, none⟩ v) AnyZ d [u, v] c :=
  ⟨((hB.set 0 u).set 1 v).is (by simp), MsgE.go (keepR2 Q u v) (fun b (hb : n ≤ b) => by show b ≠ Q; omega) (fun _ _ => trivial) d _ _ hm⟩
theorem mergedLW (w : World) (mx : Int) (hm0 : w.cell? ⟨0, 0, none⟩ = some (.int .i64 mx)) (Z : Nat → Prop) (d : Nat) (cs ds es : List Value) (a b c : CM) (ha : MsgE w Z d cs a) (hb : MsgE w Z d ds b) (hc : MsgE w Z d es c) (ka : ∀ h, keptB (simL h) d (simM h) a = true) (kb : ∀ h, keptB (simL h) d (simM h) b = true) (L1 L2 : Nat) (sa : sizM L1 d a) (sb : sizM L2 d b) (hL : L1 + L2 ≤ 4000000) (hE : ∀ h, mergM (simL h) d (simM h) a b = c) : Calls Tryz.prog 11 #[.agg cs.toArray, .agg ds.toArray, .agg es.toArray] w fun e w' => e = .returned (.bool true) ∧ Below w.heap.size w w' := by
  have HMG : Hid (∀ (W : World) (h : Nat) (t : Option Addr), Below w.heap.size w W → TbR W (.slice t (simL h).length 2) (simL h) → Calls Tryz.prog 20 #[.agg #[.slice t (simL h).length 2], .int .i64 1, .agg cs.toArray, .agg ds.toArray] W fun e w' => ∃ es : List Value, e = .returned (.tuple #[.agg es.toArray, .int .i64 0]) ∧ MsgE w' (W.heap.size ≤ ·) d es c ∧ Below W.heap.size W w') := hid fun W h t hW hT => by
    have := mergeOk W (simL h) t 2 hT (simOk h) mx (cell_below hm0 hW) 1 (by show 1 < 2; decide) (simGood h) rfl Z d cs ds a b (ha.kept hW) (hb.kept hW) (ka h) (kb h) L1 L2 sa sb hL
    rw [show mergM (simL h) d ((simL h)[1]'(by show 1 < 2; decide)) a b = c from hE h] at this
    exact this
  have HEQ := hid fun W (hW : Below w.heap.size w W) ts (hm : MsgE W AnyZ d ts c) => (equalD d W AnyZ Z ts es c c hm (hc.kept hW))
  obtain ⟨fa, fc, ua, uc, rfl, -⟩ := msg_openD ha
  obtain ⟨fb, fd, ub, ud, rfl, -⟩ := msg_openD hb
  obtain ⟨fe, ff, ue, uf, rfl, -⟩ := msg_openD hc
  clear ha hb hc ka kb sa sb hL hE hm0
  go_enter Tryz.func11, Tryz.ntmps11
  go_upto_region 1 with fail
  generalize hw0 : World.alloc (World.alloc (World.alloc w _) _) _ = w0
  have HB0 : Hid (Below w.heap.size w w0) := hid (hw0 ▸ (by exact blBy))
  have BA : Hid (Blk w0 w.heap.size 29 #[.slice fa a.fs.length fc, .slice ua a.us.length uc]) := hid (hw0 ▸ (((Blk.new _ _ _).kept (below_alloc _)).kept (below_alloc _)))
  have BB : Hid (Blk w0 (w.heap.size + 1) 29 #[.slice fb b.fs.length fd, .slice ub b.us.length ud]) := hid (hw0 ▸ ((Blk.newAt (by simp)).kept (below_alloc _)))
  have BC : Hid (Blk w0 (w.heap.size + 1 + 1) 29 #[.slice fe c.fs.length ff, .slice ue c.us.length uf]) := hid (hw0 ▸ (Blk.newAt (by simp)))
  clear hw0
  generalize hq1 : w.heap.size + 1 = q1 at *
  generalize hq2 : q1 + 1 = q2 at *
  clear hq1 hq2
  have HW : Hid (Below w0.heap.size w0 w0) := hid (Below.refl _ _)
  have HSF : Hid (∀ W, Below w0.heap.size w0 W → (fun W => W.cell? ⟨w.heap.size, 0, none⟩ = some (.slice fa a.fs.length fc) ∧ W.cell? ⟨w.heap.size, 1, none⟩ = some (.slice ua a.us.length uc) ∧ W.cell? ⟨q1, 0, none⟩ = some (.slice fb b.fs.length fd) ∧ W.cell? ⟨q1, 1, none⟩ = some (.slice ub b.us.length ud)) W) := hid fun W hW => ⟨(BA.out.kept hW).cell 0 _ rfl, (BA.out.kept hW).cell 1 _ rfl, (BB.out.kept hW).cell 0 _ rfl, (BB.out.kept hW).cell 1 _ rfl⟩
  have hwz : w.heap.size < w0.heap.size ∧ q1 < w0.heap.size := ⟨BA.out.lt, BB.out.lt⟩
  have HSS : Hid (∀ (W : World) (Q : Nat) (u1 u2 : Value), w0.heap.size ≤ Q → Below w0.heap.size w0 W → (fun W => W.cell? ⟨w.heap.size, 0, none⟩ = some (.slice fa a.fs.length fc) ∧ W.cell? ⟨w.heap.size, 1, none⟩ = some (.slice ua a.us.length uc) ∧ W.cell? ⟨q1, 0, none⟩ = some (.slice fb b.fs.length fd) ∧ W.cell? ⟨q1, 1, none⟩ = some (.slice ub b.us.length ud)) ((W.setCell ⟨Q, 0, none⟩ u1).setCell ⟨Q, 1, none⟩ u2)) := hid fun W Q u1 u2 hQ hW => ⟨cs2 (HSF.out W hW).1 (by omega), cs2 (HSF.out W hW).2.1 (by omega), cs2 (HSF.out W hW).2.2.1 (by omega), cs2 (HSF.out W hW).2.2.2 (by omega)⟩
  go_cut [7, 8] from 9 to 22 (fun s7 s8 wc => ∃ (Q : Nat) (va va2 : Option Addr) (vc vc2 : Nat), s7 = .pointer (some ⟨Q, 0, none⟩) ∧ s8 = .int .i64 0 ∧ Hid (Blk wc Q 29 #[.slice va c.fs.length vc, .slice va2 c.us.length vc2]) ∧ Hid (MsgE wc AnyZ d [.slice va c.fs.length vc, .slice va2 c.us.length vc2] c) ∧ Hid (Below w0.heap.size w0 wc))
  case first =>
    go_region_held3 (fun W => W.cell? ⟨w.heap.size, 0, none⟩ = some (.slice fa a.fs.length fc) ∧ W.cell? ⟨w.heap.size, 1, none⟩ = some (.slice ua a.us.length uc) ∧ W.cell? ⟨q1, 0, none⟩ = some (.slice fb b.fs.length fd) ∧ W.cell? ⟨q1, 1, none⟩ = some (.slice ub b.us.length ud)) (first | (with_reducible exact HSS.out _ _ _ _ (by omega) (by have := HW.out; exact blBy)) | exact HSF.out _ (by have := HW.out; exact blBy)) (first | (go_at_call 6; refine (simpleX _).mono ?_; rintro e w1 ⟨h9, a9, rfl, ht, hbx⟩; have HT1 := hid ht; clear ht; (first | (replace BK := hid (BK.out.kept (below_trans (by exact blBy) hbx)); replace xk := BK.out.cellF; replace yk := BK.out.frz; replace zk := BK.out.lt) | (with_reducible have BK := hid ((Blk.new _ 29 #[.slice none 0 0, .slice none 0 0]).kept hbx); have xk := BK.out.cellF; have yk := BK.out.frz; have zk := BK.out.lt) | (with_reducible have BK := hid (((Blk.new _ 29 #[.slice none 0 0, .slice none 0 0]).kept (below_drew1 _)).kept hbx); have xk := BK.out.cellF; have yk := BK.out.frz; have zk := BK.out.lt) | skip); (try have hk9 := BK.out.lt); replace HW := hid (bl_then HW.out (below_trans (by exact blBy) hbx)); have hs9 := HW.out.size; clear hbx) | (go_at_call 20; refine (HMG.out _ h9 a9 (bl_then HB0.out (by have := HW.out; exact blBy)) (HT1.out.kept (by exact blBy))).mono ?_; rintro e w2 ⟨ts, rfl, hm, hbx⟩; obtain ⟨va, vc, va2, vc2, rfl, -⟩ := msg_openD hm; have HM2 := hid hm; clear hm; (first | (replace BK := hid (BK.out.kept (below_trans (by exact blBy) hbx)); replace xk := BK.out.cellF; replace yk := BK.out.frz; replace zk := BK.out.lt) | (with_reducible have BK := hid ((Blk.new _ 29 #[.slice none 0 0, .slice none 0 0]).kept hbx); have xk := BK.out.cellF; have yk := BK.out.frz; have zk := BK.out.lt) | (with_reducible have BK := hid (((Blk.new _ 29 #[.slice none 0 0, .slice none 0 0]).kept (below_drew1 _)).kept hbx); have xk := BK.out.cellF; have yk := BK.out.frz; have zk := BK.out.lt) | skip); replace HW := hid (bl_then HW.out (below_trans (by exact blBy) hbx)); clear hbx))
    all_goals go_wp2_with fail
    all_goals go_meet
    all_goals first
      | (with_reducible exact ⟨_, va, va2, vc, vc2, rfl, rfl, hid (Blk.new _ _ _), hid (MsgE.go (keepT (below_alloc _)) (fun _ _ => trivial) (fun _ _ => trivial) d _ _ HM2.out), hid (by have := HW.out; exact blBy)⟩)
      | exact ⟨_, va, va2, vc, vc2, rfl, rfl, hid (laid2 BK.out HM2.out (by first | exact hk9 | (simp; done) | omega)).1, hid (laid2 BK.out HM2.out (by first | exact hk9 | (simp; done) | omega)).2, hid (by have := HW.out; exact blBy)⟩
  case rest =>
    obtain ⟨Q, va, va2, vc, vc2, rfl, rfl, BQ, HM, HWc⟩ := hcut
    have xq := BQ.out.cellF
    have zq := BQ.out.lt
    have BC1 := hid (BC.out.kept HWc.out)
    have xc := BC1.out.cellF
    have zc := BC1.out.lt
    clear HSF HSS HMG BA BB HW
    go_wp2_with fail
    refine (HEQ.out _ (bl_then HB0.out (by have := HWc.out; exact blBy)) _ (HM.out.kept (by exact blBy))).mono ?_
    rintro e w3 ⟨r, rfl, hr, hbx⟩
    have hr' : r = true := hr.2 (by first | trivial | rfl)
    subst hr'
    have HBF : Hid (Below w.heap.size w w3) := hid (bl_then HB0.out (bl_then HWc.out (below_trans (by exact blBy) hbx)))
    clear hbx xq zq xc zc hr
    go_wp2
    go_ret
    exact ⟨rfl, HBF.out⟩
theorem rowTwo {α : Type} {w : World} {Z : Nat → Prop} {k : Nat} {E : List Value → α → Prop} {vb : Nat} {cs ds : List Value} {x y : α} {t : TypeId} {es : Array Value} (hx : E cs x) (hy : E ds y) (hl : cs.length = k) (hl2 : ds.length = k) (hz : Z vb) (hc : Blk w vb t es) (he : es = (cs ++ ds).toArray) : RowM w Z k E (.slice (some ⟨vb, 0, none⟩) [x, y].length 2) [x, y] := by
  subst he
  refine ⟨[⟨cs, hl⟩, ⟨ds, hl2⟩], ⟨_, _, rfl, by simp [hl, hl2]; omega, by simp, by omega, .inr ⟨vb, 0, rfl, hz, fun j u hu => ?_⟩⟩, rfl, by simp, fun j t x ht hx => ?_⟩
  · rw [Nat.zero_add]
    exact hc.cell j u (by simpa using hu)
  · match j, ht, hx with
    | 0, ht, hx => simp at ht hx; subst ht hx; assumption
    | 1, ht, hx => simp at ht hx; subst ht hx; assumption
    | j + 2, ht, hx => simp at ht
theorem u64s (l : List Int) (h : l.all (fun v => decide (0 ≤ v ∧ v ≤ 9)) = true) : ∀ v ∈ l, U64 v ∧ IntKind.u64.wrap v = v := fun v hv => by
  have := List.all_eq_true.1 h v hv
  rw [decide_eq_true_eq] at this
  refine ⟨by unfold U64; omega, ?_⟩
  obtain ⟨n, rfl⟩ := Int.eq_ofNat_of_zero_le this.1
  have hn : n < 10 := by omega
  match n, hn with
  | 0, _ => rfl
  | 1, _ => rfl
  | 2, _ => rfl
  | 3, _ => rfl
  | 4, _ => rfl
  | 5, _ => rfl
  | 6, _ => rfl
  | 7, _ => rfl
  | 8, _ => rfl
  | 9, _ => rfl
theorem fldAny {d : Nat} {w w' : World} {Z : Nat → Prop} {cs : List Value} {f : CF CM} (h : FmF d w Z cs f) (hb : Below w.heap.size w w') : FmF d w' AnyZ cs f := Fam.go (famF d) h (keepT hb) (fun _ _ => trivial) (fun _ _ => trivial)
def aM : CM := CM.mk [nL 1 [1], nL 2 [1]] []
def bM : CM := CM.mk [nL 1 [0], nL 2 [2]] []
def cM : CM := CM.mk [nL 1 [0], nL 2 [1, 2]] []
theorem keptAM (h : Nat) : keptB (simL h) 1 (simM h) aM = true := by kernel_rfl
theorem keptBM (h : Nat) : keptB (simL h) 1 (simM h) bM = true := by kernel_rfl
theorem mergABC (h : Nat) : mergM (simL h) 1 (simM h) aM bM = cM := by
  have e0 : aM.fs.filter (rivB (simM h).t.fs bM.fs) = [nL 1 [1], nL 2 [1]] := by kernel_rfl
  have e1 : fOrd (nL 1 [1]) (nL 1 [0]) = 0 := by kernel_rfl
  have e2 : fOrd (nL 2 [1]) (nL 2 [2]) = 0 := by kernel_rfl
  have f1 : bothF (simL h) (mergM (simL h) 0) (simM h) (nL 1 [1]) (nL 1 [0]) = nL 1 [0] := by kernel_rfl
  have f2 : bothF (simL h) (mergM (simL h) 0) (simM h) (nL 2 [1]) (nL 2 [2]) = nL 2 [1, 2] := by kernel_rfl
  have e3 : bM.fs = [nL 1 [0], nL 2 [2]] := rfl
  show CM.mk (uni fOrd (bothF (simL h) (mergM (simL h) 0) (simM h)) (aM.fs.filter (rivB (simM h).t.fs bM.fs)) bM.fs) (aM.us ++ bM.us) = cM
  rw [e0, e3, uni_eq e1, uni_eq e2, uni_nil, f1, f2]
  rfl
theorem siz2 (k1 k2 : Int) (v1 v2 : List Int) (h1 : v1.length ≤ 9) (h2 : v2.length ≤ 9) : sizM 9 1 (CM.mk [nL k1 v1, nL k2 v2] []) := by
  refine ⟨by show 2 ≤ 9; omega, by show 0 ≤ 9; omega, fun f hf => ?_⟩
  have hf' : f = nL k1 v1 ∨ f = nL k2 v2 := by
    have h3 : f ∈ [nL k1 v1, nL k2 v2] := hf
    rcases List.mem_cons.1 h3 with h | h
    · exact Or.inl h
    · exact Or.inr (List.mem_singleton.1 h)
  rcases hf' with rfl | rfl
  · exact ⟨by show 0 ≤ 9; omega, by show (v1.map nV).length ≤ 9; rw [List.length_map]; exact h1, fun _ _ => trivial⟩
  · exact ⟨by show 0 ≤ 9; omega, by show (v2.map nV).length ≤ 9; rw [List.length_map]; exact h2, fun _ _ => trivial⟩
theorem awake10 (w : World) (mx : Int) (hm0 : w.cell? ⟨0, 0, none⟩ = some (.int .i64 mx)) : Calls Tryz.prog 10 #[] w fun e w' => e = .returned (.bool true) ∧ Below w.heap.size w w' := by
  have HM := hid hm0
  have i1 : I64 1 := by unfold I64; omega
  have i2 : I64 2 := by unfold I64; omega
  clear hm0
  go_enter Tryz.func10, Tryz.ntmps10
  go_wp2_with fail
  refine (nW10 _ 0 1 i1 [1] (u64s _ rfl) _ _ AnyZ (rowOne (t := 3) (cs := [.int .i64 1]) (x := (1 : Int)) (show FmI _ _ _ _ from rfl) rfl trivial (Blk.new _ _ _))).mono ?_
  rintro e w1 ⟨cs, rfl, hf, hbx⟩
  have HB1 : Hid (Below w.heap.size w w1) := hid (bl_then (by exact blBy) hbx)
  obtain ⟨ka1, kc1, va1, vc1, rfl, -⟩ := fld_open hf
  have HF1 := hid (fldAny hf (Below.refl _ _))
  clear hf hbx
  go_wp2_with fail
  refine (nW10 _ 0 2 i2 [1] (u64s _ rfl) _ _ AnyZ (rowOne (t := 3) (cs := [.int .i64 1]) (x := (1 : Int)) (show FmI _ _ _ _ from rfl) rfl trivial (Blk.new _ _ _))).mono ?_
  rintro e w2 ⟨cs, rfl, hf, hbx⟩
  have HB2 : Hid (Below w.heap.size w w2) := hid (bl_then (by have := HB1.out; exact blBy) hbx)
  replace HF1 := hid ((HF1.out).kept (below_trans (by exact blBy) hbx))
  obtain ⟨ka2, kc2, va2, vc2, rfl, -⟩ := fld_open hf
  have HF2 := hid (fldAny hf (Below.refl _ _))
  clear hf hbx
  go_wp2_with fail
  refine (msgW10 _ _ _ _).mono ?_
  rintro e w3 ⟨rfl, hbx⟩
  have HM1 : Hid (MsgE w3 AnyZ 1 [.slice (some ⟨w2.heap.size, 0, none⟩) 2 2, .slice none 0 0] (CM.mk [nL 1 [1], nL 2 [1]] [])) := hid ⟨_, _, rfl, rowTwo (t := 33) (FldE.kept HF1.out (below_trans (by exact blBy) hbx)) (FldE.kept HF2.out (below_trans (by exact blBy) hbx)) rfl rfl trivial ((Blk.new _ _ _).kept hbx) rfl, RowM.nil _ _ _ _⟩
  have HB3 : Hid (Below w.heap.size w w3) := hid (bl_then (by have := HB2.out; exact blBy) hbx)
  clear HF1 HF2 hbx
  generalize w2.heap.size = p1 at *
  go_wp2_with fail
  refine (nW10 _ 0 1 i1 [0] (u64s _ rfl) _ _ AnyZ (rowOne (t := 3) (cs := [.int .i64 0]) (x := (0 : Int)) (show FmI _ _ _ _ from rfl) rfl trivial (Blk.new _ _ _))).mono ?_
  rintro e w4 ⟨cs, rfl, hf, hbx⟩
  have HB4 : Hid (Below w.heap.size w w4) := hid (bl_then (by have := HB3.out; exact blBy) hbx)
  replace HM1 := hid ((HM1.out).kept (below_trans (by exact blBy) hbx))
  obtain ⟨ka4, kc4, va4, vc4, rfl, -⟩ := fld_open hf
  have HF4 := hid (fldAny hf (Below.refl _ _))
  clear hf hbx
  go_wp2_with fail
  refine (nW10 _ 0 2 i2 [2] (u64s _ rfl) _ _ AnyZ (rowOne (t := 3) (cs := [.int .i64 2]) (x := (2 : Int)) (show FmI _ _ _ _ from rfl) rfl trivial (Blk.new _ _ _))).mono ?_
  rintro e w5 ⟨cs, rfl, hf, hbx⟩
  have HB5 : Hid (Below w.heap.size w w5) := hid (bl_then (by have := HB4.out; exact blBy) hbx)
  replace HM1 := hid ((HM1.out).kept (below_trans (by exact blBy) hbx))
  replace HF4 := hid ((HF4.out).kept (below_trans (by exact blBy) hbx))
  obtain ⟨ka5, kc5, va5, vc5, rfl, -⟩ := fld_open hf
  have HF5 := hid (fldAny hf (Below.refl _ _))
  clear hf hbx
  go_wp2_with fail
  refine (msgW10 _ _ _ _).mono ?_
  rintro e w6 ⟨rfl, hbx⟩
  have HM2 : Hid (MsgE w6 AnyZ 1 [.slice (some ⟨w5.heap.size, 0, none⟩) 2 2, .slice none 0 0] (CM.mk [nL 1 [0], nL 2 [2]] [])) := hid ⟨_, _, rfl, rowTwo (t := 33) (FldE.kept HF4.out (below_trans (by exact blBy) hbx)) (FldE.kept HF5.out (below_trans (by exact blBy) hbx)) rfl rfl trivial ((Blk.new _ _ _).kept hbx) rfl, RowM.nil _ _ _ _⟩
  have HB6 : Hid (Below w.heap.size w w6) := hid (bl_then (by have := HB5.out; exact blBy) hbx)
  replace HM1 := hid ((HM1.out).kept (below_trans (by exact blBy) hbx))
  clear HF4 HF5 hbx
  generalize w5.heap.size = p2 at *
  go_wp2_with fail
  refine (nW10 _ 0 1 i1 [0] (u64s _ rfl) _ _ AnyZ (rowOne (t := 3) (cs := [.int .i64 0]) (x := (0 : Int)) (show FmI _ _ _ _ from rfl) rfl trivial (Blk.new _ _ _))).mono ?_
  rintro e w7 ⟨cs, rfl, hf, hbx⟩
  have HB7 : Hid (Below w.heap.size w w7) := hid (bl_then (by have := HB6.out; exact blBy) hbx)
  replace HM1 := hid ((HM1.out).kept (below_trans (by exact blBy) hbx))
  replace HM2 := hid ((HM2.out).kept (below_trans (by exact blBy) hbx))
  obtain ⟨ka7, kc7, va7, vc7, rfl, -⟩ := fld_open hf
  have HF7 := hid (fldAny hf (Below.refl _ _))
  clear hf hbx
  go_wp2_with fail
  refine (nW10 _ 0 2 i2 [1, 2] (u64s _ rfl) _ _ AnyZ (rowTwo (t := 3) (cs := [.int .i64 1]) (ds := [.int .i64 2]) (x := (1 : Int)) (y := (2 : Int)) (show FmI _ _ _ _ from rfl) (show FmI _ _ _ _ from rfl) rfl rfl trivial (Blk.new _ _ _) rfl)).mono ?_
  rintro e w8 ⟨cs, rfl, hf, hbx⟩
  have HB8 : Hid (Below w.heap.size w w8) := hid (bl_then (by have := HB7.out; exact blBy) hbx)
  replace HM1 := hid ((HM1.out).kept (below_trans (by exact blBy) hbx))
  replace HM2 := hid ((HM2.out).kept (below_trans (by exact blBy) hbx))
  replace HF7 := hid ((HF7.out).kept (below_trans (by exact blBy) hbx))
  obtain ⟨ka8, kc8, va8, vc8, rfl, -⟩ := fld_open hf
  have HF8 := hid (fldAny hf (Below.refl _ _))
  clear hf hbx
  go_wp2_with fail
  refine (msgW10 _ _ _ _).mono ?_
  rintro e w9 ⟨rfl, hbx⟩
  have HM3 : Hid (MsgE w9 AnyZ 1 [.slice (some ⟨w8.heap.size, 0, none⟩) 2 2, .slice none 0 0] (CM.mk [nL 1 [0], nL 2 [1, 2]] [])) := hid ⟨_, _, rfl, rowTwo (t := 33) (FldE.kept HF7.out (below_trans (by exact blBy) hbx)) (FldE.kept HF8.out (below_trans (by exact blBy) hbx)) rfl rfl trivial ((Blk.new _ _ _).kept hbx) rfl, RowM.nil _ _ _ _⟩
  have HB9 : Hid (Below w.heap.size w w9) := hid (bl_then (by have := HB8.out; exact blBy) hbx)
  replace HM1 := hid ((HM1.out).kept (below_trans (by exact blBy) hbx))
  replace HM2 := hid ((HM2.out).kept (below_trans (by exact blBy) hbx))
  clear HF7 HF8 hbx
  generalize w8.heap.size = p3 at *
  go_wp2_with fail
  refine (mergedLW _ mx (cell_below HM.out (by have := HB9.out; exact blBy)) AnyZ 1 _ _ _ aM bM cM (HM1.out.kept (by exact blBy)) (HM2.out.kept (by exact blBy)) (HM3.out.kept (by exact blBy)) keptAM keptBM 9 9 (siz2 1 2 [1] [1] (by decide) (by decide)) (siz2 1 2 [0] [2] (by decide) (by decide)) (by omega) mergABC).mono ?_
  rintro e w10 ⟨rfl, hbx⟩
  have HBF : Hid (Below w.heap.size w w10) := hid (bl_then HB9.out (below_trans (by exact blBy) hbx))
  clear hbx
  go_wp2
  go_ret
  exact ⟨rfl, HBF.out⟩
end Go.Proofs.YtmfaabedfdppcaaGreatDoor
