/-
  MergeAlong: the empty message changes nothing, brackets make no difference, what is merged is typed.
  MergeAlong, whatever comes in.
  What comes in, opened: strings; and what the bound on it says.
  A table that comes in, opened.
-/
import Derived.Test.YtnebbmeomjiogaaGreatDoorCAD
import Derived.Test.YtnebbmeomjiogaaGreatDoorCNA
import Derived.Test.YtnebbmeomjiogaaGreatDoorCTS
import Derived.ProofKit
import Derived.OpenShut
import Derived.ShutString
import Derived.Lib.SmallJoins
import Derived.Deep.Slices
import Derived.Deep.Fields
namespace Go.Proofs.YtnebbmeomjiogaaGreatDoor
open Go.RowKit
set_option maxRecDepth 1000000
set_option linter.unusedVariables false
set_option linter.unusedSimpArgs false
set_option maxHeartbeats 4000000
theorem nilE {w : World} {Z : Nat → Prop} {d : Nat} : MsgE w Z (d + 1) [.slice none 0 0, .slice none 0 0] (CM.mk [] []) := ⟨_, _, rfl, RowM.nil _ _ _ _, RowM.nil _ _ _ _⟩
theorem nilKept (l : List TV) (d : Nat) (x : TV) : keptB l (d + 1) x (CM.mk [] []) = true := kept_mk (hold_mk (by kernel_rfl) (fun f hf => by cases hf) (by unfold singleB; rfl) (fun e he => by cases he)) (fun f hf => by cases hf)
theorem nilSiz (L d : Nat) : sizM L (d + 1) (CM.mk [] []) := ⟨Nat.zero_le _, Nat.zero_le _, fun f hf => by cases hf⟩
theorem emptyN (W : World) : Calls Tryz.prog 13 #[.agg #[.slice none 0 0, .slice none 0 0]] W fun e w' => e = .returned (.bool true) ∧ Below W.heap.size W w' := emptyD10 W AnyZ 1 [.slice none 0 0, .slice none 0 0] (CM.mk [] []) nilE
theorem along_bb (w : World) (ta : Option Addr) (ln tc : Nat) (idx : Int) (a b c : CM) (a1 a2 b1 b2 c1 c2 : Option Addr) (ac1 ac2 bc1 bc2 cc1 cc2 : Nat) (n1 n2 : Int) (hn1 : n1 ≠ 0) (hn2 : n2 ≠ 0) (HAW : Hid (∀ W, Below w.heap.size w W → Calls Tryz.prog 10 #[] W fun e w' => e = .returned (.bool true) ∧ Below W.heap.size W w'))
    (H1 : Hid (∀ W, Below w.heap.size w W → Calls Tryz.prog 20 #[.agg #[.slice ta ln tc], .int .i64 idx, .agg #[.slice a1 a.fs.length ac1, .slice a2 a.us.length ac2], .agg #[.slice b1 b.fs.length bc1, .slice b2 b.us.length bc2]] W fun e w' => e = .returned (.tuple #[.agg #[.slice none 0 0, .slice none 0 0], .int .i64 n1]) ∧ Below W.heap.size W w'))
    (H2 : Hid (∀ W, Below w.heap.size w W → Calls Tryz.prog 20 #[.agg #[.slice ta ln tc], .int .i64 idx, .agg #[.slice b1 b.fs.length bc1, .slice b2 b.us.length bc2], .agg #[.slice c1 c.fs.length cc1, .slice c2 c.us.length cc2]] W fun e w' => e = .returned (.tuple #[.agg #[.slice none 0 0, .slice none 0 0], .int .i64 n2]) ∧ Below W.heap.size W w')) :
    Calls Tryz.prog 5 #[.agg #[.slice ta ln tc], .int .i64 idx, .agg #[.slice a1 a.fs.length ac1, .slice a2 a.us.length ac2], .agg #[.slice b1 b.fs.length bc1, .slice b2 b.us.length bc2], .agg #[.slice c1 c.fs.length cc1, .slice c2 c.us.length cc2]] w fun e w' => e = .returned (.bool true) ∧ Below w.heap.size w w' := by
  have kn1 : (n1 == 0) = false := by simpa using hn1
  have jn1 : (n1 != 0) = true := by simpa using hn1
  have kn2 : (n2 == 0) = false := by simpa using hn2
  have jn2 : (n2 != 0) = true := by simpa using hn2
  clear hn1 hn2
  go_enter Tryz.func5, Tryz.ntmps5
  go_wp2_with fail
  refine (HAW.out _ (by exact blBy)).mono ?_
  rintro e w1 ⟨rfl, hb⟩
  have HB : Hid (Below w.heap.size w w1) := hid (bl_then (by exact blBy) hb)
  have Bt : Hid (Blk w1 w.heap.size 24 #[.slice ta ln tc]) := hid (((((Blk.new _ _ _).kept (below_alloc _)).kept (below_alloc _)).kept (below_alloc _)).kept hb)
  have Ba : Hid (Blk w1 (w.heap.size + 1) 29 #[.slice a1 a.fs.length ac1, .slice a2 a.us.length ac2]) := hid ((((Blk.newAt (by simp)).kept (below_alloc _)).kept (below_alloc _)).kept hb)
  have Bb : Hid (Blk w1 (w.heap.size + 1 + 1) 29 #[.slice b1 b.fs.length bc1, .slice b2 b.us.length bc2]) := hid (((Blk.newAt (by simp)).kept (below_alloc _)).kept hb)
  have Bc : Hid (Blk w1 (w.heap.size + 1 + 1 + 1) 29 #[.slice c1 c.fs.length cc1, .slice c2 c.us.length cc2]) := hid ((Blk.newAt (by simp)).kept hb)
  clear hb
  generalize w.heap.size + 1 + 1 + 1 = q3 at *
  generalize w.heap.size + 1 + 1 = q2 at *
  generalize w.heap.size + 1 = q1 at *
  have xBt := Bt.out.cellF
  have zBt := Bt.out.lt
  have xBa := Ba.out.cellF
  have zBa := Ba.out.lt
  have xBb := Bb.out.cellF
  have zBb := Bb.out.lt
  have xBc := Bc.out.cellF
  have zBc := Bc.out.lt
  go_wp2_with fail
  refine (H1.out _ (by have := HB.out; exact blBy)).mono ?_
  rintro e w2 ⟨rfl, hb⟩
  clear xBt zBt xBa zBa xBb zBb xBc zBc
  replace Bt := hid (Bt.out.kept (below_trans (by exact blBy) hb))
  replace Ba := hid (Ba.out.kept (below_trans (by exact blBy) hb))
  replace Bb := hid (Bb.out.kept (below_trans (by exact blBy) hb))
  replace Bc := hid (Bc.out.kept (below_trans (by exact blBy) hb))
  replace HB := hid (bl_then HB.out (below_trans (by exact blBy) hb))
  clear hb
  have xBt := Bt.out.cellF
  have zBt := Bt.out.lt
  have xBa := Ba.out.cellF
  have zBa := Ba.out.lt
  have xBb := Bb.out.cellF
  have zBb := Bb.out.lt
  have xBc := Bc.out.cellF
  have zBc := Bc.out.lt
  go_wp2_with fail
  refine (H2.out _ (by have := HB.out; exact blBy)).mono ?_
  rintro e w3 ⟨rfl, hb⟩
  clear xBt zBt xBa zBa xBb zBb xBc zBc
  replace Bt := hid (Bt.out.kept (below_trans (by exact blBy) hb))
  replace Ba := hid (Ba.out.kept (below_trans (by exact blBy) hb))
  replace Bb := hid (Bb.out.kept (below_trans (by exact blBy) hb))
  replace Bc := hid (Bc.out.kept (below_trans (by exact blBy) hb))
  have Bx : Hid (Blk w3 w2.heap.size 29 #[.slice none 0 0, .slice none 0 0]) := hid ((Blk.new _ _ _).kept hb)
  generalize w2.heap.size = pBx at *
  replace HB := hid (bl_then HB.out (below_trans (by exact blBy) hb))
  clear hb
  have xBt := Bt.out.cellF
  have zBt := Bt.out.lt
  have xBa := Ba.out.cellF
  have zBa := Ba.out.lt
  have xBb := Bb.out.cellF
  have zBb := Bb.out.lt
  have xBc := Bc.out.cellF
  have zBc := Bc.out.lt
  have xBx := Bx.out.cellF
  have zBx := Bx.out.lt
  go_wp2_with fail
  refine (emptyN _).mono ?_
  rintro e w4 ⟨rfl, hb⟩
  clear xBt zBt xBa zBa xBb zBb xBc zBc xBx zBx
  replace Bt := hid (Bt.out.kept (below_trans (by exact blBy) hb))
  replace Ba := hid (Ba.out.kept (below_trans (by exact blBy) hb))
  replace Bb := hid (Bb.out.kept (below_trans (by exact blBy) hb))
  replace Bc := hid (Bc.out.kept (below_trans (by exact blBy) hb))
  replace Bx := hid (Bx.out.kept (below_trans (by exact blBy) hb))
  have By : Hid (Blk w4 w3.heap.size 29 #[.slice none 0 0, .slice none 0 0]) := hid ((Blk.new _ _ _).kept hb)
  generalize w3.heap.size = pBy at *
  replace HB := hid (bl_then HB.out (below_trans (by exact blBy) hb))
  clear hb
  have xBt := Bt.out.cellF
  have zBt := Bt.out.lt
  have xBa := Ba.out.cellF
  have zBa := Ba.out.lt
  have xBb := Bb.out.cellF
  have zBb := Bb.out.lt
  have xBc := Bc.out.cellF
  have zBc := Bc.out.lt
  have xBx := Bx.out.cellF
  have zBx := Bx.out.lt
  have xBy := By.out.cellF
  have zBy := By.out.lt
  go_wp2_with fail
  refine (emptyN _).mono ?_
  rintro e w5 ⟨rfl, hb⟩
  clear xBt zBt xBa zBa xBb zBb xBc zBc xBx zBx xBy zBy
  replace Bt := hid (Bt.out.kept (below_trans (by exact blBy) hb))
  replace Ba := hid (Ba.out.kept (below_trans (by exact blBy) hb))
  replace Bb := hid (Bb.out.kept (below_trans (by exact blBy) hb))
  replace Bc := hid (Bc.out.kept (below_trans (by exact blBy) hb))
  replace Bx := hid (Bx.out.kept (below_trans (by exact blBy) hb))
  replace By := hid (By.out.kept (below_trans (by exact blBy) hb))
  replace HB := hid (bl_then HB.out (below_trans (by exact blBy) hb))
  clear hb
  have xBt := Bt.out.cellF
  have zBt := Bt.out.lt
  have xBa := Ba.out.cellF
  have zBa := Ba.out.lt
  have xBb := Bb.out.cellF
  have zBb := Bb.out.lt
  have xBc := Bc.out.cellF
  have zBc := Bc.out.lt
  have xBx := Bx.out.cellF
  have zBx := Bx.out.lt
  have xBy := By.out.cellF
  have zBy := By.out.lt
  go_wp2
  go_ret
  exact ⟨ret_bool (by simp), HB.out⟩
theorem along_bo (w : World) (ta : Option Addr) (ln tc : Nat) (idx : Int) (a b c : CM) (a1 a2 b1 b2 c1 c2 : Option Addr) (ac1 ac2 bc1 bc2 cc1 cc2 : Nat) (n1 n2 : Int) (hn1 : n1 ≠ 0) (hn2 : n2 ≠ 0) (HAW : Hid (∀ W, Below w.heap.size w W → Calls Tryz.prog 10 #[] W fun e w' => e = .returned (.bool true) ∧ Below W.heap.size W w'))
    (H1 : Hid (∀ W, Below w.heap.size w W → Calls Tryz.prog 20 #[.agg #[.slice ta ln tc], .int .i64 idx, .agg #[.slice a1 a.fs.length ac1, .slice a2 a.us.length ac2], .agg #[.slice b1 b.fs.length bc1, .slice b2 b.us.length bc2]] W fun e w' => e = .returned (.tuple #[.agg #[.slice none 0 0, .slice none 0 0], .int .i64 n1]) ∧ Below W.heap.size W w'))
    (H2 : Hid (∀ W, Below w.heap.size w W → Calls Tryz.prog 20 #[.agg #[.slice ta ln tc], .int .i64 idx, .agg #[.slice b1 b.fs.length bc1, .slice b2 b.us.length bc2], .agg #[.slice c1 c.fs.length cc1, .slice c2 c.us.length cc2]] W fun e w' => (∃ (u v : Option Addr) (un uc vn vc : Nat), e = .returned (.tuple #[.agg #[.slice u un uc, .slice v vn vc], .int .i64 0])) ∧ Below W.heap.size W w')) :
    Calls Tryz.prog 5 #[.agg #[.slice ta ln tc], .int .i64 idx, .agg #[.slice a1 a.fs.length ac1, .slice a2 a.us.length ac2], .agg #[.slice b1 b.fs.length bc1, .slice b2 b.us.length bc2], .agg #[.slice c1 c.fs.length cc1, .slice c2 c.us.length cc2]] w fun e w' => e = .returned (.bool true) ∧ Below w.heap.size w w' := by
  have kn1 : (n1 == 0) = false := by simpa using hn1
  have jn1 : (n1 != 0) = true := by simpa using hn1
  have kn2 : (n2 == 0) = false := by simpa using hn2
  have jn2 : (n2 != 0) = true := by simpa using hn2
  clear hn1 hn2
  go_enter Tryz.func5, Tryz.ntmps5
  go_wp2_with fail
  refine (HAW.out _ (by exact blBy)).mono ?_
  rintro e w1 ⟨rfl, hb⟩
  have HB : Hid (Below w.heap.size w w1) := hid (bl_then (by exact blBy) hb)
  have Bt : Hid (Blk w1 w.heap.size 24 #[.slice ta ln tc]) := hid (((((Blk.new _ _ _).kept (below_alloc _)).kept (below_alloc _)).kept (below_alloc _)).kept hb)
  have Ba : Hid (Blk w1 (w.heap.size + 1) 29 #[.slice a1 a.fs.length ac1, .slice a2 a.us.length ac2]) := hid ((((Blk.newAt (by simp)).kept (below_alloc _)).kept (below_alloc _)).kept hb)
  have Bb : Hid (Blk w1 (w.heap.size + 1 + 1) 29 #[.slice b1 b.fs.length bc1, .slice b2 b.us.length bc2]) := hid (((Blk.newAt (by simp)).kept (below_alloc _)).kept hb)
  have Bc : Hid (Blk w1 (w.heap.size + 1 + 1 + 1) 29 #[.slice c1 c.fs.length cc1, .slice c2 c.us.length cc2]) := hid ((Blk.newAt (by simp)).kept hb)
  clear hb
  generalize w.heap.size + 1 + 1 + 1 = q3 at *
  generalize w.heap.size + 1 + 1 = q2 at *
  generalize w.heap.size + 1 = q1 at *
  have xBt := Bt.out.cellF
  have zBt := Bt.out.lt
  have xBa := Ba.out.cellF
  have zBa := Ba.out.lt
  have xBb := Bb.out.cellF
  have zBb := Bb.out.lt
  have xBc := Bc.out.cellF
  have zBc := Bc.out.lt
  go_wp2_with fail
  refine (H1.out _ (by have := HB.out; exact blBy)).mono ?_
  rintro e w2 ⟨rfl, hb⟩
  clear xBt zBt xBa zBa xBb zBb xBc zBc
  replace Bt := hid (Bt.out.kept (below_trans (by exact blBy) hb))
  replace Ba := hid (Ba.out.kept (below_trans (by exact blBy) hb))
  replace Bb := hid (Bb.out.kept (below_trans (by exact blBy) hb))
  replace Bc := hid (Bc.out.kept (below_trans (by exact blBy) hb))
  replace HB := hid (bl_then HB.out (below_trans (by exact blBy) hb))
  clear hb
  have xBt := Bt.out.cellF
  have zBt := Bt.out.lt
  have xBa := Ba.out.cellF
  have zBa := Ba.out.lt
  have xBb := Bb.out.cellF
  have zBb := Bb.out.lt
  have xBc := Bc.out.cellF
  have zBc := Bc.out.lt
  go_wp2_with fail
  refine (H2.out _ (by have := HB.out; exact blBy)).mono ?_
  rintro e w3 ⟨⟨y1, y2, yn1, yc1, yn2, yc2, rfl⟩, hb⟩
  clear xBt zBt xBa zBa xBb zBb xBc zBc
  replace Bt := hid (Bt.out.kept (below_trans (by exact blBy) hb))
  replace Ba := hid (Ba.out.kept (below_trans (by exact blBy) hb))
  replace Bb := hid (Bb.out.kept (below_trans (by exact blBy) hb))
  replace Bc := hid (Bc.out.kept (below_trans (by exact blBy) hb))
  have Bx : Hid (Blk w3 w2.heap.size 29 #[.slice none 0 0, .slice none 0 0]) := hid ((Blk.new _ _ _).kept hb)
  generalize w2.heap.size = pBx at *
  replace HB := hid (bl_then HB.out (below_trans (by exact blBy) hb))
  clear hb
  have xBt := Bt.out.cellF
  have zBt := Bt.out.lt
  have xBa := Ba.out.cellF
  have zBa := Ba.out.lt
  have xBb := Bb.out.cellF
  have zBb := Bb.out.lt
  have xBc := Bc.out.cellF
  have zBc := Bc.out.lt
  have xBx := Bx.out.cellF
  have zBx := Bx.out.lt
  go_wp2_with fail
  refine (emptyN _).mono ?_
  rintro e w4 ⟨rfl, hb⟩
  clear xBt zBt xBa zBa xBb zBb xBc zBc xBx zBx
  replace Bt := hid (Bt.out.kept (below_trans (by exact blBy) hb))
  replace Ba := hid (Ba.out.kept (below_trans (by exact blBy) hb))
  replace Bb := hid (Bb.out.kept (below_trans (by exact blBy) hb))
  replace Bc := hid (Bc.out.kept (below_trans (by exact blBy) hb))
  replace Bx := hid (Bx.out.kept (below_trans (by exact blBy) hb))
  have By : Hid (Blk w4 w3.heap.size 29 #[.slice y1 yn1 yc1, .slice y2 yn2 yc2]) := hid ((Blk.new _ _ _).kept hb)
  generalize w3.heap.size = pBy at *
  replace HB := hid (bl_then HB.out (below_trans (by exact blBy) hb))
  clear hb
  have xBt := Bt.out.cellF
  have zBt := Bt.out.lt
  have xBa := Ba.out.cellF
  have zBa := Ba.out.lt
  have xBb := Bb.out.cellF
  have zBb := Bb.out.lt
  have xBc := Bc.out.cellF
  have zBc := Bc.out.lt
  have xBx := Bx.out.cellF
  have zBx := Bx.out.lt
  have xBy := By.out.cellF
  have zBy := By.out.lt
  go_wp2
  go_ret
  exact ⟨ret_bool (by simp), HB.out⟩
theorem along_ob (w : World) (ta : Option Addr) (ln tc : Nat) (idx : Int) (a b c : CM) (a1 a2 b1 b2 c1 c2 : Option Addr) (ac1 ac2 bc1 bc2 cc1 cc2 : Nat) (n1 n2 : Int) (hn1 : n1 ≠ 0) (hn2 : n2 ≠ 0) (HAW : Hid (∀ W, Below w.heap.size w W → Calls Tryz.prog 10 #[] W fun e w' => e = .returned (.bool true) ∧ Below W.heap.size W w'))
    (H1 : Hid (∀ W, Below w.heap.size w W → Calls Tryz.prog 20 #[.agg #[.slice ta ln tc], .int .i64 idx, .agg #[.slice a1 a.fs.length ac1, .slice a2 a.us.length ac2], .agg #[.slice b1 b.fs.length bc1, .slice b2 b.us.length bc2]] W fun e w' => (∃ (u v : Option Addr) (un uc vn vc : Nat), e = .returned (.tuple #[.agg #[.slice u un uc, .slice v vn vc], .int .i64 0])) ∧ Below W.heap.size W w'))
    (H2 : Hid (∀ W, Below w.heap.size w W → Calls Tryz.prog 20 #[.agg #[.slice ta ln tc], .int .i64 idx, .agg #[.slice b1 b.fs.length bc1, .slice b2 b.us.length bc2], .agg #[.slice c1 c.fs.length cc1, .slice c2 c.us.length cc2]] W fun e w' => e = .returned (.tuple #[.agg #[.slice none 0 0, .slice none 0 0], .int .i64 n2]) ∧ Below W.heap.size W w')) :
    Calls Tryz.prog 5 #[.agg #[.slice ta ln tc], .int .i64 idx, .agg #[.slice a1 a.fs.length ac1, .slice a2 a.us.length ac2], .agg #[.slice b1 b.fs.length bc1, .slice b2 b.us.length bc2], .agg #[.slice c1 c.fs.length cc1, .slice c2 c.us.length cc2]] w fun e w' => e = .returned (.bool true) ∧ Below w.heap.size w w' := by
  have kn1 : (n1 == 0) = false := by simpa using hn1
  have jn1 : (n1 != 0) = true := by simpa using hn1
  have kn2 : (n2 == 0) = false := by simpa using hn2
  have jn2 : (n2 != 0) = true := by simpa using hn2
  clear hn1 hn2
  go_enter Tryz.func5, Tryz.ntmps5
  go_wp2_with fail
  refine (HAW.out _ (by exact blBy)).mono ?_
  rintro e w1 ⟨rfl, hb⟩
  have HB : Hid (Below w.heap.size w w1) := hid (bl_then (by exact blBy) hb)
  have Bt : Hid (Blk w1 w.heap.size 24 #[.slice ta ln tc]) := hid (((((Blk.new _ _ _).kept (below_alloc _)).kept (below_alloc _)).kept (below_alloc _)).kept hb)
  have Ba : Hid (Blk w1 (w.heap.size + 1) 29 #[.slice a1 a.fs.length ac1, .slice a2 a.us.length ac2]) := hid ((((Blk.newAt (by simp)).kept (below_alloc _)).kept (below_alloc _)).kept hb)
  have Bb : Hid (Blk w1 (w.heap.size + 1 + 1) 29 #[.slice b1 b.fs.length bc1, .slice b2 b.us.length bc2]) := hid (((Blk.newAt (by simp)).kept (below_alloc _)).kept hb)
  have Bc : Hid (Blk w1 (w.heap.size + 1 + 1 + 1) 29 #[.slice c1 c.fs.length cc1, .slice c2 c.us.length cc2]) := hid ((Blk.newAt (by simp)).kept hb)
  clear hb
  generalize w.heap.size + 1 + 1 + 1 = q3 at *
  generalize w.heap.size + 1 + 1 = q2 at *
  generalize w.heap.size + 1 = q1 at *
  have xBt := Bt.out.cellF
  have zBt := Bt.out.lt
  have xBa := Ba.out.cellF
  have zBa := Ba.out.lt
  have xBb := Bb.out.cellF
  have zBb := Bb.out.lt
  have xBc := Bc.out.cellF
  have zBc := Bc.out.lt
  go_wp2_with fail
  refine (H1.out _ (by have := HB.out; exact blBy)).mono ?_
  rintro e w2 ⟨⟨x1, x2, xn1, xc1, xn2, xc2, rfl⟩, hb⟩
  clear xBt zBt xBa zBa xBb zBb xBc zBc
  replace Bt := hid (Bt.out.kept (below_trans (by exact blBy) hb))
  replace Ba := hid (Ba.out.kept (below_trans (by exact blBy) hb))
  replace Bb := hid (Bb.out.kept (below_trans (by exact blBy) hb))
  replace Bc := hid (Bc.out.kept (below_trans (by exact blBy) hb))
  replace HB := hid (bl_then HB.out (below_trans (by exact blBy) hb))
  clear hb
  have xBt := Bt.out.cellF
  have zBt := Bt.out.lt
  have xBa := Ba.out.cellF
  have zBa := Ba.out.lt
  have xBb := Bb.out.cellF
  have zBb := Bb.out.lt
  have xBc := Bc.out.cellF
  have zBc := Bc.out.lt
  go_wp2_with fail
  refine (H2.out _ (by have := HB.out; exact blBy)).mono ?_
  rintro e w3 ⟨rfl, hb⟩
  clear xBt zBt xBa zBa xBb zBb xBc zBc
  replace Bt := hid (Bt.out.kept (below_trans (by exact blBy) hb))
  replace Ba := hid (Ba.out.kept (below_trans (by exact blBy) hb))
  replace Bb := hid (Bb.out.kept (below_trans (by exact blBy) hb))
  replace Bc := hid (Bc.out.kept (below_trans (by exact blBy) hb))
  have Bx : Hid (Blk w3 w2.heap.size 29 #[.slice x1 xn1 xc1, .slice x2 xn2 xc2]) := hid ((Blk.new _ _ _).kept hb)
  generalize w2.heap.size = pBx at *
  replace HB := hid (bl_then HB.out (below_trans (by exact blBy) hb))
  clear hb
  have xBt := Bt.out.cellF
  have zBt := Bt.out.lt
  have xBa := Ba.out.cellF
  have zBa := Ba.out.lt
  have xBb := Bb.out.cellF
  have zBb := Bb.out.lt
  have xBc := Bc.out.cellF
  have zBc := Bc.out.lt
  have xBx := Bx.out.cellF
  have zBx := Bx.out.lt
  go_wp2_with fail
  refine (emptyN _).mono ?_
  rintro e w4 ⟨rfl, hb⟩
  clear xBt zBt xBa zBa xBb zBb xBc zBc xBx zBx
  replace Bt := hid (Bt.out.kept (below_trans (by exact blBy) hb))
  replace Ba := hid (Ba.out.kept (below_trans (by exact blBy) hb))
  replace Bb := hid (Bb.out.kept (below_trans (by exact blBy) hb))
  replace Bc := hid (Bc.out.kept (below_trans (by exact blBy) hb))
  replace Bx := hid (Bx.out.kept (below_trans (by exact blBy) hb))
  have By : Hid (Blk w4 w3.heap.size 29 #[.slice none 0 0, .slice none 0 0]) := hid ((Blk.new _ _ _).kept hb)
  generalize w3.heap.size = pBy at *
  replace HB := hid (bl_then HB.out (below_trans (by exact blBy) hb))
  clear hb
  have xBt := Bt.out.cellF
  have zBt := Bt.out.lt
  have xBa := Ba.out.cellF
  have zBa := Ba.out.lt
  have xBb := Bb.out.cellF
  have zBb := Bb.out.lt
  have xBc := Bc.out.cellF
  have zBc := Bc.out.lt
  have xBx := Bx.out.cellF
  have zBx := Bx.out.lt
  have xBy := By.out.cellF
  have zBy := By.out.lt
  go_wp2
  go_ret
  exact ⟨ret_bool (by simp), HB.out⟩
theorem along_oo (w : World) (l : List TV) (ta : Option Addr) (ln tc : Nat) (hln : ln = l.length) (h : TbR w (.slice ta l.length tc) l) (hk : ∀ x ∈ l, OkV x) (mx : Int) (hm0 : w.cell? ⟨0, 0, none⟩ = some (.int .i64 mx)) (k : Nat) (hkl : k < l.length) (hg : goodB l = true) (he : l[k].t.enum = false) (ho : ∀ x ∈ l, ∀ o ∈ x.t.fs, o.lab = 4 → 0 ≤ o.one ∧ o.one < 128) (Z : Nat → Prop) (d : Nat) (a b c : CM) (a1 a2 b1 b2 c1 c2 : Option Addr) (ac1 ac2 bc1 bc2 cc1 cc2 : Nat) (ha : MsgE w Z (d + 1) [.slice a1 a.fs.length ac1, .slice a2 a.us.length ac2] a) (hb : MsgE w Z (d + 1) [.slice b1 b.fs.length bc1, .slice b2 b.us.length bc2] b) (hc : MsgE w Z (d + 1) [.slice c1 c.fs.length cc1, .slice c2 c.us.length cc2] c) (ka : keptB l (d + 1) l[k] a = true) (kb : keptB l (d + 1) l[k] b = true) (kc : keptB l (d + 1) l[k] c = true) (L : Nat) (hL0 : 1 ≤ L) (hL : 3 * L ≤ 4000000) (sa : sizM L (d + 1) a) (sb : sizM L (d + 1) b) (sc : sizM L (d + 1) c) (HAW : Hid (∀ W, Below w.heap.size w W → Calls Tryz.prog 10 #[] W fun e w' => e = .returned (.bool true) ∧ Below W.heap.size W w')) :
    Calls Tryz.prog 5 #[.agg #[.slice ta ln tc], .int .i64 (k : Int), .agg #[.slice a1 a.fs.length ac1, .slice a2 a.us.length ac2], .agg #[.slice b1 b.fs.length bc1, .slice b2 b.us.length bc2], .agg #[.slice c1 c.fs.length cc1, .slice c2 c.us.length cc2]] w fun e w' => e = .returned (.bool true) ∧ Below w.heap.size w w' := by
  subst hln
  have HMG : Hid (∀ (W : World), Below w.heap.size w W → ∀ (cs ds : List Value) (x y : CM), MsgE W AnyZ (d + 1) cs x → MsgE W AnyZ (d + 1) ds y → keptB l (d + 1) l[k] x = true → keptB l (d + 1) l[k] y = true → ∀ (L1 L2 : Nat), sizM L1 (d + 1) x → sizM L2 (d + 1) y → L1 + L2 ≤ 4000000 → Calls Tryz.prog 20 #[.agg #[.slice ta l.length tc], .int .i64 (k : Int), .agg cs.toArray, .agg ds.toArray] W fun e w' => ∃ (u v : Option Addr) (uc vc : Nat), e = .returned (.tuple #[.agg #[.slice u (mergM l (d + 1) l[k] x y).fs.length uc, .slice v (mergM l (d + 1) l[k] x y).us.length vc], .int .i64 0]) ∧ MsgE w' AnyZ (d + 1) [.slice u (mergM l (d + 1) l[k] x y).fs.length uc, .slice v (mergM l (d + 1) l[k] x y).us.length vc] (mergM l (d + 1) l[k] x y) ∧ Below W.heap.size W w') := hid fun W hW cs ds x y hx hy kx ky L1 L2 sx sy hL => (mergeOk W l ta tc (h.kept hW) hk mx (cell_below hm0 hW) k hkl hg he AnyZ (d + 1) cs ds x y hx hy kx ky L1 L2 sx sy hL).mono fun e w' ⟨es, h1, h2, h3⟩ => by
    obtain ⟨u, uc, v, vc, rfl, -⟩ := msg_openD h2
    exact ⟨u, v, uc, vc, h1, MsgE.go (Keep.refl (fun _ => True) _) (fun _ _ => trivial) (fun _ _ => trivial) (d + 1) _ _ h2, h3⟩
  have HTY := hid fun W (hW : Below w.heap.size w W) cs m (hm : MsgE W AnyZ (d + 1) cs m) => typedT W l ta tc (h.kept hW) hk mx (cell_below hm0 hW) k hkl hg he AnyZ (d + 1) cs m hm
  have hX := List.getElem_mem hkl
  have kx := merg_kept ho (d + 1) l[k] hX a b ka kb
  have sx := siz_merg hL0 (d + 1) l[k] a b ka kb sa sb
  have ky := merg_kept ho (d + 1) l[k] hX b c kb kc
  have sy := siz_merg hL0 (d + 1) l[k] b c kb kc sb sc
  have kl := merg_kept ho (d + 1) l[k] hX _ c kx kc
  have eAS := merg_assoc (d + 1) l[k] a b c ka kb kc
  have eNR := merg_nilR l d l[k] a
  have eNL := merg_nilL l d l[k] a
  have HMa : Hid (MsgE w AnyZ (d + 1) [.slice a1 a.fs.length ac1, .slice a2 a.us.length ac2] a) := hid (MsgE.go (Keep.refl (fun _ => True) _) (fun _ _ => trivial) (fun _ _ => trivial) (d + 1) _ _ ha)
  have HMb : Hid (MsgE w AnyZ (d + 1) [.slice b1 b.fs.length bc1, .slice b2 b.us.length bc2] b) := hid (MsgE.go (Keep.refl (fun _ => True) _) (fun _ _ => trivial) (fun _ _ => trivial) (d + 1) _ _ hb)
  have HMc : Hid (MsgE w AnyZ (d + 1) [.slice c1 c.fs.length cc1, .slice c2 c.us.length cc2] c) := hid (MsgE.go (Keep.refl (fun _ => True) _) (fun _ _ => trivial) (fun _ _ => trivial) (d + 1) _ _ hc)
  have HH1 := hid fun W (hW : Below w.heap.size w W) => HMG.out W hW _ _ a b (HMa.out.kept hW) (HMb.out.kept hW) ka kb L L sa sb (by omega)
  have HH2 := hid fun W (hW : Below w.heap.size w W) => HMG.out W hW _ _ b c (HMb.out.kept hW) (HMc.out.kept hW) kb kc L L sb sc (by omega)
  have HH3 := hid fun W (hW : Below w.heap.size w W) xs (hx : MsgE W AnyZ (d + 1) xs (mergM l (d + 1) l[k] a b)) => HMG.out W hW _ _ _ c hx (HMc.out.kept hW) kx kc (L + L) L sx sc (by omega)
  have HH4 := hid fun W (hW : Below w.heap.size w W) ys (hy : MsgE W AnyZ (d + 1) ys (mergM l (d + 1) l[k] b c)) => HMG.out W hW _ _ a _ (HMa.out.kept hW) hy ka ky L (L + L) sa sy (by omega)
  have HH5 := hid fun W (hW : Below w.heap.size w W) => HMG.out W hW _ _ a (CM.mk [] []) (HMa.out.kept hW) nilE ka (nilKept l d l[k]) L L sa (nilSiz L d) (by omega)
  have HH6 := hid fun W (hW : Below w.heap.size w W) => HMG.out W hW _ _ (CM.mk [] []) a nilE (HMa.out.kept hW) (nilKept l d l[k]) ka L L (nilSiz L d) sa (by omega)
  rw [eNR] at HH5
  rw [eNL] at HH6
  rw [← eAS] at HH4
  have HEA := hid fun W (hW : Below w.heap.size w W) xs (hx : MsgE W AnyZ (d + 1) xs a) => equalD (d + 1) W AnyZ AnyZ xs _ a a hx (HMa.out.kept hW)
  have HKL := hid kl
  clear h hk hm0 hg he ho ha hb hc sa sb sc sx sy ka kb kc kx ky kl eAS eNR eNL HMG hX hL hL0
  generalize mergM l (d + 1) l[k] (mergM l (d + 1) l[k] a b) c = ll at *
  generalize mergM l (d + 1) l[k] a b = x at *
  generalize mergM l (d + 1) l[k] b c = y at *
  have HTL := hid fun W (hW : Below w.heap.size w W) xs (hx : MsgE W AnyZ (d + 1) xs ll) => HTY.out W hW xs ll hx
  rw [HKL.out] at HTL
  clear HTY HKL HMb HMc HMa
  go_enter Tryz.func5, Tryz.ntmps5
  go_wp2_with fail
  refine (HAW.out _ (by exact blBy)).mono ?_
  rintro e w1 ⟨rfl, hb⟩
  have HB : Hid (Below w.heap.size w w1) := hid (bl_then (by exact blBy) hb)
  have Bt : Hid (Blk w1 w.heap.size 24 #[.slice ta l.length tc]) := hid (((((Blk.new _ _ _).kept (below_alloc _)).kept (below_alloc _)).kept (below_alloc _)).kept hb)
  have Ba : Hid (Blk w1 (w.heap.size + 1) 29 #[.slice a1 a.fs.length ac1, .slice a2 a.us.length ac2]) := hid ((((Blk.newAt (by simp)).kept (below_alloc _)).kept (below_alloc _)).kept hb)
  have Bb : Hid (Blk w1 (w.heap.size + 1 + 1) 29 #[.slice b1 b.fs.length bc1, .slice b2 b.us.length bc2]) := hid (((Blk.newAt (by simp)).kept (below_alloc _)).kept hb)
  have Bc : Hid (Blk w1 (w.heap.size + 1 + 1 + 1) 29 #[.slice c1 c.fs.length cc1, .slice c2 c.us.length cc2]) := hid ((Blk.newAt (by simp)).kept hb)
  clear hb
  generalize w.heap.size + 1 + 1 + 1 = q3 at *
  generalize w.heap.size + 1 + 1 = q2 at *
  generalize w.heap.size + 1 = q1 at *
  have xBt := Bt.out.cellF
  have zBt := Bt.out.lt
  have xBa := Ba.out.cellF
  have zBa := Ba.out.lt
  have xBb := Bb.out.cellF
  have zBb := Bb.out.lt
  have xBc := Bc.out.cellF
  have zBc := Bc.out.lt
  go_wp2_with fail
  refine (HH1.out _ (by have := HB.out; exact blBy)).mono ?_
  rintro e w2 ⟨x1, x2, xc1, xc2, rfl, hm, hb⟩
  clear xBt zBt xBa zBa xBb zBb xBc zBc
  replace Bt := hid (Bt.out.kept (below_trans (by exact blBy) hb))
  replace Ba := hid (Ba.out.kept (below_trans (by exact blBy) hb))
  replace Bb := hid (Bb.out.kept (below_trans (by exact blBy) hb))
  replace Bc := hid (Bc.out.kept (below_trans (by exact blBy) hb))
  replace HB := hid (bl_then HB.out (below_trans (by exact blBy) hb))
  clear hb
  have HMx := hid hm
  clear hm
  have xBt := Bt.out.cellF
  have zBt := Bt.out.lt
  have xBa := Ba.out.cellF
  have zBa := Ba.out.lt
  have xBb := Bb.out.cellF
  have zBb := Bb.out.lt
  have xBc := Bc.out.cellF
  have zBc := Bc.out.lt
  go_wp2_with fail
  refine (HH2.out _ (by have := HB.out; exact blBy)).mono ?_
  rintro e w3 ⟨y1, y2, yc1, yc2, rfl, hm, hb⟩
  clear xBt zBt xBa zBa xBb zBb xBc zBc
  replace Bt := hid (Bt.out.kept (below_trans (by exact blBy) hb))
  replace Ba := hid (Ba.out.kept (below_trans (by exact blBy) hb))
  replace Bb := hid (Bb.out.kept (below_trans (by exact blBy) hb))
  replace Bc := hid (Bc.out.kept (below_trans (by exact blBy) hb))
  have Bx : Hid (Blk w3 w2.heap.size 29 #[.slice x1 x.fs.length xc1, .slice x2 x.us.length xc2]) := hid ((Blk.new _ _ _).kept hb)
  generalize w2.heap.size = pBx at *
  replace HMx := hid (HMx.out.kept (below_trans (by exact blBy) hb))
  replace HB := hid (bl_then HB.out (below_trans (by exact blBy) hb))
  clear hb
  have HMy := hid hm
  clear hm
  have xBt := Bt.out.cellF
  have zBt := Bt.out.lt
  have xBa := Ba.out.cellF
  have zBa := Ba.out.lt
  have xBb := Bb.out.cellF
  have zBb := Bb.out.lt
  have xBc := Bc.out.cellF
  have zBc := Bc.out.lt
  have xBx := Bx.out.cellF
  have zBx := Bx.out.lt
  go_wp2_with fail
  refine (HH3.out _ (by have := HB.out; exact blBy) _ (HMx.out.kept (by exact blBy))).mono ?_
  rintro e w4 ⟨l1, l2, lc1, lc2, rfl, hm, hb⟩
  clear xBt zBt xBa zBa xBb zBb xBc zBc xBx zBx
  replace Bt := hid (Bt.out.kept (below_trans (by exact blBy) hb))
  replace Ba := hid (Ba.out.kept (below_trans (by exact blBy) hb))
  replace Bb := hid (Bb.out.kept (below_trans (by exact blBy) hb))
  replace Bc := hid (Bc.out.kept (below_trans (by exact blBy) hb))
  replace Bx := hid (Bx.out.kept (below_trans (by exact blBy) hb))
  have By : Hid (Blk w4 w3.heap.size 29 #[.slice y1 y.fs.length yc1, .slice y2 y.us.length yc2]) := hid ((Blk.new _ _ _).kept hb)
  generalize w3.heap.size = pBy at *
  replace HMx := hid (HMx.out.kept (below_trans (by exact blBy) hb))
  replace HMy := hid (HMy.out.kept (below_trans (by exact blBy) hb))
  replace HB := hid (bl_then HB.out (below_trans (by exact blBy) hb))
  clear hb
  have HMl := hid hm
  clear hm
  have xBt := Bt.out.cellF
  have zBt := Bt.out.lt
  have xBa := Ba.out.cellF
  have zBa := Ba.out.lt
  have xBb := Bb.out.cellF
  have zBb := Bb.out.lt
  have xBc := Bc.out.cellF
  have zBc := Bc.out.lt
  have xBx := Bx.out.cellF
  have zBx := Bx.out.lt
  have xBy := By.out.cellF
  have zBy := By.out.lt
  go_wp2_with fail
  refine (HH4.out _ (by have := HB.out; exact blBy) _ (HMy.out.kept (by exact blBy))).mono ?_
  rintro e w5 ⟨r1, r2, rc1, rc2, rfl, hm, hb⟩
  clear xBt zBt xBa zBa xBb zBb xBc zBc xBx zBx xBy zBy
  replace Bt := hid (Bt.out.kept (below_trans (by exact blBy) hb))
  replace Ba := hid (Ba.out.kept (below_trans (by exact blBy) hb))
  replace Bb := hid (Bb.out.kept (below_trans (by exact blBy) hb))
  replace Bc := hid (Bc.out.kept (below_trans (by exact blBy) hb))
  replace Bx := hid (Bx.out.kept (below_trans (by exact blBy) hb))
  replace By := hid (By.out.kept (below_trans (by exact blBy) hb))
  have Bl : Hid (Blk w5 w4.heap.size 29 #[.slice l1 ll.fs.length lc1, .slice l2 ll.us.length lc2]) := hid ((Blk.new _ _ _).kept hb)
  generalize w4.heap.size = pBl at *
  replace HMx := hid (HMx.out.kept (below_trans (by exact blBy) hb))
  replace HMy := hid (HMy.out.kept (below_trans (by exact blBy) hb))
  replace HMl := hid (HMl.out.kept (below_trans (by exact blBy) hb))
  replace HB := hid (bl_then HB.out (below_trans (by exact blBy) hb))
  clear hb
  have HMr := hid hm
  clear hm
  have xBt := Bt.out.cellF
  have zBt := Bt.out.lt
  have xBa := Ba.out.cellF
  have zBa := Ba.out.lt
  have xBb := Bb.out.cellF
  have zBb := Bb.out.lt
  have xBc := Bc.out.cellF
  have zBc := Bc.out.lt
  have xBx := Bx.out.cellF
  have zBx := Bx.out.lt
  have xBy := By.out.cellF
  have zBy := By.out.lt
  have xBl := Bl.out.cellF
  have zBl := Bl.out.lt
  go_wp2_with fail
  refine (HH5.out _ (by have := HB.out; exact blBy)).mono ?_
  rintro e w6 ⟨u1, u2, uc1, uc2, rfl, hm, hb⟩
  clear xBt zBt xBa zBa xBb zBb xBc zBc xBx zBx xBy zBy xBl zBl
  replace Bt := hid (Bt.out.kept (below_trans (by exact blBy) hb))
  replace Ba := hid (Ba.out.kept (below_trans (by exact blBy) hb))
  replace Bb := hid (Bb.out.kept (below_trans (by exact blBy) hb))
  replace Bc := hid (Bc.out.kept (below_trans (by exact blBy) hb))
  replace Bx := hid (Bx.out.kept (below_trans (by exact blBy) hb))
  replace By := hid (By.out.kept (below_trans (by exact blBy) hb))
  replace Bl := hid (Bl.out.kept (below_trans (by exact blBy) hb))
  have Br : Hid (Blk w6 w5.heap.size 29 #[.slice r1 ll.fs.length rc1, .slice r2 ll.us.length rc2]) := hid ((Blk.new _ _ _).kept hb)
  generalize w5.heap.size = pBr at *
  replace HMx := hid (HMx.out.kept (below_trans (by exact blBy) hb))
  replace HMy := hid (HMy.out.kept (below_trans (by exact blBy) hb))
  replace HMl := hid (HMl.out.kept (below_trans (by exact blBy) hb))
  replace HMr := hid (HMr.out.kept (below_trans (by exact blBy) hb))
  replace HB := hid (bl_then HB.out (below_trans (by exact blBy) hb))
  clear hb
  have HMu := hid hm
  clear hm
  have xBt := Bt.out.cellF
  have zBt := Bt.out.lt
  have xBa := Ba.out.cellF
  have zBa := Ba.out.lt
  have xBb := Bb.out.cellF
  have zBb := Bb.out.lt
  have xBc := Bc.out.cellF
  have zBc := Bc.out.lt
  have xBx := Bx.out.cellF
  have zBx := Bx.out.lt
  have xBy := By.out.cellF
  have zBy := By.out.lt
  have xBl := Bl.out.cellF
  have zBl := Bl.out.lt
  have xBr := Br.out.cellF
  have zBr := Br.out.lt
  go_wp2_with fail
  refine (HH6.out _ (by have := HB.out; exact blBy)).mono ?_
  rintro e w7 ⟨v1, v2, vc1, vc2, rfl, hm, hb⟩
  clear xBt zBt xBa zBa xBb zBb xBc zBc xBx zBx xBy zBy xBl zBl xBr zBr
  replace Bt := hid (Bt.out.kept (below_trans (by exact blBy) hb))
  replace Ba := hid (Ba.out.kept (below_trans (by exact blBy) hb))
  replace Bb := hid (Bb.out.kept (below_trans (by exact blBy) hb))
  replace Bc := hid (Bc.out.kept (below_trans (by exact blBy) hb))
  replace Bx := hid (Bx.out.kept (below_trans (by exact blBy) hb))
  replace By := hid (By.out.kept (below_trans (by exact blBy) hb))
  replace Bl := hid (Bl.out.kept (below_trans (by exact blBy) hb))
  replace Br := hid (Br.out.kept (below_trans (by exact blBy) hb))
  have Bu : Hid (Blk w7 w6.heap.size 29 #[.slice u1 a.fs.length uc1, .slice u2 a.us.length uc2]) := hid ((Blk.new _ _ _).kept hb)
  generalize w6.heap.size = pBu at *
  replace HMx := hid (HMx.out.kept (below_trans (by exact blBy) hb))
  replace HMy := hid (HMy.out.kept (below_trans (by exact blBy) hb))
  replace HMl := hid (HMl.out.kept (below_trans (by exact blBy) hb))
  replace HMr := hid (HMr.out.kept (below_trans (by exact blBy) hb))
  replace HMu := hid (HMu.out.kept (below_trans (by exact blBy) hb))
  replace HB := hid (bl_then HB.out (below_trans (by exact blBy) hb))
  clear hb
  have HMv := hid hm
  clear hm
  have xBt := Bt.out.cellF
  have zBt := Bt.out.lt
  have xBa := Ba.out.cellF
  have zBa := Ba.out.lt
  have xBb := Bb.out.cellF
  have zBb := Bb.out.lt
  have xBc := Bc.out.cellF
  have zBc := Bc.out.lt
  have xBx := Bx.out.cellF
  have zBx := Bx.out.lt
  have xBy := By.out.cellF
  have zBy := By.out.lt
  have xBl := Bl.out.cellF
  have zBl := Bl.out.lt
  have xBr := Br.out.cellF
  have zBr := Br.out.lt
  have xBu := Bu.out.cellF
  have zBu := Bu.out.lt
  go_wp2_with fail
  refine (HTL.out _ (by have := HB.out; exact blBy) _ (HMl.out.kept (by exact blBy))).mono ?_
  rintro e w8 ⟨rfl, hb⟩
  clear xBt zBt xBa zBa xBb zBb xBc zBc xBx zBx xBy zBy xBl zBl xBr zBr xBu zBu
  replace Bt := hid (Bt.out.kept (below_trans (by exact blBy) hb))
  replace Ba := hid (Ba.out.kept (below_trans (by exact blBy) hb))
  replace Bb := hid (Bb.out.kept (below_trans (by exact blBy) hb))
  replace Bc := hid (Bc.out.kept (below_trans (by exact blBy) hb))
  replace Bx := hid (Bx.out.kept (below_trans (by exact blBy) hb))
  replace By := hid (By.out.kept (below_trans (by exact blBy) hb))
  replace Bl := hid (Bl.out.kept (below_trans (by exact blBy) hb))
  replace Br := hid (Br.out.kept (below_trans (by exact blBy) hb))
  replace Bu := hid (Bu.out.kept (below_trans (by exact blBy) hb))
  have Bv : Hid (Blk w8 w7.heap.size 29 #[.slice v1 a.fs.length vc1, .slice v2 a.us.length vc2]) := hid ((Blk.new _ _ _).kept hb)
  generalize w7.heap.size = pBv at *
  replace HMx := hid (HMx.out.kept (below_trans (by exact blBy) hb))
  replace HMy := hid (HMy.out.kept (below_trans (by exact blBy) hb))
  replace HMl := hid (HMl.out.kept (below_trans (by exact blBy) hb))
  replace HMr := hid (HMr.out.kept (below_trans (by exact blBy) hb))
  replace HMu := hid (HMu.out.kept (below_trans (by exact blBy) hb))
  replace HMv := hid (HMv.out.kept (below_trans (by exact blBy) hb))
  replace HB := hid (bl_then HB.out (below_trans (by exact blBy) hb))
  clear hb
  have xBt := Bt.out.cellF
  have zBt := Bt.out.lt
  have xBa := Ba.out.cellF
  have zBa := Ba.out.lt
  have xBb := Bb.out.cellF
  have zBb := Bb.out.lt
  have xBc := Bc.out.cellF
  have zBc := Bc.out.lt
  have xBx := Bx.out.cellF
  have zBx := Bx.out.lt
  have xBy := By.out.cellF
  have zBy := By.out.lt
  have xBl := Bl.out.cellF
  have zBl := Bl.out.lt
  have xBr := Br.out.cellF
  have zBr := Br.out.lt
  have xBu := Bu.out.cellF
  have zBu := Bu.out.lt
  have xBv := Bv.out.cellF
  have zBv := Bv.out.lt
  go_wp2_with fail
  refine (equalD (d + 1) _ AnyZ AnyZ _ _ ll ll (HMl.out.kept (by exact blBy)) (HMr.out.kept (by exact blBy))).mono ?_
  rintro e w9 ⟨r9, rfl, hr9, hb⟩
  clear xBt zBt xBa zBa xBb zBb xBc zBc xBx zBx xBy zBy xBl zBl xBr zBr xBu zBu xBv zBv
  replace Bt := hid (Bt.out.kept (below_trans (by exact blBy) hb))
  replace Ba := hid (Ba.out.kept (below_trans (by exact blBy) hb))
  replace Bb := hid (Bb.out.kept (below_trans (by exact blBy) hb))
  replace Bc := hid (Bc.out.kept (below_trans (by exact blBy) hb))
  replace Bx := hid (Bx.out.kept (below_trans (by exact blBy) hb))
  replace By := hid (By.out.kept (below_trans (by exact blBy) hb))
  replace Bl := hid (Bl.out.kept (below_trans (by exact blBy) hb))
  replace Br := hid (Br.out.kept (below_trans (by exact blBy) hb))
  replace Bu := hid (Bu.out.kept (below_trans (by exact blBy) hb))
  replace Bv := hid (Bv.out.kept (below_trans (by exact blBy) hb))
  replace HMx := hid (HMx.out.kept (below_trans (by exact blBy) hb))
  replace HMy := hid (HMy.out.kept (below_trans (by exact blBy) hb))
  replace HMl := hid (HMl.out.kept (below_trans (by exact blBy) hb))
  replace HMr := hid (HMr.out.kept (below_trans (by exact blBy) hb))
  replace HMu := hid (HMu.out.kept (below_trans (by exact blBy) hb))
  replace HMv := hid (HMv.out.kept (below_trans (by exact blBy) hb))
  replace HB := hid (bl_then HB.out (below_trans (by exact blBy) hb))
  clear hb
  obtain rfl : r9 = true := hr9.2 (by first | trivial | rfl)
  clear hr9
  have xBt := Bt.out.cellF
  have zBt := Bt.out.lt
  have xBa := Ba.out.cellF
  have zBa := Ba.out.lt
  have xBb := Bb.out.cellF
  have zBb := Bb.out.lt
  have xBc := Bc.out.cellF
  have zBc := Bc.out.lt
  have xBx := Bx.out.cellF
  have zBx := Bx.out.lt
  have xBy := By.out.cellF
  have zBy := By.out.lt
  have xBl := Bl.out.cellF
  have zBl := Bl.out.lt
  have xBr := Br.out.cellF
  have zBr := Br.out.lt
  have xBu := Bu.out.cellF
  have zBu := Bu.out.lt
  have xBv := Bv.out.cellF
  have zBv := Bv.out.lt
  go_wp2_with fail
  refine (HEA.out _ (by have := HB.out; exact blBy) _ (HMu.out.kept (by exact blBy))).mono ?_
  rintro e w10 ⟨r10, rfl, hr10, hb⟩
  clear xBt zBt xBa zBa xBb zBb xBc zBc xBx zBx xBy zBy xBl zBl xBr zBr xBu zBu xBv zBv
  replace Bt := hid (Bt.out.kept (below_trans (by exact blBy) hb))
  replace Ba := hid (Ba.out.kept (below_trans (by exact blBy) hb))
  replace Bb := hid (Bb.out.kept (below_trans (by exact blBy) hb))
  replace Bc := hid (Bc.out.kept (below_trans (by exact blBy) hb))
  replace Bx := hid (Bx.out.kept (below_trans (by exact blBy) hb))
  replace By := hid (By.out.kept (below_trans (by exact blBy) hb))
  replace Bl := hid (Bl.out.kept (below_trans (by exact blBy) hb))
  replace Br := hid (Br.out.kept (below_trans (by exact blBy) hb))
  replace Bu := hid (Bu.out.kept (below_trans (by exact blBy) hb))
  replace Bv := hid (Bv.out.kept (below_trans (by exact blBy) hb))
  replace HMx := hid (HMx.out.kept (below_trans (by exact blBy) hb))
  replace HMy := hid (HMy.out.kept (below_trans (by exact blBy) hb))
  replace HMl := hid (HMl.out.kept (below_trans (by exact blBy) hb))
  replace HMr := hid (HMr.out.kept (below_trans (by exact blBy) hb))
  replace HMu := hid (HMu.out.kept (below_trans (by exact blBy) hb))
  replace HMv := hid (HMv.out.kept (below_trans (by exact blBy) hb))
  replace HB := hid (bl_then HB.out (below_trans (by exact blBy) hb))
  clear hb
  obtain rfl : r10 = true := hr10.2 (by first | trivial | rfl)
  clear hr10
  have xBt := Bt.out.cellF
  have zBt := Bt.out.lt
  have xBa := Ba.out.cellF
  have zBa := Ba.out.lt
  have xBb := Bb.out.cellF
  have zBb := Bb.out.lt
  have xBc := Bc.out.cellF
  have zBc := Bc.out.lt
  have xBx := Bx.out.cellF
  have zBx := Bx.out.lt
  have xBy := By.out.cellF
  have zBy := By.out.lt
  have xBl := Bl.out.cellF
  have zBl := Bl.out.lt
  have xBr := Br.out.cellF
  have zBr := Br.out.lt
  have xBu := Bu.out.cellF
  have zBu := Bu.out.lt
  have xBv := Bv.out.cellF
  have zBv := Bv.out.lt
  go_wp2_with fail
  refine (HEA.out _ (by have := HB.out; exact blBy) _ (HMv.out.kept (by exact blBy))).mono ?_
  rintro e w11 ⟨r11, rfl, hr11, hb⟩
  clear xBt zBt xBa zBa xBb zBb xBc zBc xBx zBx xBy zBy xBl zBl xBr zBr xBu zBu xBv zBv
  replace Bt := hid (Bt.out.kept (below_trans (by exact blBy) hb))
  replace Ba := hid (Ba.out.kept (below_trans (by exact blBy) hb))
  replace Bb := hid (Bb.out.kept (below_trans (by exact blBy) hb))
  replace Bc := hid (Bc.out.kept (below_trans (by exact blBy) hb))
  replace Bx := hid (Bx.out.kept (below_trans (by exact blBy) hb))
  replace By := hid (By.out.kept (below_trans (by exact blBy) hb))
  replace Bl := hid (Bl.out.kept (below_trans (by exact blBy) hb))
  replace Br := hid (Br.out.kept (below_trans (by exact blBy) hb))
  replace Bu := hid (Bu.out.kept (below_trans (by exact blBy) hb))
  replace Bv := hid (Bv.out.kept (below_trans (by exact blBy) hb))
  replace HMx := hid (HMx.out.kept (below_trans (by exact blBy) hb))
  replace HMy := hid (HMy.out.kept (below_trans (by exact blBy) hb))
  replace HMl := hid (HMl.out.kept (below_trans (by exact blBy) hb))
  replace HMr := hid (HMr.out.kept (below_trans (by exact blBy) hb))
  replace HMu := hid (HMu.out.kept (below_trans (by exact blBy) hb))
  replace HMv := hid (HMv.out.kept (below_trans (by exact blBy) hb))
  replace HB := hid (bl_then HB.out (below_trans (by exact blBy) hb))
  clear hb
  obtain rfl : r11 = true := hr11.2 (by first | trivial | rfl)
  clear hr11
  have xBt := Bt.out.cellF
  have zBt := Bt.out.lt
  have xBa := Ba.out.cellF
  have zBa := Ba.out.lt
  have xBb := Bb.out.cellF
  have zBb := Bb.out.lt
  have xBc := Bc.out.cellF
  have zBc := Bc.out.lt
  have xBx := Bx.out.cellF
  have zBx := Bx.out.lt
  have xBy := By.out.cellF
  have zBy := By.out.lt
  have xBl := Bl.out.cellF
  have zBl := Bl.out.lt
  have xBr := Br.out.cellF
  have zBr := Br.out.lt
  have xBu := Bu.out.cellF
  have zBu := Bu.out.lt
  have xBv := Bv.out.cellF
  have zBv := Bv.out.lt
  go_wp2
  go_ret
  exact ⟨ret_bool (by simp), HB.out⟩
end Go.Proofs.YtnebbmeomjiogaaGreatDoor
namespace Go.Proofs.YtnebbmeomjiogaaGreatDoor
open Go.RowKit
set_option maxRecDepth 1000000
set_option linter.unusedVariables false
set_option linter.unusedSimpArgs false
set_option maxHeartbeats 1000000
theorem mergeAlongW (w : World) (l : List TV) (ta : Option Addr) (tc : Nat) (h : TbR w (.slice ta l.length tc) l) (hk : ∀ x ∈ l, OkV x) (mx : Int) (hm0 : w.cell? ⟨0, 0, none⟩ = some (.int .i64 mx)) (idx : Int) (Z : Nat → Prop) (d : Nat) (cs ds es : List Value) (a b c : CM) (ha : MsgE w Z (d + 1) cs a) (hb : MsgE w Z (d + 1) ds b) (hc : MsgE w Z (d + 1) es c) (L : Nat) (hL0 : 1 ≤ L) (hL : 3 * L ≤ 4000000) (sa : sizM L (d + 1) a) (sb : sizM L (d + 1) b) (sc : sizM L (d + 1) c) : Calls Tryz.prog 5 #[.agg #[.slice ta l.length tc], .int .i64 idx, .agg cs.toArray, .agg ds.toArray, .agg es.toArray] w fun e w' => e = .returned (.bool true) ∧ Below w.heap.size w w' := by
  have HAW := hid fun W (hW : Below w.heap.size w W) => awake10 W mx (cell_below hm0 hW)
  obtain ⟨a1, ac1, a2, ac2, rfl, -⟩ := msg_openD ha
  obtain ⟨b1, bc1, b2, bc2, rfl, -⟩ := msg_openD hb
  obtain ⟨c1, cc1, c2, cc2, rfl, -⟩ := msg_openD hc
  cases q : isB l idx false with
  | false => exact along_bb w ta l.length tc idx a b c a1 a2 b1 b2 c1 c2 ac1 ac2 bc1 bc2 cc1 cc2 18 18 (by decide) (by decide) HAW (hid fun W hW => mergeNo W l ta tc (h.kept hW) hk mx (cell_below hm0 hW) idx q Z (d + 1) _ _ a b (ha.kept hW) (hb.kept hW)) (hid fun W hW => mergeNo W l ta tc (h.kept hW) hk mx (cell_below hm0 hW) idx q Z (d + 1) _ _ b c (hb.kept hW) (hc.kept hW))
  | true =>
    obtain ⟨k, hkl, rfl, hg, he⟩ := isB_at q
    cases qab : keptB l (d + 1) l[k] a && keptB l (d + 1) l[k] b with
    | false =>
      have H1 := hid fun W (hW : Below w.heap.size w W) => mergeBad W l ta tc (h.kept hW) hk mx (cell_below hm0 hW) k hkl hg he Z (d + 1) _ _ a b (ha.kept hW) (hb.kept hW) qab
      cases qbc : keptB l (d + 1) l[k] b && keptB l (d + 1) l[k] c with
      | false => exact along_bb w ta l.length tc k a b c a1 a2 b1 b2 c1 c2 ac1 ac2 bc1 bc2 cc1 cc2 10 10 (by decide) (by decide) HAW H1 (hid fun W hW => mergeBad W l ta tc (h.kept hW) hk mx (cell_below hm0 hW) k hkl hg he Z (d + 1) _ _ b c (hb.kept hW) (hc.kept hW) qbc)
      | true =>
        rw [Bool.and_eq_true] at qbc
        exact along_bo w ta l.length tc k a b c a1 a2 b1 b2 c1 c2 ac1 ac2 bc1 bc2 cc1 cc2 10 10 (by decide) (by decide) HAW H1 (hid fun W hW => (mergeOk W l ta tc (h.kept hW) hk mx (cell_below hm0 hW) k hkl hg he Z (d + 1) _ _ b c (hb.kept hW) (hc.kept hW) qbc.1 qbc.2 L L sb sc (by omega)).mono fun e w' ⟨es, h1, h2, h3⟩ => by
          obtain ⟨u, uc, v, vc, rfl, -⟩ := msg_openD h2
          exact ⟨⟨u, v, _, uc, _, vc, h1⟩, h3⟩)
    | true =>
      rw [Bool.and_eq_true] at qab
      cases qc : keptB l (d + 1) l[k] c with
      | false =>
        have qbc : (keptB l (d + 1) l[k] b && keptB l (d + 1) l[k] c) = false := by rw [qc]; simp
        exact along_ob w ta l.length tc k a b c a1 a2 b1 b2 c1 c2 ac1 ac2 bc1 bc2 cc1 cc2 10 10 (by decide) (by decide) HAW (hid fun W hW => (mergeOk W l ta tc (h.kept hW) hk mx (cell_below hm0 hW) k hkl hg he Z (d + 1) _ _ a b (ha.kept hW) (hb.kept hW) qab.1 qab.2 L L sa sb (by omega)).mono fun e w' ⟨es, h1, h2, h3⟩ => by
          obtain ⟨u, uc, v, vc, rfl, -⟩ := msg_openD h2
          exact ⟨⟨u, v, _, uc, _, vc, h1⟩, h3⟩) (hid fun W hW => mergeBad W l ta tc (h.kept hW) hk mx (cell_below hm0 hW) k hkl hg he Z (d + 1) _ _ b c (hb.kept hW) (hc.kept hW) qbc)
      | true => exact along_oo w l ta l.length tc rfl h hk mx hm0 k hkl hg he (fun x hx o ho h4 => good_ones hg hx o ho h4) Z d a b c a1 a2 b1 b2 c1 c2 ac1 ac2 bc1 bc2 cc1 cc2 ha hb hc qab.1 qab.2 qc L hL0 hL sa sb sc HAW
end Go.Proofs.YtnebbmeomjiogaaGreatDoor
namespace Go.Proofs.YtnebbmeomjiogaaGreatDoor
open Go.ChangeShapes Go.WideShapes Go.ChangeAt Go.RowKit Go.Deep
set_option maxRecDepth 1000000
section
variable {H : Type}
theorem bulk_one (d : DataW H) : 1 ≤ Rows.uptoBulk d := by
  cases d with
  | lit l => cases l <;> simp [Rows.uptoBulk]
  | nil => simp [Rows.uptoBulk]
  | ptr d => simp [Rows.uptoBulk]
  | slice elems spare => simp [Rows.uptoBulk]
  | agg parts => simp [Rows.uptoBulk]
  | iface t d => simp [Rows.uptoBulk]
  | map entries => simp [Rows.uptoBulk]
  | held h => simp [Rows.uptoBulk]
theorem bulk_length (l : List (DataW H)) : l.length ≤ Rows.uptoBulkAll l := by
  induction l with
  | nil => simp [Rows.uptoBulkAll]
  | cons x r ih => have := bulk_one x; simp only [Rows.uptoBulkAll, List.length_cons]; omega
theorem small_le {l : List (DataW H)} (hk : Rows.uptoSmall H l = true) : Rows.uptoBulkAll l ≤ 1048576 := of_decide_eq_true hk
end
/-- The numbers of a string's bytes. -/
def numsS (s : ByteArray) : List Int := s.data.toList.map fun b => (b.toNat : Int)
theorem numsS_str (s : ByteArray) : strOfNums (numsS s) = s := by
  apply ByteArray.ext
  apply Array.ext'
  simp [strOfNums, numsS, Function.comp_def]
theorem numsS_bd (s : ByteArray) : ∀ x ∈ numsS s, 0 ≤ x ∧ x ≤ 255 := by
  intro x hx
  obtain ⟨b, _, rfl⟩ := List.mem_map.1 hx
  have := b.toNat_lt
  omega
theorem numsS_len (s : ByteArray) : (numsS s).length = s.data.toList.length := by simp [numsS]
end Go.Proofs.YtnebbmeomjiogaaGreatDoor
namespace Go.Proofs.YtnebbmeomjiogaaGreatDoor
open Go.ChangeShapes Go.WideShapes Go.ChangeAt Go.RowKit Go.Deep
set_option maxRecDepth 1000000
set_option linter.unusedVariables false
set_option linter.unusedSimpArgs false
set_option maxHeartbeats 1000000
section
variable {H : Type} {enc : TypeId × Value → H} {W : World} {spare : Nat → Bool} {held : Bool}
/-- A struct of fields of one cell each, opened. -/
theorem struct_open {t : TypeId} {fs : Array Field} (ht : Tryz.prog.underlying t = some (.struct fs)) (hone : oneCellFields Tryz.prog fs = true) (hsz : Tryz.prog.cellsOf t = fs.size) {fuel : Nat} {cs : List Value} {y : DataW H × List MemPlace} (h : DataW.trod enc Tryz.prog W 0 spare held fuel t cs = some y) :
    ∃ (xs : List (DataW H × List MemPlace)) (n : Nat), y.1 = .agg (xs.map (·.1)) ∧ xs.length = fs.size ∧ cs.length = fs.size ∧ ∀ (i : Nat) (f : Field), fs[i]? = some f → ∃ v yi, cs[i]? = some v ∧ xs[i]? = some yi ∧ DataW.trod enc Tryz.prog W 0 spare held n f.type [v] = some yi := by
  obtain ⟨xs, n, _, rfl, hl, hlen, hf⟩ := DataW.trod_struct ht h
  refine ⟨xs, n, rfl, hlen, hl.trans hsz, fun i f hi => ?_⟩
  have hlt : i < fs.size := (Array.getElem?_eq_some_iff.1 hi).1
  obtain ⟨o1, o2⟩ := hone_of hone i f hi
  have hc : i < cs.length := by omega
  have hx : i < xs.length := by omega
  refine ⟨cs[i], xs[i], by simp [hc], by simp [hx], ?_⟩
  have := hf i f hi
  have e : (cs.drop i).take 1 = [cs[i]] := by rw [List.drop_eq_getElem_cons hc]; rfl
  rw [o1, o2, e] at this
  rw [this]
  simp [hx]
theorem bulk_mem {l : List (DataW H)} {d : DataW H} (h : d ∈ l) : Rows.uptoBulk d ≤ Rows.uptoBulkAll l := by
  induction l with
  | nil => cases h
  | cons x r ih =>
    simp only [Rows.uptoBulkAll]
    rcases List.mem_cons.1 h with rfl | h
    · omega
    · have := ih h; omega
theorem bulk_get {xs : List (DataW H × List MemPlace)} {i : Nat} {y : DataW H × List MemPlace} (h : xs[i]? = some y) : Rows.uptoBulk y.1 + 1 ≤ Rows.uptoBulk (DataW.agg (xs.map (·.1))) := by
  have := bulk_mem (l := xs.map (·.1)) (d := y.1) (List.mem_map.2 ⟨y, List.mem_of_getElem? h, rfl⟩)
  simp only [Rows.uptoBulk]
  omega
/-- A row of structs, opened. -/
theorem rows_open {α : Type} (g : α → List Value) (K : Nat) (hK0 : 0 < K) (Q : α → DataW H → Prop) {t e : TypeId} (ht : Tryz.prog.underlying t = some (.slice e)) (hK : Tryz.prog.cellsOf e = K) (hg : ∀ x, (g x).length = K)
    (hel : ∀ (n : Nat) (cs : List Value) (y : DataW H × List MemPlace), DataW.trod enc Tryz.prog W 0 spare held n e cs = some y → ∃ x, cs = g x ∧ Q x y.1) {fuel : Nat} {v : Value} {y : DataW H × List MemPlace} (hf : DataW.trod enc Tryz.prog W 0 spare held fuel t [v] = some y) :
    ∃ (a : Option Addr) (cap : Nat) (xs : List α), v = .slice a xs.length cap ∧ RowS W AnyZ K v xs.length (xs.flatMap g) ∧ xs.length + 1 ≤ Rows.uptoBulk y.1 ∧ ∀ x ∈ xs, ∃ d, Q x d ∧ Rows.uptoBulk d ≤ Rows.uptoBulk y.1 := by
  rcases open_slice ht hf with ⟨hcs, rfl⟩ | ⟨a, len, cap, m, n, D, Pl, hcs, _, hl, hm, hmm, rfl, hx⟩
  · simp at hcs
    subst hcs
    exact ⟨none, 0, [], rfl, rowS_nil _ _ _, by simp [Rows.uptoBulk], fun x hx => by cases hx⟩
  · simp at hcs
    subst hcs
    rw [hK] at hx
    have hlm : len ≤ m := by rw [hmm]; split <;> omega
    have hc : ∀ i, i < len → ∃ x : α, W.cells? 0 (a.add (i * K)) K = some (g x) ∧ Q x (D i) := fun i hi => by
      obtain ⟨cs', h1, h2⟩ := hx i (by omega)
      obtain ⟨x, rfl, hq⟩ := hel _ _ _ h2
      exact ⟨x, h1, hq⟩
    obtain ⟨xs, hxl, hxs⟩ : ∃ xs : List α, xs.length = len ∧ ∀ i (h : i < xs.length), W.cells? 0 (a.add (i * K)) K = some (g xs[i]) ∧ Q xs[i] (D i) := by
      clear hx hl hlm hmm hf
      induction len with
      | zero => exact ⟨[], rfl, fun i h => by simp at h⟩
      | succ k ih =>
        obtain ⟨xs, h1, h2⟩ := ih (fun i hi => hc i (by omega))
        obtain ⟨x, h3, h4⟩ := hc k (by omega)
        refine ⟨xs ++ [x], by simp [h1], fun i h => ?_⟩
        by_cases e : i < xs.length
        · rw [List.getElem_append_left e]; exact h2 i e
        · have ei : i = k := by simp at h; omega
          subst ei
          rw [List.getElem_append_right (by omega)]
          simp [h1, h3, h4]
    subst hxl
    have hb : ∀ i, i < xs.length → D i ∈ (List.range xs.length).map D := fun i hi => List.mem_map.2 ⟨i, List.mem_range.2 hi, rfl⟩
    refine ⟨some a, cap, xs, rfl, ⟨some a, cap, rfl, flatM_len hg xs, hl, by unfold maxLen at hm; omega, ?_⟩, ?_, fun x hxm => ?_⟩
    · by_cases h0 : xs.length = 0
      · exact .inl ⟨h0, fun e => by cases e⟩
      · obtain ⟨b, off, spot⟩ := a
        have hspot : spot = none := by
          have h1 := (World.cells?_some (hxs 0 (by omega)).1).2.2 0 hK0
          have h2 : (g xs[0])[0]? = some ((g xs[0])[0]'(by rw [hg]; exact hK0)) := by simp
          rw [h2] at h1
          simpa [Addr.add] using World.cell?_spot h1
        subst hspot
        refine .inr ⟨b, off, rfl, trivial, fun j u hu => ?_⟩
        have hj : j < xs.length * K := by rw [← flatM_len hg xs]; exact (List.getElem?_eq_some_iff.1 hu).1
        have hi : j / K < xs.length := (Nat.div_lt_iff_lt_mul hK0).2 hj
        have hr : j % K < K := Nat.mod_lt _ hK0
        have hjj : j / K * K + j % K = j := by rw [Nat.mul_comm]; exact Nat.div_add_mod j K
        have h2 : (g xs[j / K])[j % K]? = some ((g xs[j / K])[j % K]'(by rw [hg]; exact hr)) := by simp
        have h3 := flatM_get hg xs (j / K) (j % K) xs[j / K] _ (by simp [hi]) h2
        rw [hjj] at h3
        rw [h3] at hu
        have h1 := (World.cells?_some (hxs (j / K) hi).1).2.2 (j % K) hr
        have hadd : ((⟨b, off, none⟩ : Addr).add (j / K * K)).add (j % K) = ⟨b, off + j, none⟩ := by
          have e1 : ∀ (o i : Nat), (⟨b, o, none⟩ : Addr).add i = ⟨b, o + i, none⟩ := fun o i => by unfold Addr.add; split <;> simp_all
          rw [e1, e1, Nat.add_assoc, hjj]
        rw [hadd, h2] at h1
        rw [h1]
        exact hu
    · simp only [Rows.uptoBulk]
      have := bulk_length ((List.range xs.length).map D)
      simp at this
      omega
    · obtain ⟨i, hi, rfl⟩ := List.mem_iff_getElem.1 hxm
      refine ⟨D i, (hxs i hi).2, ?_⟩
      have := bulk_mem (hb i hi)
      simp only [Rows.uptoBulk]
      omega
/-- What a text that was read is. -/
def okX (b : Nat) (x : List Int) : Prop := TxA x ∧ x.length + 1 ≤ b
theorem str_open {n : Nat} {v : Value} {y : DataW H × List MemPlace} (h : DataW.trod enc Tryz.prog W 0 spare held n 9 [v] = some y) : ∃ x : List Int, v = .string (strOfNums x) ∧ okX (Rows.uptoBulk y.1) x := by
  obtain ⟨s, e, rfl, hs⟩ := DataW.trod_string Tryz.underlying9 h
  simp at e
  subst e
  refine ⟨numsS s, by rw [numsS_str], ⟨numsS_bd s, ?_⟩, ?_⟩
  · rw [numsS_len]
    unfold maxLen at hs
    simpa using hs
  · rw [numsS_len]
    simp [Rows.uptoBulk]
theorem int_open {n : Nat} {v : Value} {y : DataW H × List MemPlace} (h : DataW.trod enc Tryz.prog W 0 spare held n 3 [v] = some y) : ∃ x : Int, v = .int .i64 x ∧ I64 x := by
  obtain ⟨x, e, rfl, hs⟩ := DataW.trod_int Tryz.underlying3 h
  simp at e
  subst e
  refine ⟨x, rfl, ?_⟩
  unfold I64
  simp [Lit.wf, IntKind.min, IntKind.max, IntKind.signed, IntKind.bits] at hs
  omega
end
end Go.Proofs.YtnebbmeomjiogaaGreatDoor
