/-
  The document's: are an operation's numbers what they may be? (a part)
  The document's: are an operation's numbers what they may be? (Row, and those without numbers)
  The document's: are an operation's numbers what they may be? (all of them)
  Operations of a region taken one after the other, in few words.
  The program's: is a step one that reads, or writes, at its place? (the moves)
-/
import Derived.Test.YtdhkbdngmejklaaGreatDoorCVP2
import Derived.Test.YtdhkbdngmejklaaGreatDoorVD3b
import Derived.Test.YtdhkbdngmejklaaGreatDoorVD3c
import Derived.Test.YtdhkbdngmejklaaGreatDoorVD3d
import Derived.Test.YtdhkbdngmejklaaGreatDoorCTA
import Derived.Deep.RegionHeld3
import Derived.Maps.RangeWalk
namespace Go.Proofs.YtdhkbdngmejklaaGreatDoor
open Go.RowKit
set_option maxRecDepth 1000000
set_option linter.unusedVariables false
set_option linter.unusedSimpArgs false
set_option maxHeartbeats 4000000
theorem nuR_22 (w : World) (bs : List BV) (ba : Option Addr) (bc : Nat) (h : PgR w (.slice ba bs.length bc) bs) (a b c d : Int) (hia : a ≤ 9223372036854775807) : Calls Tryz.prog 31 #[.agg #[.slice ba bs.length bc], .agg #[.int .i64 22, .int .i64 a, .int .i64 b, .int .i64 c, .int .i64 d]] w (BoA w (nuI bs ⟨22, a, b, c, d⟩)) := by
  have HA : Hid (∀ W, Calls Tryz.prog 49 #[.int .i64 22] W fun e w' => e = .returned (.int .i64 4) ∧ w' = W) := hid fun W => arityR 22 W
  have HX : Hid (nuI bs ⟨22, a, b, c, d⟩ = (tgI a && (kkey b && (kdI c && (bkI bs c d))))) := hid (by first | rfl | (unfold nuI; simp))
  generalize nuI bs ⟨22, a, b, c, d⟩ = v at *
  have H0 := hid (fun W => isTagR W a hia)
  cases s0 : tgI a with
  | false =>
    rw [s0] at H0
    obtain rfl : v = false := by rw [HX.out]; simp [s0]
    clear HX s0
    clear h
    go_enter Tryz.func31, Tryz.ntmps31
    go_wp2_with fail
    have Bp : Blk ((w.alloc (.cells #[.slice ba bs.length bc] 24)).alloc (.cells #[.int .i64 22, .int .i64 a, .int .i64 b, .int .i64 c, .int .i64 d] 63)) w.heap.size 24 #[.slice ba bs.length bc] := (Blk.new _ _ _).kept (below_alloc _)
    have Bx : Blk ((w.alloc (.cells #[.slice ba bs.length bc] 24)).alloc (.cells #[.int .i64 22, .int .i64 a, .int .i64 b, .int .i64 c, .int .i64 d] 63)) (w.heap.size + 1) 63 #[.int .i64 22, .int .i64 a, .int .i64 b, .int .i64 c, .int .i64 d] := Blk.newAt (by simp)
    have HB : Hid (Below w.heap.size w ((w.alloc (.cells #[.slice ba bs.length bc] 24)).alloc (.cells #[.int .i64 22, .int .i64 a, .int .i64 b, .int .i64 c, .int .i64 d] 63))) := hid (by exact blBy)
    generalize ((w.alloc (.cells #[.slice ba bs.length bc] 24)).alloc (.cells #[.int .i64 22, .int .i64 a, .int .i64 b, .int .i64 c, .int .i64 d] 63)) = V at *
    have xx := Bx.cellF
    have zx := Bx.lt
    have xp := Bp.cellF
    have zp := Bp.lt
    go_wp2_with (first | (go_at_call 49; refine (HA.out _).mono ?_; rintro e w1 ⟨rfl, rfl⟩) | (go_at_call 32; refine (H0.out _).mono ?_; rintro e w1 ⟨rfl, hbx⟩; replace HB := hid (below_trans HB.out hbx); replace Bx := Bx.kept hbx; replace Bp := Bp.kept hbx; clear xx zx xp zp hbx; have xx := Bx.cellF; have zx := Bx.lt; have xp := Bp.cellF; have zp := Bp.lt))
    go_ret
    exact ⟨rfl, HB.out⟩
  | true =>
  rw [s0] at H0
  replace HX := hid (by have := HX.out; rw [s0] at this; exact this)
  clear s0
  have H1 := hid (fun W => isKeyR b W)
  cases s1 : kkey b with
  | false =>
    rw [s1] at H1
    obtain rfl : v = false := by rw [HX.out]; simp [s1]
    clear HX s1
    clear h
    go_enter Tryz.func31, Tryz.ntmps31
    go_wp2_with fail
    have Bp : Blk ((w.alloc (.cells #[.slice ba bs.length bc] 24)).alloc (.cells #[.int .i64 22, .int .i64 a, .int .i64 b, .int .i64 c, .int .i64 d] 63)) w.heap.size 24 #[.slice ba bs.length bc] := (Blk.new _ _ _).kept (below_alloc _)
    have Bx : Blk ((w.alloc (.cells #[.slice ba bs.length bc] 24)).alloc (.cells #[.int .i64 22, .int .i64 a, .int .i64 b, .int .i64 c, .int .i64 d] 63)) (w.heap.size + 1) 63 #[.int .i64 22, .int .i64 a, .int .i64 b, .int .i64 c, .int .i64 d] := Blk.newAt (by simp)
    have HB : Hid (Below w.heap.size w ((w.alloc (.cells #[.slice ba bs.length bc] 24)).alloc (.cells #[.int .i64 22, .int .i64 a, .int .i64 b, .int .i64 c, .int .i64 d] 63))) := hid (by exact blBy)
    generalize ((w.alloc (.cells #[.slice ba bs.length bc] 24)).alloc (.cells #[.int .i64 22, .int .i64 a, .int .i64 b, .int .i64 c, .int .i64 d] 63)) = V at *
    have xx := Bx.cellF
    have zx := Bx.lt
    have xp := Bp.cellF
    have zp := Bp.lt
    go_wp2_with (first | (go_at_call 49; refine (HA.out _).mono ?_; rintro e w1 ⟨rfl, rfl⟩) | (go_at_call 32; refine (H0.out _).mono ?_; rintro e w1 ⟨rfl, hbx⟩; replace HB := hid (below_trans HB.out hbx); replace Bx := Bx.kept hbx; replace Bp := Bp.kept hbx; clear xx zx xp zp hbx; have xx := Bx.cellF; have zx := Bx.lt; have xp := Bp.cellF; have zp := Bp.lt) | (go_at_call 54; refine (H1.out _).mono ?_; rintro e w1 ⟨rfl, rfl⟩))
    go_ret
    exact ⟨rfl, HB.out⟩
  | true =>
  rw [s1] at H1
  replace HX := hid (by have := HX.out; rw [s1] at this; exact this)
  clear s1
  have H2 := hid (fun W => isKindR W c)
  cases s2 : kdI c with
  | false =>
    rw [s2] at H2
    obtain rfl : v = false := by rw [HX.out]; simp [s2]
    clear HX s2
    clear h
    go_enter Tryz.func31, Tryz.ntmps31
    go_wp2_with fail
    have Bp : Blk ((w.alloc (.cells #[.slice ba bs.length bc] 24)).alloc (.cells #[.int .i64 22, .int .i64 a, .int .i64 b, .int .i64 c, .int .i64 d] 63)) w.heap.size 24 #[.slice ba bs.length bc] := (Blk.new _ _ _).kept (below_alloc _)
    have Bx : Blk ((w.alloc (.cells #[.slice ba bs.length bc] 24)).alloc (.cells #[.int .i64 22, .int .i64 a, .int .i64 b, .int .i64 c, .int .i64 d] 63)) (w.heap.size + 1) 63 #[.int .i64 22, .int .i64 a, .int .i64 b, .int .i64 c, .int .i64 d] := Blk.newAt (by simp)
    have HB : Hid (Below w.heap.size w ((w.alloc (.cells #[.slice ba bs.length bc] 24)).alloc (.cells #[.int .i64 22, .int .i64 a, .int .i64 b, .int .i64 c, .int .i64 d] 63))) := hid (by exact blBy)
    generalize ((w.alloc (.cells #[.slice ba bs.length bc] 24)).alloc (.cells #[.int .i64 22, .int .i64 a, .int .i64 b, .int .i64 c, .int .i64 d] 63)) = V at *
    have xx := Bx.cellF
    have zx := Bx.lt
    have xp := Bp.cellF
    have zp := Bp.lt
    go_wp2_with (first | (go_at_call 49; refine (HA.out _).mono ?_; rintro e w1 ⟨rfl, rfl⟩) | (go_at_call 32; refine (H0.out _).mono ?_; rintro e w1 ⟨rfl, hbx⟩; replace HB := hid (below_trans HB.out hbx); replace Bx := Bx.kept hbx; replace Bp := Bp.kept hbx; clear xx zx xp zp hbx; have xx := Bx.cellF; have zx := Bx.lt; have xp := Bp.cellF; have zp := Bp.lt) | (go_at_call 54; refine (H1.out _).mono ?_; rintro e w1 ⟨rfl, rfl⟩) | (go_at_call 55; refine (H2.out _).mono ?_; rintro e w1 ⟨rfl, rfl⟩))
    go_ret
    exact ⟨rfl, HB.out⟩
  | true =>
  rw [s2] at H2
  replace HX := hid (by have := HX.out; rw [s2] at this; exact this)
  clear s2
  have H3 := hid (fun W (hW : Below w.heap.size w W) => blockR W bs ba bc (h.kept hW) c d)
  cases s3 : bkI bs c d with
  | false =>
    rw [s3] at H3
    obtain rfl : v = false := by rw [HX.out]; simp [s3]
    clear HX s3
    clear h
    go_enter Tryz.func31, Tryz.ntmps31
    go_wp2_with fail
    have Bp : Blk ((w.alloc (.cells #[.slice ba bs.length bc] 24)).alloc (.cells #[.int .i64 22, .int .i64 a, .int .i64 b, .int .i64 c, .int .i64 d] 63)) w.heap.size 24 #[.slice ba bs.length bc] := (Blk.new _ _ _).kept (below_alloc _)
    have Bx : Blk ((w.alloc (.cells #[.slice ba bs.length bc] 24)).alloc (.cells #[.int .i64 22, .int .i64 a, .int .i64 b, .int .i64 c, .int .i64 d] 63)) (w.heap.size + 1) 63 #[.int .i64 22, .int .i64 a, .int .i64 b, .int .i64 c, .int .i64 d] := Blk.newAt (by simp)
    have HB : Hid (Below w.heap.size w ((w.alloc (.cells #[.slice ba bs.length bc] 24)).alloc (.cells #[.int .i64 22, .int .i64 a, .int .i64 b, .int .i64 c, .int .i64 d] 63))) := hid (by exact blBy)
    generalize ((w.alloc (.cells #[.slice ba bs.length bc] 24)).alloc (.cells #[.int .i64 22, .int .i64 a, .int .i64 b, .int .i64 c, .int .i64 d] 63)) = V at *
    have xx := Bx.cellF
    have zx := Bx.lt
    have xp := Bp.cellF
    have zp := Bp.lt
    go_wp2_with (first | (go_at_call 49; refine (HA.out _).mono ?_; rintro e w1 ⟨rfl, rfl⟩) | (go_at_call 32; refine (H0.out _).mono ?_; rintro e w1 ⟨rfl, hbx⟩; replace HB := hid (below_trans HB.out hbx); replace Bx := Bx.kept hbx; replace Bp := Bp.kept hbx; clear xx zx xp zp hbx; have xx := Bx.cellF; have zx := Bx.lt; have xp := Bp.cellF; have zp := Bp.lt) | (go_at_call 54; refine (H1.out _).mono ?_; rintro e w1 ⟨rfl, rfl⟩) | (go_at_call 55; refine (H2.out _).mono ?_; rintro e w1 ⟨rfl, rfl⟩) | (go_at_call 56; refine (H3.out _ HB.out).mono ?_; rintro e w1 ⟨rfl, hbx⟩; replace HB := hid (below_trans HB.out hbx); replace Bx := Bx.kept hbx; replace Bp := Bp.kept hbx; clear xx zx xp zp hbx; have xx := Bx.cellF; have zx := Bx.lt; have xp := Bp.cellF; have zp := Bp.lt))
    go_ret
    exact ⟨rfl, HB.out⟩
  | true =>
  rw [s3] at H3
  replace HX := hid (by have := HX.out; rw [s3] at this; exact this)
  clear s3
  obtain rfl : v = true := by have := HX.out; simpa using this
  clear HX
  clear h
  go_enter Tryz.func31, Tryz.ntmps31
  go_wp2_with fail
  have Bp : Blk ((w.alloc (.cells #[.slice ba bs.length bc] 24)).alloc (.cells #[.int .i64 22, .int .i64 a, .int .i64 b, .int .i64 c, .int .i64 d] 63)) w.heap.size 24 #[.slice ba bs.length bc] := (Blk.new _ _ _).kept (below_alloc _)
  have Bx : Blk ((w.alloc (.cells #[.slice ba bs.length bc] 24)).alloc (.cells #[.int .i64 22, .int .i64 a, .int .i64 b, .int .i64 c, .int .i64 d] 63)) (w.heap.size + 1) 63 #[.int .i64 22, .int .i64 a, .int .i64 b, .int .i64 c, .int .i64 d] := Blk.newAt (by simp)
  have HB : Hid (Below w.heap.size w ((w.alloc (.cells #[.slice ba bs.length bc] 24)).alloc (.cells #[.int .i64 22, .int .i64 a, .int .i64 b, .int .i64 c, .int .i64 d] 63))) := hid (by exact blBy)
  generalize ((w.alloc (.cells #[.slice ba bs.length bc] 24)).alloc (.cells #[.int .i64 22, .int .i64 a, .int .i64 b, .int .i64 c, .int .i64 d] 63)) = V at *
  have xx := Bx.cellF
  have zx := Bx.lt
  have xp := Bp.cellF
  have zp := Bp.lt
  go_wp2_with (first | (go_at_call 49; refine (HA.out _).mono ?_; rintro e w1 ⟨rfl, rfl⟩) | (go_at_call 32; refine (H0.out _).mono ?_; rintro e w1 ⟨rfl, hbx⟩; replace HB := hid (below_trans HB.out hbx); replace Bx := Bx.kept hbx; replace Bp := Bp.kept hbx; clear xx zx xp zp hbx; have xx := Bx.cellF; have zx := Bx.lt; have xp := Bp.cellF; have zp := Bp.lt) | (go_at_call 54; refine (H1.out _).mono ?_; rintro e w1 ⟨rfl, rfl⟩) | (go_at_call 55; refine (H2.out _).mono ?_; rintro e w1 ⟨rfl, rfl⟩) | (go_at_call 56; refine (H3.out _ HB.out).mono ?_; rintro e w1 ⟨rfl, hbx⟩; replace HB := hid (below_trans HB.out hbx); replace Bx := Bx.kept hbx; replace Bp := Bp.kept hbx; clear xx zx xp zp hbx; have xx := Bx.cellF; have zx := Bx.lt; have xp := Bp.cellF; have zp := Bp.lt))
  go_ret
  exact ⟨rfl, HB.out⟩
theorem nuR_25 (w : World) (bs : List BV) (ba : Option Addr) (bc : Nat) (h : PgR w (.slice ba bs.length bc) bs) (a b c d : Int) (hia : a ≤ 9223372036854775807) : Calls Tryz.prog 31 #[.agg #[.slice ba bs.length bc], .agg #[.int .i64 25, .int .i64 a, .int .i64 b, .int .i64 c, .int .i64 d]] w (BoA w (nuI bs ⟨25, a, b, c, d⟩)) := by
  have HA : Hid (∀ W, Calls Tryz.prog 49 #[.int .i64 25] W fun e w' => e = .returned (.int .i64 2) ∧ w' = W) := hid fun W => arityR 25 W
  have HX : Hid (nuI bs ⟨25, a, b, c, d⟩ = (decide (d = 0) && (decide (c = 0) && (tgI a && (sgI b))))) := hid (by first | rfl | (unfold nuI; simp))
  generalize nuI bs ⟨25, a, b, c, d⟩ = v at *
  by_cases zd : d = 0
  case neg =>
    have qd : (d != 0) = true := by simpa using zd
    obtain rfl : v = false := by rw [HX.out]; simp [zd]
    clear HX zd
    clear h
    go_enter Tryz.func31, Tryz.ntmps31
    go_wp2_with fail
    have Bp : Blk ((w.alloc (.cells #[.slice ba bs.length bc] 24)).alloc (.cells #[.int .i64 25, .int .i64 a, .int .i64 b, .int .i64 c, .int .i64 d] 63)) w.heap.size 24 #[.slice ba bs.length bc] := (Blk.new _ _ _).kept (below_alloc _)
    have Bx : Blk ((w.alloc (.cells #[.slice ba bs.length bc] 24)).alloc (.cells #[.int .i64 25, .int .i64 a, .int .i64 b, .int .i64 c, .int .i64 d] 63)) (w.heap.size + 1) 63 #[.int .i64 25, .int .i64 a, .int .i64 b, .int .i64 c, .int .i64 d] := Blk.newAt (by simp)
    have HB : Hid (Below w.heap.size w ((w.alloc (.cells #[.slice ba bs.length bc] 24)).alloc (.cells #[.int .i64 25, .int .i64 a, .int .i64 b, .int .i64 c, .int .i64 d] 63))) := hid (by exact blBy)
    generalize ((w.alloc (.cells #[.slice ba bs.length bc] 24)).alloc (.cells #[.int .i64 25, .int .i64 a, .int .i64 b, .int .i64 c, .int .i64 d] 63)) = V at *
    have xx := Bx.cellF
    have zx := Bx.lt
    have xp := Bp.cellF
    have zp := Bp.lt
    go_wp2_with (first | (go_at_call 49; refine (HA.out _).mono ?_; rintro e w1 ⟨rfl, rfl⟩))
    go_ret
    exact ⟨rfl, HB.out⟩
  subst zd
  by_cases zc : c = 0
  case neg =>
    have qc : (c != 0) = true := by simpa using zc
    obtain rfl : v = false := by rw [HX.out]; simp [zc]
    clear HX zc
    clear h
    go_enter Tryz.func31, Tryz.ntmps31
    go_wp2_with fail
    have Bp : Blk ((w.alloc (.cells #[.slice ba bs.length bc] 24)).alloc (.cells #[.int .i64 25, .int .i64 a, .int .i64 b, .int .i64 c, .int .i64 0] 63)) w.heap.size 24 #[.slice ba bs.length bc] := (Blk.new _ _ _).kept (below_alloc _)
    have Bx : Blk ((w.alloc (.cells #[.slice ba bs.length bc] 24)).alloc (.cells #[.int .i64 25, .int .i64 a, .int .i64 b, .int .i64 c, .int .i64 0] 63)) (w.heap.size + 1) 63 #[.int .i64 25, .int .i64 a, .int .i64 b, .int .i64 c, .int .i64 0] := Blk.newAt (by simp)
    have HB : Hid (Below w.heap.size w ((w.alloc (.cells #[.slice ba bs.length bc] 24)).alloc (.cells #[.int .i64 25, .int .i64 a, .int .i64 b, .int .i64 c, .int .i64 0] 63))) := hid (by exact blBy)
    generalize ((w.alloc (.cells #[.slice ba bs.length bc] 24)).alloc (.cells #[.int .i64 25, .int .i64 a, .int .i64 b, .int .i64 c, .int .i64 0] 63)) = V at *
    have xx := Bx.cellF
    have zx := Bx.lt
    have xp := Bp.cellF
    have zp := Bp.lt
    go_wp2_with (first | (go_at_call 49; refine (HA.out _).mono ?_; rintro e w1 ⟨rfl, rfl⟩))
    go_ret
    exact ⟨rfl, HB.out⟩
  subst zc
  have H2 := hid (fun W => isTagR W a hia)
  cases s2 : tgI a with
  | false =>
    rw [s2] at H2
    obtain rfl : v = false := by rw [HX.out]; simp [s2]
    clear HX s2
    clear h
    go_enter Tryz.func31, Tryz.ntmps31
    go_wp2_with fail
    have Bp : Blk ((w.alloc (.cells #[.slice ba bs.length bc] 24)).alloc (.cells #[.int .i64 25, .int .i64 a, .int .i64 b, .int .i64 0, .int .i64 0] 63)) w.heap.size 24 #[.slice ba bs.length bc] := (Blk.new _ _ _).kept (below_alloc _)
    have Bx : Blk ((w.alloc (.cells #[.slice ba bs.length bc] 24)).alloc (.cells #[.int .i64 25, .int .i64 a, .int .i64 b, .int .i64 0, .int .i64 0] 63)) (w.heap.size + 1) 63 #[.int .i64 25, .int .i64 a, .int .i64 b, .int .i64 0, .int .i64 0] := Blk.newAt (by simp)
    have HB : Hid (Below w.heap.size w ((w.alloc (.cells #[.slice ba bs.length bc] 24)).alloc (.cells #[.int .i64 25, .int .i64 a, .int .i64 b, .int .i64 0, .int .i64 0] 63))) := hid (by exact blBy)
    generalize ((w.alloc (.cells #[.slice ba bs.length bc] 24)).alloc (.cells #[.int .i64 25, .int .i64 a, .int .i64 b, .int .i64 0, .int .i64 0] 63)) = V at *
    have xx := Bx.cellF
    have zx := Bx.lt
    have xp := Bp.cellF
    have zp := Bp.lt
    go_wp2_with (first | (go_at_call 49; refine (HA.out _).mono ?_; rintro e w1 ⟨rfl, rfl⟩) | (go_at_call 32; refine (H2.out _).mono ?_; rintro e w1 ⟨rfl, hbx⟩; replace HB := hid (below_trans HB.out hbx); replace Bx := Bx.kept hbx; replace Bp := Bp.kept hbx; clear xx zx xp zp hbx; have xx := Bx.cellF; have zx := Bx.lt; have xp := Bp.cellF; have zp := Bp.lt))
    go_ret
    exact ⟨rfl, HB.out⟩
  | true =>
  rw [s2] at H2
  replace HX := hid (by have := HX.out; rw [s2] at this; exact this)
  clear s2
  have H3 := hid (fun W => isScalarR W b)
  cases s3 : sgI b with
  | false =>
    rw [s3] at H3
    obtain rfl : v = false := by rw [HX.out]; simp [s3]
    clear HX s3
    clear h
    go_enter Tryz.func31, Tryz.ntmps31
    go_wp2_with fail
    have Bp : Blk ((w.alloc (.cells #[.slice ba bs.length bc] 24)).alloc (.cells #[.int .i64 25, .int .i64 a, .int .i64 b, .int .i64 0, .int .i64 0] 63)) w.heap.size 24 #[.slice ba bs.length bc] := (Blk.new _ _ _).kept (below_alloc _)
    have Bx : Blk ((w.alloc (.cells #[.slice ba bs.length bc] 24)).alloc (.cells #[.int .i64 25, .int .i64 a, .int .i64 b, .int .i64 0, .int .i64 0] 63)) (w.heap.size + 1) 63 #[.int .i64 25, .int .i64 a, .int .i64 b, .int .i64 0, .int .i64 0] := Blk.newAt (by simp)
    have HB : Hid (Below w.heap.size w ((w.alloc (.cells #[.slice ba bs.length bc] 24)).alloc (.cells #[.int .i64 25, .int .i64 a, .int .i64 b, .int .i64 0, .int .i64 0] 63))) := hid (by exact blBy)
    generalize ((w.alloc (.cells #[.slice ba bs.length bc] 24)).alloc (.cells #[.int .i64 25, .int .i64 a, .int .i64 b, .int .i64 0, .int .i64 0] 63)) = V at *
    have xx := Bx.cellF
    have zx := Bx.lt
    have xp := Bp.cellF
    have zp := Bp.lt
    go_wp2_with (first | (go_at_call 49; refine (HA.out _).mono ?_; rintro e w1 ⟨rfl, rfl⟩) | (go_at_call 32; refine (H2.out _).mono ?_; rintro e w1 ⟨rfl, hbx⟩; replace HB := hid (below_trans HB.out hbx); replace Bx := Bx.kept hbx; replace Bp := Bp.kept hbx; clear xx zx xp zp hbx; have xx := Bx.cellF; have zx := Bx.lt; have xp := Bp.cellF; have zp := Bp.lt) | (go_at_call 50; refine (H3.out _).mono ?_; rintro e w1 ⟨rfl, rfl⟩))
    go_ret
    exact ⟨rfl, HB.out⟩
  | true =>
  rw [s3] at H3
  replace HX := hid (by have := HX.out; rw [s3] at this; exact this)
  clear s3
  obtain rfl : v = true := by have := HX.out; simpa using this
  clear HX
  clear h
  go_enter Tryz.func31, Tryz.ntmps31
  go_wp2_with fail
  have Bp : Blk ((w.alloc (.cells #[.slice ba bs.length bc] 24)).alloc (.cells #[.int .i64 25, .int .i64 a, .int .i64 b, .int .i64 0, .int .i64 0] 63)) w.heap.size 24 #[.slice ba bs.length bc] := (Blk.new _ _ _).kept (below_alloc _)
  have Bx : Blk ((w.alloc (.cells #[.slice ba bs.length bc] 24)).alloc (.cells #[.int .i64 25, .int .i64 a, .int .i64 b, .int .i64 0, .int .i64 0] 63)) (w.heap.size + 1) 63 #[.int .i64 25, .int .i64 a, .int .i64 b, .int .i64 0, .int .i64 0] := Blk.newAt (by simp)
  have HB : Hid (Below w.heap.size w ((w.alloc (.cells #[.slice ba bs.length bc] 24)).alloc (.cells #[.int .i64 25, .int .i64 a, .int .i64 b, .int .i64 0, .int .i64 0] 63))) := hid (by exact blBy)
  generalize ((w.alloc (.cells #[.slice ba bs.length bc] 24)).alloc (.cells #[.int .i64 25, .int .i64 a, .int .i64 b, .int .i64 0, .int .i64 0] 63)) = V at *
  have xx := Bx.cellF
  have zx := Bx.lt
  have xp := Bp.cellF
  have zp := Bp.lt
  go_wp2_with (first | (go_at_call 49; refine (HA.out _).mono ?_; rintro e w1 ⟨rfl, rfl⟩) | (go_at_call 32; refine (H2.out _).mono ?_; rintro e w1 ⟨rfl, hbx⟩; replace HB := hid (below_trans HB.out hbx); replace Bx := Bx.kept hbx; replace Bp := Bp.kept hbx; clear xx zx xp zp hbx; have xx := Bx.cellF; have zx := Bx.lt; have xp := Bp.cellF; have zp := Bp.lt) | (go_at_call 50; refine (H3.out _).mono ?_; rintro e w1 ⟨rfl, rfl⟩))
  go_ret
  exact ⟨rfl, HB.out⟩
theorem hh11y (bs : List BV) (a b c d : Int) (hb16 : b = 16) : nuI bs ⟨11, a, b, c, d⟩ = (decide (d = 0) && (fdI a && (enI bs (c - 1)))) := by
  show ((decide (d = 0)) && (if b = 16 then fdI a && enI bs (c - 1) else fdI a && (knum b && decide (c = 0)))) = _
  rw [if_pos hb16]
theorem nuR_11y (w : World) (bs : List BV) (ba : Option Addr) (bc : Nat) (h : PgR w (.slice ba bs.length bc) bs) (a b c d : Int) (hia : a ≤ 9223372036854775807) (hb16 : b = 16) (hic : -9223372036854775808 < c ∧ c ≤ 9223372036854775807) : Calls Tryz.prog 31 #[.agg #[.slice ba bs.length bc], .agg #[.int .i64 11, .int .i64 a, .int .i64 b, .int .i64 c, .int .i64 d]] w (BoA w (nuI bs ⟨11, a, b, c, d⟩)) := by
  have HA : Hid (∀ W, Calls Tryz.prog 49 #[.int .i64 11] W fun e w' => e = .returned (.int .i64 3) ∧ w' = W) := hid fun W => arityR 11 W
  have hk16 : (b == 16) = true := by simp [hb16]
  have HH := hh11y bs a b c d hb16
  have HX : Hid (nuI bs ⟨11, a, b, c, d⟩ = (decide (d = 0) && (fdI a && (enI bs (c - 1))))) := hid (HH)
  have w1c : wrap64 (c - 1) = c - 1 := by unfold wrap64; omega
  clear hb16 hic HH
  generalize nuI bs ⟨11, a, b, c, d⟩ = v at *
  by_cases zd : d = 0
  case neg =>
    have qd : (d != 0) = true := by simpa using zd
    obtain rfl : v = false := by rw [HX.out]; simp [zd]
    clear HX zd
    clear h
    go_enter Tryz.func31, Tryz.ntmps31
    go_wp2_with fail
    have Bp : Blk ((w.alloc (.cells #[.slice ba bs.length bc] 24)).alloc (.cells #[.int .i64 11, .int .i64 a, .int .i64 b, .int .i64 c, .int .i64 d] 63)) w.heap.size 24 #[.slice ba bs.length bc] := (Blk.new _ _ _).kept (below_alloc _)
    have Bx : Blk ((w.alloc (.cells #[.slice ba bs.length bc] 24)).alloc (.cells #[.int .i64 11, .int .i64 a, .int .i64 b, .int .i64 c, .int .i64 d] 63)) (w.heap.size + 1) 63 #[.int .i64 11, .int .i64 a, .int .i64 b, .int .i64 c, .int .i64 d] := Blk.newAt (by simp)
    have HB : Hid (Below w.heap.size w ((w.alloc (.cells #[.slice ba bs.length bc] 24)).alloc (.cells #[.int .i64 11, .int .i64 a, .int .i64 b, .int .i64 c, .int .i64 d] 63))) := hid (by exact blBy)
    generalize ((w.alloc (.cells #[.slice ba bs.length bc] 24)).alloc (.cells #[.int .i64 11, .int .i64 a, .int .i64 b, .int .i64 c, .int .i64 d] 63)) = V at *
    have xx := Bx.cellF
    have zx := Bx.lt
    have xp := Bp.cellF
    have zp := Bp.lt
    go_wp2_with (first | (go_at_call 49; refine (HA.out _).mono ?_; rintro e w1 ⟨rfl, rfl⟩))
    go_ret
    exact ⟨rfl, HB.out⟩
  subst zd
  have H1 := hid (fun W => isFieldR W a)
  cases s1 : fdI a with
  | false =>
    rw [s1] at H1
    obtain rfl : v = false := by rw [HX.out]; simp [s1]
    clear HX s1
    clear h
    go_enter Tryz.func31, Tryz.ntmps31
    go_wp2_with fail
    have Bp : Blk ((w.alloc (.cells #[.slice ba bs.length bc] 24)).alloc (.cells #[.int .i64 11, .int .i64 a, .int .i64 b, .int .i64 c, .int .i64 0] 63)) w.heap.size 24 #[.slice ba bs.length bc] := (Blk.new _ _ _).kept (below_alloc _)
    have Bx : Blk ((w.alloc (.cells #[.slice ba bs.length bc] 24)).alloc (.cells #[.int .i64 11, .int .i64 a, .int .i64 b, .int .i64 c, .int .i64 0] 63)) (w.heap.size + 1) 63 #[.int .i64 11, .int .i64 a, .int .i64 b, .int .i64 c, .int .i64 0] := Blk.newAt (by simp)
    have HB : Hid (Below w.heap.size w ((w.alloc (.cells #[.slice ba bs.length bc] 24)).alloc (.cells #[.int .i64 11, .int .i64 a, .int .i64 b, .int .i64 c, .int .i64 0] 63))) := hid (by exact blBy)
    generalize ((w.alloc (.cells #[.slice ba bs.length bc] 24)).alloc (.cells #[.int .i64 11, .int .i64 a, .int .i64 b, .int .i64 c, .int .i64 0] 63)) = V at *
    have xx := Bx.cellF
    have zx := Bx.lt
    have xp := Bp.cellF
    have zp := Bp.lt
    go_wp2_with (first | (go_at_call 49; refine (HA.out _).mono ?_; rintro e w1 ⟨rfl, rfl⟩) | (go_at_call 52; refine (H1.out _).mono ?_; rintro e w1 ⟨rfl, rfl⟩))
    go_ret
    exact ⟨rfl, HB.out⟩
  | true =>
  rw [s1] at H1
  replace HX := hid (by have := HX.out; rw [s1] at this; exact this)
  clear s1
  have H2 := hid (fun W (hW : Below w.heap.size w W) => isEnumR W bs ba bc (h.kept hW) (c - 1))
  cases s2 : enI bs (c - 1) with
  | false =>
    rw [s2] at H2
    obtain rfl : v = false := by rw [HX.out]; simp [s2]
    clear HX s2
    clear h
    go_enter Tryz.func31, Tryz.ntmps31
    go_wp2_with fail
    have Bp : Blk ((w.alloc (.cells #[.slice ba bs.length bc] 24)).alloc (.cells #[.int .i64 11, .int .i64 a, .int .i64 b, .int .i64 c, .int .i64 0] 63)) w.heap.size 24 #[.slice ba bs.length bc] := (Blk.new _ _ _).kept (below_alloc _)
    have Bx : Blk ((w.alloc (.cells #[.slice ba bs.length bc] 24)).alloc (.cells #[.int .i64 11, .int .i64 a, .int .i64 b, .int .i64 c, .int .i64 0] 63)) (w.heap.size + 1) 63 #[.int .i64 11, .int .i64 a, .int .i64 b, .int .i64 c, .int .i64 0] := Blk.newAt (by simp)
    have HB : Hid (Below w.heap.size w ((w.alloc (.cells #[.slice ba bs.length bc] 24)).alloc (.cells #[.int .i64 11, .int .i64 a, .int .i64 b, .int .i64 c, .int .i64 0] 63))) := hid (by exact blBy)
    generalize ((w.alloc (.cells #[.slice ba bs.length bc] 24)).alloc (.cells #[.int .i64 11, .int .i64 a, .int .i64 b, .int .i64 c, .int .i64 0] 63)) = V at *
    have xx := Bx.cellF
    have zx := Bx.lt
    have xp := Bp.cellF
    have zp := Bp.lt
    go_wp2_with (first | (go_at_call 49; refine (HA.out _).mono ?_; rintro e w1 ⟨rfl, rfl⟩) | (go_at_call 52; refine (H1.out _).mono ?_; rintro e w1 ⟨rfl, rfl⟩) | (go_at_call 51; refine (H2.out _ HB.out).mono ?_; rintro e w1 ⟨rfl, hbx⟩; replace HB := hid (below_trans HB.out hbx); replace Bx := Bx.kept hbx; replace Bp := Bp.kept hbx; clear xx zx xp zp hbx; have xx := Bx.cellF; have zx := Bx.lt; have xp := Bp.cellF; have zp := Bp.lt))
    go_ret
    exact ⟨rfl, HB.out⟩
  | true =>
  rw [s2] at H2
  replace HX := hid (by have := HX.out; rw [s2] at this; exact this)
  clear s2
  obtain rfl : v = true := by have := HX.out; simpa using this
  clear HX
  clear h
  go_enter Tryz.func31, Tryz.ntmps31
  go_wp2_with fail
  have Bp : Blk ((w.alloc (.cells #[.slice ba bs.length bc] 24)).alloc (.cells #[.int .i64 11, .int .i64 a, .int .i64 b, .int .i64 c, .int .i64 0] 63)) w.heap.size 24 #[.slice ba bs.length bc] := (Blk.new _ _ _).kept (below_alloc _)
  have Bx : Blk ((w.alloc (.cells #[.slice ba bs.length bc] 24)).alloc (.cells #[.int .i64 11, .int .i64 a, .int .i64 b, .int .i64 c, .int .i64 0] 63)) (w.heap.size + 1) 63 #[.int .i64 11, .int .i64 a, .int .i64 b, .int .i64 c, .int .i64 0] := Blk.newAt (by simp)
  have HB : Hid (Below w.heap.size w ((w.alloc (.cells #[.slice ba bs.length bc] 24)).alloc (.cells #[.int .i64 11, .int .i64 a, .int .i64 b, .int .i64 c, .int .i64 0] 63))) := hid (by exact blBy)
  generalize ((w.alloc (.cells #[.slice ba bs.length bc] 24)).alloc (.cells #[.int .i64 11, .int .i64 a, .int .i64 b, .int .i64 c, .int .i64 0] 63)) = V at *
  have xx := Bx.cellF
  have zx := Bx.lt
  have xp := Bp.cellF
  have zp := Bp.lt
  go_wp2_with (first | (go_at_call 49; refine (HA.out _).mono ?_; rintro e w1 ⟨rfl, rfl⟩) | (go_at_call 52; refine (H1.out _).mono ?_; rintro e w1 ⟨rfl, rfl⟩) | (go_at_call 51; refine (H2.out _ HB.out).mono ?_; rintro e w1 ⟨rfl, hbx⟩; replace HB := hid (below_trans HB.out hbx); replace Bx := Bx.kept hbx; replace Bp := Bp.kept hbx; clear xx zx xp zp hbx; have xx := Bx.cellF; have zx := Bx.lt; have xp := Bp.cellF; have zp := Bp.lt))
  go_ret
  exact ⟨rfl, HB.out⟩
theorem hh11n (bs : List BV) (a b c d : Int) (hb16 : ¬ b = 16) : nuI bs ⟨11, a, b, c, d⟩ = (decide (d = 0) && (fdI a && (knum b && (decide (c = 0))))) := by
  show ((decide (d = 0)) && (if b = 16 then fdI a && enI bs (c - 1) else fdI a && (knum b && decide (c = 0)))) = _
  rw [if_neg hb16]
theorem nuR_11n (w : World) (bs : List BV) (ba : Option Addr) (bc : Nat) (h : PgR w (.slice ba bs.length bc) bs) (a b c d : Int) (hia : a ≤ 9223372036854775807) (hb16 : ¬ b = 16) : Calls Tryz.prog 31 #[.agg #[.slice ba bs.length bc], .agg #[.int .i64 11, .int .i64 a, .int .i64 b, .int .i64 c, .int .i64 d]] w (BoA w (nuI bs ⟨11, a, b, c, d⟩)) := by
  have HA : Hid (∀ W, Calls Tryz.prog 49 #[.int .i64 11] W fun e w' => e = .returned (.int .i64 3) ∧ w' = W) := hid fun W => arityR 11 W
  have hk16 : (b == 16) = false := by simpa using hb16
  have HH := hh11n bs a b c d hb16
  have HX : Hid (nuI bs ⟨11, a, b, c, d⟩ = (decide (d = 0) && (fdI a && (knum b && (decide (c = 0)))))) := hid (HH)
  clear hb16 HH
  generalize nuI bs ⟨11, a, b, c, d⟩ = v at *
  by_cases zd : d = 0
  case neg =>
    have qd : (d != 0) = true := by simpa using zd
    obtain rfl : v = false := by rw [HX.out]; simp [zd]
    clear HX zd
    clear h
    go_enter Tryz.func31, Tryz.ntmps31
    go_wp2_with fail
    have Bp : Blk ((w.alloc (.cells #[.slice ba bs.length bc] 24)).alloc (.cells #[.int .i64 11, .int .i64 a, .int .i64 b, .int .i64 c, .int .i64 d] 63)) w.heap.size 24 #[.slice ba bs.length bc] := (Blk.new _ _ _).kept (below_alloc _)
    have Bx : Blk ((w.alloc (.cells #[.slice ba bs.length bc] 24)).alloc (.cells #[.int .i64 11, .int .i64 a, .int .i64 b, .int .i64 c, .int .i64 d] 63)) (w.heap.size + 1) 63 #[.int .i64 11, .int .i64 a, .int .i64 b, .int .i64 c, .int .i64 d] := Blk.newAt (by simp)
    have HB : Hid (Below w.heap.size w ((w.alloc (.cells #[.slice ba bs.length bc] 24)).alloc (.cells #[.int .i64 11, .int .i64 a, .int .i64 b, .int .i64 c, .int .i64 d] 63))) := hid (by exact blBy)
    generalize ((w.alloc (.cells #[.slice ba bs.length bc] 24)).alloc (.cells #[.int .i64 11, .int .i64 a, .int .i64 b, .int .i64 c, .int .i64 d] 63)) = V at *
    have xx := Bx.cellF
    have zx := Bx.lt
    have xp := Bp.cellF
    have zp := Bp.lt
    go_wp2_with (first | (go_at_call 49; refine (HA.out _).mono ?_; rintro e w1 ⟨rfl, rfl⟩))
    go_ret
    exact ⟨rfl, HB.out⟩
  subst zd
  have H1 := hid (fun W => isFieldR W a)
  cases s1 : fdI a with
  | false =>
    rw [s1] at H1
    obtain rfl : v = false := by rw [HX.out]; simp [s1]
    clear HX s1
    clear h
    go_enter Tryz.func31, Tryz.ntmps31
    go_wp2_with fail
    have Bp : Blk ((w.alloc (.cells #[.slice ba bs.length bc] 24)).alloc (.cells #[.int .i64 11, .int .i64 a, .int .i64 b, .int .i64 c, .int .i64 0] 63)) w.heap.size 24 #[.slice ba bs.length bc] := (Blk.new _ _ _).kept (below_alloc _)
    have Bx : Blk ((w.alloc (.cells #[.slice ba bs.length bc] 24)).alloc (.cells #[.int .i64 11, .int .i64 a, .int .i64 b, .int .i64 c, .int .i64 0] 63)) (w.heap.size + 1) 63 #[.int .i64 11, .int .i64 a, .int .i64 b, .int .i64 c, .int .i64 0] := Blk.newAt (by simp)
    have HB : Hid (Below w.heap.size w ((w.alloc (.cells #[.slice ba bs.length bc] 24)).alloc (.cells #[.int .i64 11, .int .i64 a, .int .i64 b, .int .i64 c, .int .i64 0] 63))) := hid (by exact blBy)
    generalize ((w.alloc (.cells #[.slice ba bs.length bc] 24)).alloc (.cells #[.int .i64 11, .int .i64 a, .int .i64 b, .int .i64 c, .int .i64 0] 63)) = V at *
    have xx := Bx.cellF
    have zx := Bx.lt
    have xp := Bp.cellF
    have zp := Bp.lt
    go_wp2_with (first | (go_at_call 49; refine (HA.out _).mono ?_; rintro e w1 ⟨rfl, rfl⟩) | (go_at_call 52; refine (H1.out _).mono ?_; rintro e w1 ⟨rfl, rfl⟩))
    go_ret
    exact ⟨rfl, HB.out⟩
  | true =>
  rw [s1] at H1
  replace HX := hid (by have := HX.out; rw [s1] at this; exact this)
  clear s1
  have H2 := hid (fun W => numericR b W)
  cases s2 : knum b with
  | false =>
    rw [s2] at H2
    obtain rfl : v = false := by rw [HX.out]; simp [s2]
    clear HX s2
    clear h
    go_enter Tryz.func31, Tryz.ntmps31
    go_wp2_with fail
    have Bp : Blk ((w.alloc (.cells #[.slice ba bs.length bc] 24)).alloc (.cells #[.int .i64 11, .int .i64 a, .int .i64 b, .int .i64 c, .int .i64 0] 63)) w.heap.size 24 #[.slice ba bs.length bc] := (Blk.new _ _ _).kept (below_alloc _)
    have Bx : Blk ((w.alloc (.cells #[.slice ba bs.length bc] 24)).alloc (.cells #[.int .i64 11, .int .i64 a, .int .i64 b, .int .i64 c, .int .i64 0] 63)) (w.heap.size + 1) 63 #[.int .i64 11, .int .i64 a, .int .i64 b, .int .i64 c, .int .i64 0] := Blk.newAt (by simp)
    have HB : Hid (Below w.heap.size w ((w.alloc (.cells #[.slice ba bs.length bc] 24)).alloc (.cells #[.int .i64 11, .int .i64 a, .int .i64 b, .int .i64 c, .int .i64 0] 63))) := hid (by exact blBy)
    generalize ((w.alloc (.cells #[.slice ba bs.length bc] 24)).alloc (.cells #[.int .i64 11, .int .i64 a, .int .i64 b, .int .i64 c, .int .i64 0] 63)) = V at *
    have xx := Bx.cellF
    have zx := Bx.lt
    have xp := Bp.cellF
    have zp := Bp.lt
    go_wp2_with (first | (go_at_call 49; refine (HA.out _).mono ?_; rintro e w1 ⟨rfl, rfl⟩) | (go_at_call 52; refine (H1.out _).mono ?_; rintro e w1 ⟨rfl, rfl⟩) | (go_at_call 53; refine (H2.out _).mono ?_; rintro e w1 ⟨rfl, rfl⟩))
    go_ret
    exact ⟨rfl, HB.out⟩
  | true =>
  rw [s2] at H2
  replace HX := hid (by have := HX.out; rw [s2] at this; exact this)
  clear s2
  by_cases p3 : c = 0
  case neg =>
    have r3 : (c == 0) = false := by simpa using p3
    obtain rfl : v = false := by rw [HX.out]; simp [p3]
    clear HX p3
    clear h
    go_enter Tryz.func31, Tryz.ntmps31
    go_wp2_with fail
    have Bp : Blk ((w.alloc (.cells #[.slice ba bs.length bc] 24)).alloc (.cells #[.int .i64 11, .int .i64 a, .int .i64 b, .int .i64 c, .int .i64 0] 63)) w.heap.size 24 #[.slice ba bs.length bc] := (Blk.new _ _ _).kept (below_alloc _)
    have Bx : Blk ((w.alloc (.cells #[.slice ba bs.length bc] 24)).alloc (.cells #[.int .i64 11, .int .i64 a, .int .i64 b, .int .i64 c, .int .i64 0] 63)) (w.heap.size + 1) 63 #[.int .i64 11, .int .i64 a, .int .i64 b, .int .i64 c, .int .i64 0] := Blk.newAt (by simp)
    have HB : Hid (Below w.heap.size w ((w.alloc (.cells #[.slice ba bs.length bc] 24)).alloc (.cells #[.int .i64 11, .int .i64 a, .int .i64 b, .int .i64 c, .int .i64 0] 63))) := hid (by exact blBy)
    generalize ((w.alloc (.cells #[.slice ba bs.length bc] 24)).alloc (.cells #[.int .i64 11, .int .i64 a, .int .i64 b, .int .i64 c, .int .i64 0] 63)) = V at *
    have xx := Bx.cellF
    have zx := Bx.lt
    have xp := Bp.cellF
    have zp := Bp.lt
    go_wp2_with (first | (go_at_call 49; refine (HA.out _).mono ?_; rintro e w1 ⟨rfl, rfl⟩) | (go_at_call 52; refine (H1.out _).mono ?_; rintro e w1 ⟨rfl, rfl⟩) | (go_at_call 53; refine (H2.out _).mono ?_; rintro e w1 ⟨rfl, rfl⟩))
    go_ret
    exact ⟨rfl, HB.out⟩
  have r3 : (c == 0) = true := by simpa using p3
  replace HX := hid (by have := HX.out; rw [decide_eq_true p3] at this; exact this)
  clear p3
  obtain rfl : v = true := by have := HX.out; simpa using this
  clear HX
  clear h
  go_enter Tryz.func31, Tryz.ntmps31
  go_wp2_with fail
  have Bp : Blk ((w.alloc (.cells #[.slice ba bs.length bc] 24)).alloc (.cells #[.int .i64 11, .int .i64 a, .int .i64 b, .int .i64 c, .int .i64 0] 63)) w.heap.size 24 #[.slice ba bs.length bc] := (Blk.new _ _ _).kept (below_alloc _)
  have Bx : Blk ((w.alloc (.cells #[.slice ba bs.length bc] 24)).alloc (.cells #[.int .i64 11, .int .i64 a, .int .i64 b, .int .i64 c, .int .i64 0] 63)) (w.heap.size + 1) 63 #[.int .i64 11, .int .i64 a, .int .i64 b, .int .i64 c, .int .i64 0] := Blk.newAt (by simp)
  have HB : Hid (Below w.heap.size w ((w.alloc (.cells #[.slice ba bs.length bc] 24)).alloc (.cells #[.int .i64 11, .int .i64 a, .int .i64 b, .int .i64 c, .int .i64 0] 63))) := hid (by exact blBy)
  generalize ((w.alloc (.cells #[.slice ba bs.length bc] 24)).alloc (.cells #[.int .i64 11, .int .i64 a, .int .i64 b, .int .i64 c, .int .i64 0] 63)) = V at *
  have xx := Bx.cellF
  have zx := Bx.lt
  have xp := Bp.cellF
  have zp := Bp.lt
  go_wp2_with (first | (go_at_call 49; refine (HA.out _).mono ?_; rintro e w1 ⟨rfl, rfl⟩) | (go_at_call 52; refine (H1.out _).mono ?_; rintro e w1 ⟨rfl, rfl⟩) | (go_at_call 53; refine (H2.out _).mono ?_; rintro e w1 ⟨rfl, rfl⟩))
  go_ret
  exact ⟨rfl, HB.out⟩
theorem hh11m (bs : List BV) (a b c d : Int) (hb16 : b = 16) (hmn : c = -9223372036854775808) (hlen : bs.length ≤ 9223372036854775807) : nuI bs ⟨11, a, b, c, d⟩ = (decide (d = 0) && (fdI a && (enI bs 9223372036854775807))) := by
  show ((decide (d = 0)) && (if b = 16 then fdI a && enI bs (c - 1) else fdI a && (knum b && decide (c = 0)))) = _
  rw [if_pos hb16, enI_lo (by omega), enI_hi (by omega)]
theorem nuR_11m (w : World) (bs : List BV) (ba : Option Addr) (bc : Nat) (h : PgR w (.slice ba bs.length bc) bs) (a b c d : Int) (hia : a ≤ 9223372036854775807) (hb16 : b = 16) (hmn : c = -9223372036854775808) (hlen : bs.length ≤ 9223372036854775807) : Calls Tryz.prog 31 #[.agg #[.slice ba bs.length bc], .agg #[.int .i64 11, .int .i64 a, .int .i64 b, .int .i64 c, .int .i64 d]] w (BoA w (nuI bs ⟨11, a, b, c, d⟩)) := by
  have HA : Hid (∀ W, Calls Tryz.prog 49 #[.int .i64 11] W fun e w' => e = .returned (.int .i64 3) ∧ w' = W) := hid fun W => arityR 11 W
  have hk16 : (b == 16) = true := by simp [hb16]
  have HH := hh11m bs a b c d hb16 hmn hlen
  have HX : Hid (nuI bs ⟨11, a, b, c, d⟩ = (decide (d = 0) && (fdI a && (enI bs 9223372036854775807)))) := hid (HH)
  have w1c : wrap64 (c - 1) = 9223372036854775807 := by rw [hmn]; unfold wrap64; omega
  clear hb16 HH hmn
  generalize nuI bs ⟨11, a, b, c, d⟩ = v at *
  by_cases zd : d = 0
  case neg =>
    have qd : (d != 0) = true := by simpa using zd
    obtain rfl : v = false := by rw [HX.out]; simp [zd]
    clear HX zd
    clear h
    go_enter Tryz.func31, Tryz.ntmps31
    go_wp2_with fail
    have Bp : Blk ((w.alloc (.cells #[.slice ba bs.length bc] 24)).alloc (.cells #[.int .i64 11, .int .i64 a, .int .i64 b, .int .i64 c, .int .i64 d] 63)) w.heap.size 24 #[.slice ba bs.length bc] := (Blk.new _ _ _).kept (below_alloc _)
    have Bx : Blk ((w.alloc (.cells #[.slice ba bs.length bc] 24)).alloc (.cells #[.int .i64 11, .int .i64 a, .int .i64 b, .int .i64 c, .int .i64 d] 63)) (w.heap.size + 1) 63 #[.int .i64 11, .int .i64 a, .int .i64 b, .int .i64 c, .int .i64 d] := Blk.newAt (by simp)
    have HB : Hid (Below w.heap.size w ((w.alloc (.cells #[.slice ba bs.length bc] 24)).alloc (.cells #[.int .i64 11, .int .i64 a, .int .i64 b, .int .i64 c, .int .i64 d] 63))) := hid (by exact blBy)
    generalize ((w.alloc (.cells #[.slice ba bs.length bc] 24)).alloc (.cells #[.int .i64 11, .int .i64 a, .int .i64 b, .int .i64 c, .int .i64 d] 63)) = V at *
    have xx := Bx.cellF
    have zx := Bx.lt
    have xp := Bp.cellF
    have zp := Bp.lt
    go_wp2_with (first | (go_at_call 49; refine (HA.out _).mono ?_; rintro e w1 ⟨rfl, rfl⟩))
    go_ret
    exact ⟨rfl, HB.out⟩
  subst zd
  have H1 := hid (fun W => isFieldR W a)
  cases s1 : fdI a with
  | false =>
    rw [s1] at H1
    obtain rfl : v = false := by rw [HX.out]; simp [s1]
    clear HX s1
    clear h
    go_enter Tryz.func31, Tryz.ntmps31
    go_wp2_with fail
    have Bp : Blk ((w.alloc (.cells #[.slice ba bs.length bc] 24)).alloc (.cells #[.int .i64 11, .int .i64 a, .int .i64 b, .int .i64 c, .int .i64 0] 63)) w.heap.size 24 #[.slice ba bs.length bc] := (Blk.new _ _ _).kept (below_alloc _)
    have Bx : Blk ((w.alloc (.cells #[.slice ba bs.length bc] 24)).alloc (.cells #[.int .i64 11, .int .i64 a, .int .i64 b, .int .i64 c, .int .i64 0] 63)) (w.heap.size + 1) 63 #[.int .i64 11, .int .i64 a, .int .i64 b, .int .i64 c, .int .i64 0] := Blk.newAt (by simp)
    have HB : Hid (Below w.heap.size w ((w.alloc (.cells #[.slice ba bs.length bc] 24)).alloc (.cells #[.int .i64 11, .int .i64 a, .int .i64 b, .int .i64 c, .int .i64 0] 63))) := hid (by exact blBy)
    generalize ((w.alloc (.cells #[.slice ba bs.length bc] 24)).alloc (.cells #[.int .i64 11, .int .i64 a, .int .i64 b, .int .i64 c, .int .i64 0] 63)) = V at *
    have xx := Bx.cellF
    have zx := Bx.lt
    have xp := Bp.cellF
    have zp := Bp.lt
    go_wp2_with (first | (go_at_call 49; refine (HA.out _).mono ?_; rintro e w1 ⟨rfl, rfl⟩) | (go_at_call 52; refine (H1.out _).mono ?_; rintro e w1 ⟨rfl, rfl⟩))
    go_ret
    exact ⟨rfl, HB.out⟩
  | true =>
  rw [s1] at H1
  replace HX := hid (by have := HX.out; rw [s1] at this; exact this)
  clear s1
  have H2 := hid (fun W (hW : Below w.heap.size w W) => isEnumR W bs ba bc (h.kept hW) 9223372036854775807)
  cases s2 : enI bs 9223372036854775807 with
  | false =>
    rw [s2] at H2
    obtain rfl : v = false := by rw [HX.out]; simp [s2]
    clear HX s2
    clear h
    go_enter Tryz.func31, Tryz.ntmps31
    go_wp2_with fail
    have Bp : Blk ((w.alloc (.cells #[.slice ba bs.length bc] 24)).alloc (.cells #[.int .i64 11, .int .i64 a, .int .i64 b, .int .i64 c, .int .i64 0] 63)) w.heap.size 24 #[.slice ba bs.length bc] := (Blk.new _ _ _).kept (below_alloc _)
    have Bx : Blk ((w.alloc (.cells #[.slice ba bs.length bc] 24)).alloc (.cells #[.int .i64 11, .int .i64 a, .int .i64 b, .int .i64 c, .int .i64 0] 63)) (w.heap.size + 1) 63 #[.int .i64 11, .int .i64 a, .int .i64 b, .int .i64 c, .int .i64 0] := Blk.newAt (by simp)
    have HB : Hid (Below w.heap.size w ((w.alloc (.cells #[.slice ba bs.length bc] 24)).alloc (.cells #[.int .i64 11, .int .i64 a, .int .i64 b, .int .i64 c, .int .i64 0] 63))) := hid (by exact blBy)
    generalize ((w.alloc (.cells #[.slice ba bs.length bc] 24)).alloc (.cells #[.int .i64 11, .int .i64 a, .int .i64 b, .int .i64 c, .int .i64 0] 63)) = V at *
    have xx := Bx.cellF
    have zx := Bx.lt
    have xp := Bp.cellF
    have zp := Bp.lt
    go_wp2_with (first | (go_at_call 49; refine (HA.out _).mono ?_; rintro e w1 ⟨rfl, rfl⟩) | (go_at_call 52; refine (H1.out _).mono ?_; rintro e w1 ⟨rfl, rfl⟩) | (go_at_call 51; refine (H2.out _ HB.out).mono ?_; rintro e w1 ⟨rfl, hbx⟩; replace HB := hid (below_trans HB.out hbx); replace Bx := Bx.kept hbx; replace Bp := Bp.kept hbx; clear xx zx xp zp hbx; have xx := Bx.cellF; have zx := Bx.lt; have xp := Bp.cellF; have zp := Bp.lt))
    go_ret
    exact ⟨rfl, HB.out⟩
  | true =>
  rw [s2] at H2
  replace HX := hid (by have := HX.out; rw [s2] at this; exact this)
  clear s2
  obtain rfl : v = true := by have := HX.out; simpa using this
  clear HX
  clear h
  go_enter Tryz.func31, Tryz.ntmps31
  go_wp2_with fail
  have Bp : Blk ((w.alloc (.cells #[.slice ba bs.length bc] 24)).alloc (.cells #[.int .i64 11, .int .i64 a, .int .i64 b, .int .i64 c, .int .i64 0] 63)) w.heap.size 24 #[.slice ba bs.length bc] := (Blk.new _ _ _).kept (below_alloc _)
  have Bx : Blk ((w.alloc (.cells #[.slice ba bs.length bc] 24)).alloc (.cells #[.int .i64 11, .int .i64 a, .int .i64 b, .int .i64 c, .int .i64 0] 63)) (w.heap.size + 1) 63 #[.int .i64 11, .int .i64 a, .int .i64 b, .int .i64 c, .int .i64 0] := Blk.newAt (by simp)
  have HB : Hid (Below w.heap.size w ((w.alloc (.cells #[.slice ba bs.length bc] 24)).alloc (.cells #[.int .i64 11, .int .i64 a, .int .i64 b, .int .i64 c, .int .i64 0] 63))) := hid (by exact blBy)
  generalize ((w.alloc (.cells #[.slice ba bs.length bc] 24)).alloc (.cells #[.int .i64 11, .int .i64 a, .int .i64 b, .int .i64 c, .int .i64 0] 63)) = V at *
  have xx := Bx.cellF
  have zx := Bx.lt
  have xp := Bp.cellF
  have zp := Bp.lt
  go_wp2_with (first | (go_at_call 49; refine (HA.out _).mono ?_; rintro e w1 ⟨rfl, rfl⟩) | (go_at_call 52; refine (H1.out _).mono ?_; rintro e w1 ⟨rfl, rfl⟩) | (go_at_call 51; refine (H2.out _ HB.out).mono ?_; rintro e w1 ⟨rfl, hbx⟩; replace HB := hid (below_trans HB.out hbx); replace Bx := Bx.kept hbx; replace Bp := Bp.kept hbx; clear xx zx xp zp hbx; have xx := Bx.cellF; have zx := Bx.lt; have xp := Bp.cellF; have zp := Bp.lt))
  go_ret
  exact ⟨rfl, HB.out⟩
theorem ar_o (o : Int) (ho : ∀ k ∈ ([2, 3, 4, 5, 6, 7, 8, 9, 10, 11, 12, 14, 15, 16, 17, 18, 19, 20, 21, 22, 25] : List Int), ¬ o = k) : arI o = 0 := by
  unfold arI
  simp only [if_neg (ho 2 (by simp)), if_neg (ho 3 (by simp)), if_neg (ho 4 (by simp)), if_neg (ho 5 (by simp)), if_neg (ho 6 (by simp)), if_neg (ho 7 (by simp)), if_neg (ho 8 (by simp)), if_neg (ho 9 (by simp)), if_neg (ho 10 (by simp)), if_neg (ho 11 (by simp)), if_neg (ho 12 (by simp)), if_neg (ho 14 (by simp)), if_neg (ho 15 (by simp)), if_neg (ho 16 (by simp)), if_neg (ho 17 (by simp)), if_neg (ho 18 (by simp)), if_neg (ho 19 (by simp)), if_neg (ho 20 (by simp)), if_neg (ho 21 (by simp)), if_neg (ho 22 (by simp)), if_neg (ho 25 (by simp))]
theorem hh_o (bs : List BV) (o a b c d : Int) (ho : ∀ k ∈ ([2, 3, 4, 5, 6, 7, 8, 9, 10, 11, 12, 14, 15, 16, 17, 18, 19, 20, 21, 22, 25] : List Int), ¬ o = k) : nuI bs ⟨o, a, b, c, d⟩ = (decide (d = 0) && (decide (c = 0) && (decide (b = 0) && (decide (a = 0))))) := by
  unfold nuI
  simp only [if_neg (ho 2 (by simp)), if_neg (ho 3 (by simp)), if_neg (ho 4 (by simp)), if_neg (ho 5 (by simp)), if_neg (ho 6 (by simp)), if_neg (ho 7 (by simp)), if_neg (ho 8 (by simp)), if_neg (ho 9 (by simp)), if_neg (ho 10 (by simp)), if_neg (ho 11 (by simp)), if_neg (ho 12 (by simp)), if_neg (ho 14 (by simp)), if_neg (ho 15 (by simp)), if_neg (ho 16 (by simp)), if_neg (ho 17 (by simp)), if_neg (ho 18 (by simp)), if_neg (ho 19 (by simp)), if_neg (ho 20 (by simp)), if_neg (ho 21 (by simp)), if_neg (ho 22 (by simp)), if_neg (ho 25 (by simp))]
theorem nuR_o (w : World) (bs : List BV) (ba : Option Addr) (bc : Nat) (h : PgR w (.slice ba bs.length bc) bs) (o a b c d : Int) (hia : a ≤ 9223372036854775807) (ho : ∀ k ∈ ([2, 3, 4, 5, 6, 7, 8, 9, 10, 11, 12, 14, 15, 16, 17, 18, 19, 20, 21, 22, 25] : List Int), ¬ o = k) : Calls Tryz.prog 31 #[.agg #[.slice ba bs.length bc], .agg #[.int .i64 o, .int .i64 a, .int .i64 b, .int .i64 c, .int .i64 d]] w (BoA w (nuI bs ⟨o, a, b, c, d⟩)) := by
  have HA : Hid (∀ W, Calls Tryz.prog 49 #[.int .i64 o] W fun e w' => e = .returned (.int .i64 0) ∧ w' = W) := hid fun W => by have := arityR o W; rw [ar_o o ho] at this; exact this
  have q2 : (o == 2) = false := by simpa using ho 2 (by simp)
  have q3 : (o == 3) = false := by simpa using ho 3 (by simp)
  have q4 : (o == 4) = false := by simpa using ho 4 (by simp)
  have q5 : (o == 5) = false := by simpa using ho 5 (by simp)
  have q6 : (o == 6) = false := by simpa using ho 6 (by simp)
  have q7 : (o == 7) = false := by simpa using ho 7 (by simp)
  have q8 : (o == 8) = false := by simpa using ho 8 (by simp)
  have q9 : (o == 9) = false := by simpa using ho 9 (by simp)
  have q10 : (o == 10) = false := by simpa using ho 10 (by simp)
  have q11 : (o == 11) = false := by simpa using ho 11 (by simp)
  have q12 : (o == 12) = false := by simpa using ho 12 (by simp)
  have q14 : (o == 14) = false := by simpa using ho 14 (by simp)
  have q15 : (o == 15) = false := by simpa using ho 15 (by simp)
  have q16 : (o == 16) = false := by simpa using ho 16 (by simp)
  have q17 : (o == 17) = false := by simpa using ho 17 (by simp)
  have q18 : (o == 18) = false := by simpa using ho 18 (by simp)
  have q19 : (o == 19) = false := by simpa using ho 19 (by simp)
  have q20 : (o == 20) = false := by simpa using ho 20 (by simp)
  have q21 : (o == 21) = false := by simpa using ho 21 (by simp)
  have q22 : (o == 22) = false := by simpa using ho 22 (by simp)
  have q25 : (o == 25) = false := by simpa using ho 25 (by simp)
  have HH := hh_o bs o a b c d ho
  have HX : Hid (nuI bs ⟨o, a, b, c, d⟩ = (decide (d = 0) && (decide (c = 0) && (decide (b = 0) && (decide (a = 0)))))) := hid HH
  clear ho HH
  generalize nuI bs ⟨o, a, b, c, d⟩ = v at *
  by_cases zd : d = 0
  case neg =>
    have qd : (d != 0) = true := by simpa using zd
    obtain rfl : v = false := by rw [HX.out]; simp [zd]
    clear HX zd
    clear h
    go_enter Tryz.func31, Tryz.ntmps31
    go_wp2_with fail
    have Bp : Blk ((w.alloc (.cells #[.slice ba bs.length bc] 24)).alloc (.cells #[.int .i64 o, .int .i64 a, .int .i64 b, .int .i64 c, .int .i64 d] 63)) w.heap.size 24 #[.slice ba bs.length bc] := (Blk.new _ _ _).kept (below_alloc _)
    have Bx : Blk ((w.alloc (.cells #[.slice ba bs.length bc] 24)).alloc (.cells #[.int .i64 o, .int .i64 a, .int .i64 b, .int .i64 c, .int .i64 d] 63)) (w.heap.size + 1) 63 #[.int .i64 o, .int .i64 a, .int .i64 b, .int .i64 c, .int .i64 d] := Blk.newAt (by simp)
    have HB : Hid (Below w.heap.size w ((w.alloc (.cells #[.slice ba bs.length bc] 24)).alloc (.cells #[.int .i64 o, .int .i64 a, .int .i64 b, .int .i64 c, .int .i64 d] 63))) := hid (by exact blBy)
    generalize ((w.alloc (.cells #[.slice ba bs.length bc] 24)).alloc (.cells #[.int .i64 o, .int .i64 a, .int .i64 b, .int .i64 c, .int .i64 d] 63)) = V at *
    have xx := Bx.cellF
    have zx := Bx.lt
    have xp := Bp.cellF
    have zp := Bp.lt
    go_wp2_with (first | (go_at_call 49; refine (HA.out _).mono ?_; rintro e w1 ⟨rfl, rfl⟩))
    go_ret
    exact ⟨rfl, HB.out⟩
  subst zd
  by_cases zc : c = 0
  case neg =>
    have qc : (c != 0) = true := by simpa using zc
    obtain rfl : v = false := by rw [HX.out]; simp [zc]
    clear HX zc
    clear h
    go_enter Tryz.func31, Tryz.ntmps31
    go_wp2_with fail
    have Bp : Blk ((w.alloc (.cells #[.slice ba bs.length bc] 24)).alloc (.cells #[.int .i64 o, .int .i64 a, .int .i64 b, .int .i64 c, .int .i64 0] 63)) w.heap.size 24 #[.slice ba bs.length bc] := (Blk.new _ _ _).kept (below_alloc _)
    have Bx : Blk ((w.alloc (.cells #[.slice ba bs.length bc] 24)).alloc (.cells #[.int .i64 o, .int .i64 a, .int .i64 b, .int .i64 c, .int .i64 0] 63)) (w.heap.size + 1) 63 #[.int .i64 o, .int .i64 a, .int .i64 b, .int .i64 c, .int .i64 0] := Blk.newAt (by simp)
    have HB : Hid (Below w.heap.size w ((w.alloc (.cells #[.slice ba bs.length bc] 24)).alloc (.cells #[.int .i64 o, .int .i64 a, .int .i64 b, .int .i64 c, .int .i64 0] 63))) := hid (by exact blBy)
    generalize ((w.alloc (.cells #[.slice ba bs.length bc] 24)).alloc (.cells #[.int .i64 o, .int .i64 a, .int .i64 b, .int .i64 c, .int .i64 0] 63)) = V at *
    have xx := Bx.cellF
    have zx := Bx.lt
    have xp := Bp.cellF
    have zp := Bp.lt
    go_wp2_with (first | (go_at_call 49; refine (HA.out _).mono ?_; rintro e w1 ⟨rfl, rfl⟩))
    go_ret
    exact ⟨rfl, HB.out⟩
  subst zc
  by_cases zb : b = 0
  case neg =>
    have qb : (b != 0) = true := by simpa using zb
    obtain rfl : v = false := by rw [HX.out]; simp [zb]
    clear HX zb
    clear h
    go_enter Tryz.func31, Tryz.ntmps31
    go_wp2_with fail
    have Bp : Blk ((w.alloc (.cells #[.slice ba bs.length bc] 24)).alloc (.cells #[.int .i64 o, .int .i64 a, .int .i64 b, .int .i64 0, .int .i64 0] 63)) w.heap.size 24 #[.slice ba bs.length bc] := (Blk.new _ _ _).kept (below_alloc _)
    have Bx : Blk ((w.alloc (.cells #[.slice ba bs.length bc] 24)).alloc (.cells #[.int .i64 o, .int .i64 a, .int .i64 b, .int .i64 0, .int .i64 0] 63)) (w.heap.size + 1) 63 #[.int .i64 o, .int .i64 a, .int .i64 b, .int .i64 0, .int .i64 0] := Blk.newAt (by simp)
    have HB : Hid (Below w.heap.size w ((w.alloc (.cells #[.slice ba bs.length bc] 24)).alloc (.cells #[.int .i64 o, .int .i64 a, .int .i64 b, .int .i64 0, .int .i64 0] 63))) := hid (by exact blBy)
    generalize ((w.alloc (.cells #[.slice ba bs.length bc] 24)).alloc (.cells #[.int .i64 o, .int .i64 a, .int .i64 b, .int .i64 0, .int .i64 0] 63)) = V at *
    have xx := Bx.cellF
    have zx := Bx.lt
    have xp := Bp.cellF
    have zp := Bp.lt
    go_wp2_with (first | (go_at_call 49; refine (HA.out _).mono ?_; rintro e w1 ⟨rfl, rfl⟩))
    go_ret
    exact ⟨rfl, HB.out⟩
  subst zb
  by_cases za : a = 0
  case neg =>
    have qa : (a != 0) = true := by simpa using za
    obtain rfl : v = false := by rw [HX.out]; simp [za]
    clear HX za
    clear h
    go_enter Tryz.func31, Tryz.ntmps31
    go_wp2_with fail
    have Bp : Blk ((w.alloc (.cells #[.slice ba bs.length bc] 24)).alloc (.cells #[.int .i64 o, .int .i64 a, .int .i64 0, .int .i64 0, .int .i64 0] 63)) w.heap.size 24 #[.slice ba bs.length bc] := (Blk.new _ _ _).kept (below_alloc _)
    have Bx : Blk ((w.alloc (.cells #[.slice ba bs.length bc] 24)).alloc (.cells #[.int .i64 o, .int .i64 a, .int .i64 0, .int .i64 0, .int .i64 0] 63)) (w.heap.size + 1) 63 #[.int .i64 o, .int .i64 a, .int .i64 0, .int .i64 0, .int .i64 0] := Blk.newAt (by simp)
    have HB : Hid (Below w.heap.size w ((w.alloc (.cells #[.slice ba bs.length bc] 24)).alloc (.cells #[.int .i64 o, .int .i64 a, .int .i64 0, .int .i64 0, .int .i64 0] 63))) := hid (by exact blBy)
    generalize ((w.alloc (.cells #[.slice ba bs.length bc] 24)).alloc (.cells #[.int .i64 o, .int .i64 a, .int .i64 0, .int .i64 0, .int .i64 0] 63)) = V at *
    have xx := Bx.cellF
    have zx := Bx.lt
    have xp := Bp.cellF
    have zp := Bp.lt
    go_wp2_with (first | (go_at_call 49; refine (HA.out _).mono ?_; rintro e w1 ⟨rfl, rfl⟩))
    go_ret
    exact ⟨rfl, HB.out⟩
  subst za
  obtain rfl : v = true := by have := HX.out; simpa using this
  clear HX
  clear h
  go_enter Tryz.func31, Tryz.ntmps31
  go_wp2_with fail
  have Bp : Blk ((w.alloc (.cells #[.slice ba bs.length bc] 24)).alloc (.cells #[.int .i64 o, .int .i64 0, .int .i64 0, .int .i64 0, .int .i64 0] 63)) w.heap.size 24 #[.slice ba bs.length bc] := (Blk.new _ _ _).kept (below_alloc _)
  have Bx : Blk ((w.alloc (.cells #[.slice ba bs.length bc] 24)).alloc (.cells #[.int .i64 o, .int .i64 0, .int .i64 0, .int .i64 0, .int .i64 0] 63)) (w.heap.size + 1) 63 #[.int .i64 o, .int .i64 0, .int .i64 0, .int .i64 0, .int .i64 0] := Blk.newAt (by simp)
  have HB : Hid (Below w.heap.size w ((w.alloc (.cells #[.slice ba bs.length bc] 24)).alloc (.cells #[.int .i64 o, .int .i64 0, .int .i64 0, .int .i64 0, .int .i64 0] 63))) := hid (by exact blBy)
  generalize ((w.alloc (.cells #[.slice ba bs.length bc] 24)).alloc (.cells #[.int .i64 o, .int .i64 0, .int .i64 0, .int .i64 0, .int .i64 0] 63)) = V at *
  have xx := Bx.cellF
  have zx := Bx.lt
  have xp := Bp.cellF
  have zp := Bp.lt
  go_wp2_with (first | (go_at_call 49; refine (HA.out _).mono ?_; rintro e w1 ⟨rfl, rfl⟩))
  go_ret
  exact ⟨rfl, HB.out⟩
structure I5 (s : IN) : Prop where
  op : I64 s.op
  a : I64 s.a
  b : I64 s.b
  c : I64 s.c
  d : I64 s.d
theorem numbersR (w : World) (bs : List BV) (ba : Option Addr) (bc : Nat) (h : PgR w (.slice ba bs.length bc) bs) (s : IN) (hs : I5 s) : Calls Tryz.prog 31 #[.agg #[.slice ba bs.length bc], .agg #[.int .i64 s.op, .int .i64 s.a, .int .i64 s.b, .int .i64 s.c, .int .i64 s.d]] w (BoA w (nuI bs s)) := by
  obtain ⟨_, _, e, hn⟩ := rowS_sl h.row
  clear e
  obtain ⟨o, a, b, c, d⟩ := s
  have ha : a ≤ 9223372036854775807 := hs.a.2
  have hc := hs.c
  by_cases h2 : o = 2
  · subst h2; exact nuR_2 w bs ba bc h a b c d ha
  by_cases h3 : o = 3
  · subst h3; exact nuR_3 w bs ba bc h a b c d ha
  by_cases h4 : o = 4
  · subst h4; exact nuR_4 w bs ba bc h a b c d ha
  by_cases h5 : o = 5
  · subst h5; exact nuR_5 w bs ba bc h a b c d ha
  by_cases h6 : o = 6
  · subst h6; exact nuR_6 w bs ba bc h a b c d ha
  by_cases h7 : o = 7
  · subst h7; exact nuR_7 w bs ba bc h a b c d ha
  by_cases h8 : o = 8
  · subst h8; exact nuR_8 w bs ba bc h a b c d ha
  by_cases h9 : o = 9
  · subst h9; exact nuR_9 w bs ba bc h a b c d ha
  by_cases h10 : o = 10
  · subst h10; exact nuR_10 w bs ba bc h a b c d ha
  by_cases h11 : o = 11
  · subst h11
    by_cases hb : b = 16
    · by_cases hmn : c = -9223372036854775808
      · exact nuR_11m w bs ba bc h a b c d ha hb hmn hn
      · exact nuR_11y w bs ba bc h a b c d ha hb ⟨by have := hc.1; dsimp only at this; omega, hc.2⟩
    · exact nuR_11n w bs ba bc h a b c d ha hb
  by_cases h12 : o = 12
  · subst h12; exact nuR_12 w bs ba bc h a b c d ha
  by_cases h14 : o = 14
  · subst h14; exact nuR_14 w bs ba bc h a b c d ha
  by_cases h15 : o = 15
  · subst h15; exact nuR_15 w bs ba bc h a b c d ha
  by_cases h16 : o = 16
  · subst h16; exact nuR_16 w bs ba bc h a b c d ha
  by_cases h17 : o = 17
  · subst h17; exact nuR_17 w bs ba bc h a b c d ha
  by_cases h18 : o = 18
  · subst h18; exact nuR_18 w bs ba bc h a b c d ha
  by_cases h19 : o = 19
  · subst h19; exact nuR_19 w bs ba bc h a b c d ha
  by_cases h20 : o = 20
  · subst h20; exact nuR_20 w bs ba bc h a b c d ha
  by_cases h21 : o = 21
  · subst h21; exact nuR_21 w bs ba bc h a b c d ha
  by_cases h22 : o = 22
  · subst h22; exact nuR_22 w bs ba bc h a b c d ha
  by_cases h25 : o = 25
  · subst h25; exact nuR_25 w bs ba bc h a b c d ha
  exact nuR_o w bs ba bc h o a b c d ha (fun k hk => by
    simp only [List.mem_cons, List.not_mem_nil, or_false] at hk
    rcases hk with rfl | rfl | rfl | rfl | rfl | rfl | rfl | rfl | rfl | rfl | rfl | rfl | rfl | rfl | rfl | rfl | rfl | rfl | rfl | rfl | rfl
    all_goals assumption)
variable {P : Program} {ops : Array Oper} {Q : Exit → Act → World → Prop} {md : Region.Mode} {S : World → Prop}
theorem tkI (i : Nat) {oi : Oper} {v : Value} {fuel : Nat} {listed : Array Bool} {a : Act} {w : World} (h : wpAnyH P md ops Q S fuel (listed.setIfInBounds i true) (a.put oi.dst v) w) (hi : ops[i]? = some oi := by rfl)
    (hy : ∀ w, S w → (execOp a.eval oi).run P w = .ok (.value v) w := by (intro w hSw; (try dsimp only at hSw); go_simp; (try with_reducible rfl)))
    (hs : Region.noSelect ops = true := by kernel_rfl) (hf : Region.free md ops listed i = true := by kernel_rfl) (hr : (Region.ready md ops listed).contains i = true := by kernel_rfl)
    (hQ : ∀ c a w, Q (.panic c) (a.put oi.dst v) w → Q (.panic c) a w := by exact fun _ _ _ h => h) (hw : Region.wanted oi (yielded ops a.tmps) = true := by rfl) (hS : S w := by assumption) :
    wpAnyH P md ops Q S (fuel + 1) listed a w := wpAnyH_take hi hs hf hr hQ (Or.inl ⟨hw, hy⟩) hS h
set_option maxHeartbeats 20000000
section
variable {P : Program} {ops : Array Oper} {Q : Exit → Act → World → Prop} {md : Region.Mode} {S : World → Prop}
/-- One that is not wanted. -/
theorem tkU (i : Nat) {oi : Oper} {fuel : Nat} {listed : Array Bool} {a : Act} {w : World} (h : wpAnyH P md ops Q S fuel (listed.setIfInBounds i true) (a.put oi.dst undef) w) (hi : ops[i]? = some oi := by rfl)
    (hs : Region.noSelect ops = true := by kernel_rfl) (hf : Region.free md ops listed i = true := by kernel_rfl) (hr : (Region.ready md ops listed).contains i = true := by kernel_rfl)
    (hQ : ∀ c a w, Q (.panic c) (a.put oi.dst undef) w → Q (.panic c) a w := by exact fun _ _ _ h => h) (hw : Region.wanted oi (yielded ops a.tmps) = false := by kernel_rfl) (hS : S w := by assumption) :
    wpAnyH P md ops Q S (fuel + 1) listed a w := wpAnyH_take hi hs hf hr hQ (Or.inr ⟨hw, rfl⟩) hS h
/-- One that is wanted, held by the kernel. -/
theorem tkJ (i : Nat) {oi : Oper} {v : Value} {fuel : Nat} {listed : Array Bool} {a : Act} {w : World} (h : wpAnyH P md ops Q S fuel (listed.setIfInBounds i true) (a.put oi.dst v) w) (hi : ops[i]? = some oi := by rfl)
    (hy : ∀ w, S w → (execOp a.eval oi).run P w = .ok (.value v) w := by (intro w hSw; (try dsimp only at hSw); go_simp; (try with_reducible rfl)))
    (hs : Region.noSelect ops = true := by kernel_rfl) (hf : Region.free md ops listed i = true := by kernel_rfl) (hr : (Region.ready md ops listed).contains i = true := by kernel_rfl)
    (hQ : ∀ c a w, Q (.panic c) (a.put oi.dst v) w → Q (.panic c) a w := by exact fun _ _ _ h => h) (hw : Region.wanted oi (yielded ops a.tmps) = true := by kernel_rfl) (hS : S w := by assumption) :
    wpAnyH P md ops Q S (fuel + 1) listed a w := wpAnyH_take hi hs hf hr hQ (Or.inl ⟨hw, hy⟩) hS h
end
end Go.Proofs.YtdhkbdngmejklaaGreatDoor
