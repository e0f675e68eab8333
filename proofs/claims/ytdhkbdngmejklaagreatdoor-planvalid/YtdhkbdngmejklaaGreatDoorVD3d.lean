/-
  The document's: are an operation's numbers what they may be? (a part)
-/
import Derived.Test.YtdhkbdngmejklaaGreatDoorCVP2
namespace Go.Proofs.YtdhkbdngmejklaaGreatDoor
open Go.RowKit
set_option maxRecDepth 1000000
set_option linter.unusedVariables false
set_option linter.unusedSimpArgs false
set_option maxHeartbeats 4000000
theorem nuR_17 (w : World) (bs : List BV) (ba : Option Addr) (bc : Nat) (h : PgR w (.slice ba bs.length bc) bs) (a b c d : Int) (hia : a ≤ 9223372036854775807) : Calls Tryz.prog 31 #[.agg #[.slice ba bs.length bc], .agg #[.int .i64 17, .int .i64 a, .int .i64 b, .int .i64 c, .int .i64 d]] w (BoA w (nuI bs ⟨17, a, b, c, d⟩)) := by
  have HA : Hid (∀ W, Calls Tryz.prog 49 #[.int .i64 17] W fun e w' => e = .returned (.int .i64 1) ∧ w' = W) := hid fun W => arityR 17 W
  have HX : Hid (nuI bs ⟨17, a, b, c, d⟩ = (decide (d = 0) && (decide (c = 0) && (decide (b = 0) && (tgI a))))) := hid (by first | rfl | (unfold nuI; simp))
  generalize nuI bs ⟨17, a, b, c, d⟩ = v at *
  by_cases zd : d = 0
  case neg =>
    have qd : (d != 0) = true := by simpa using zd
    obtain rfl : v = false := by rw [HX.out]; simp [zd]
    clear HX zd
    clear h
    go_enter Tryz.func31, Tryz.ntmps31
    go_wp2_with fail
    have Bp : Blk ((w.alloc (.cells #[.slice ba bs.length bc] 24)).alloc (.cells #[.int .i64 17, .int .i64 a, .int .i64 b, .int .i64 c, .int .i64 d] 63)) w.heap.size 24 #[.slice ba bs.length bc] := (Blk.new _ _ _).kept (below_alloc _)
    have Bx : Blk ((w.alloc (.cells #[.slice ba bs.length bc] 24)).alloc (.cells #[.int .i64 17, .int .i64 a, .int .i64 b, .int .i64 c, .int .i64 d] 63)) (w.heap.size + 1) 63 #[.int .i64 17, .int .i64 a, .int .i64 b, .int .i64 c, .int .i64 d] := Blk.newAt (by simp)
    have HB : Hid (Below w.heap.size w ((w.alloc (.cells #[.slice ba bs.length bc] 24)).alloc (.cells #[.int .i64 17, .int .i64 a, .int .i64 b, .int .i64 c, .int .i64 d] 63))) := hid (by exact blBy)
    generalize ((w.alloc (.cells #[.slice ba bs.length bc] 24)).alloc (.cells #[.int .i64 17, .int .i64 a, .int .i64 b, .int .i64 c, .int .i64 d] 63)) = V at *
    have xx := Bx.cellF
    have zx := Bx.lt
    have xp := Bp.cellF
    have zp := Bp.lt
    go_wp2_with (first | (go_at_call 49; refine (HA.out _).mono ?_; rintro e w1 ⟨rfl, rfl⟩))
    go_ret
    exact ⟨rfl, HB.out⟩
  subst zd
  by_cases zc : c = 0
  case neg =>
    have qc : (c != 0) = true := by simpa using zc
    obtain rfl : v = false := by rw [HX.out]; simp [zc]
    clear HX zc
    clear h
    go_enter Tryz.func31, Tryz.ntmps31
    go_wp2_with fail
    have Bp : Blk ((w.alloc (.cells #[.slice ba bs.length bc] 24)).alloc (.cells #[.int .i64 17, .int .i64 a, .int .i64 b, .int .i64 c, .int .i64 0] 63)) w.heap.size 24 #[.slice ba bs.length bc] := (Blk.new _ _ _).kept (below_alloc _)
    have Bx : Blk ((w.alloc (.cells #[.slice ba bs.length bc] 24)).alloc (.cells #[.int .i64 17, .int .i64 a, .int .i64 b, .int .i64 c, .int .i64 0] 63)) (w.heap.size + 1) 63 #[.int .i64 17, .int .i64 a, .int .i64 b, .int .i64 c, .int .i64 0] := Blk.newAt (by simp)
    have HB : Hid (Below w.heap.size w ((w.alloc (.cells #[.slice ba bs.length bc] 24)).alloc (.cells #[.int .i64 17, .int .i64 a, .int .i64 b, .int .i64 c, .int .i64 0] 63))) := hid (by exact blBy)
    generalize ((w.alloc (.cells #[.slice ba bs.length bc] 24)).alloc (.cells #[.int .i64 17, .int .i64 a, .int .i64 b, .int .i64 c, .int .i64 0] 63)) = V at *
    have xx := Bx.cellF
    have zx := Bx.lt
    have xp := Bp.cellF
    have zp := Bp.lt
    go_wp2_with (first | (go_at_call 49; refine (HA.out _).mono ?_; rintro e w1 ⟨rfl, rfl⟩))
    go_ret
    exact ⟨rfl, HB.out⟩
  subst zc
  by_cases zb : b = 0
  case neg =>
    have qb : (b != 0) = true := by simpa using zb
    obtain rfl : v = false := by rw [HX.out]; simp [zb]
    clear HX zb
    clear h
    go_enter Tryz.func31, Tryz.ntmps31
    go_wp2_with fail
    have Bp : Blk ((w.alloc (.cells #[.slice ba bs.length bc] 24)).alloc (.cells #[.int .i64 17, .int .i64 a, .int .i64 b, .int .i64 0, .int .i64 0] 63)) w.heap.size 24 #[.slice ba bs.length bc] := (Blk.new _ _ _).kept (below_alloc _)
    have Bx : Blk ((w.alloc (.cells #[.slice ba bs.length bc] 24)).alloc (.cells #[.int .i64 17, .int .i64 a, .int .i64 b, .int .i64 0, .int .i64 0] 63)) (w.heap.size + 1) 63 #[.int .i64 17, .int .i64 a, .int .i64 b, .int .i64 0, .int .i64 0] := Blk.newAt (by simp)
    have HB : Hid (Below w.heap.size w ((w.alloc (.cells #[.slice ba bs.length bc] 24)).alloc (.cells #[.int .i64 17, .int .i64 a, .int .i64 b, .int .i64 0, .int .i64 0] 63))) := hid (by exact blBy)
    generalize ((w.alloc (.cells #[.slice ba bs.length bc] 24)).alloc (.cells #[.int .i64 17, .int .i64 a, .int .i64 b, .int .i64 0, .int .i64 0] 63)) = V at *
    have xx := Bx.cellF
    have zx := Bx.lt
    have xp := Bp.cellF
    have zp := Bp.lt
    go_wp2_with (first | (go_at_call 49; refine (HA.out _).mono ?_; rintro e w1 ⟨rfl, rfl⟩))
    go_ret
    exact ⟨rfl, HB.out⟩
  subst zb
  have H3 := hid (fun W => isTagR W a hia)
  cases s3 : tgI a with
  | false =>
    rw [s3] at H3
    obtain rfl : v = false := by rw [HX.out]; simp [s3]
    clear HX s3
    clear h
    go_enter Tryz.func31, Tryz.ntmps31
    go_wp2_with fail
    have Bp : Blk ((w.alloc (.cells #[.slice ba bs.length bc] 24)).alloc (.cells #[.int .i64 17, .int .i64 a, .int .i64 0, .int .i64 0, .int .i64 0] 63)) w.heap.size 24 #[.slice ba bs.length bc] := (Blk.new _ _ _).kept (below_alloc _)
    have Bx : Blk ((w.alloc (.cells #[.slice ba bs.length bc] 24)).alloc (.cells #[.int .i64 17, .int .i64 a, .int .i64 0, .int .i64 0, .int .i64 0] 63)) (w.heap.size + 1) 63 #[.int .i64 17, .int .i64 a, .int .i64 0, .int .i64 0, .int .i64 0] := Blk.newAt (by simp)
    have HB : Hid (Below w.heap.size w ((w.alloc (.cells #[.slice ba bs.length bc] 24)).alloc (.cells #[.int .i64 17, .int .i64 a, .int .i64 0, .int .i64 0, .int .i64 0] 63))) := hid (by exact blBy)
    generalize ((w.alloc (.cells #[.slice ba bs.length bc] 24)).alloc (.cells #[.int .i64 17, .int .i64 a, .int .i64 0, .int .i64 0, .int .i64 0] 63)) = V at *
    have xx := Bx.cellF
    have zx := Bx.lt
    have xp := Bp.cellF
    have zp := Bp.lt
    go_wp2_with (first | (go_at_call 49; refine (HA.out _).mono ?_; rintro e w1 ⟨rfl, rfl⟩) | (go_at_call 32; refine (H3.out _).mono ?_; rintro e w1 ⟨rfl, hbx⟩; replace HB := hid (below_trans HB.out hbx); replace Bx := Bx.kept hbx; replace Bp := Bp.kept hbx; clear xx zx xp zp hbx; have xx := Bx.cellF; have zx := Bx.lt; have xp := Bp.cellF; have zp := Bp.lt))
    go_ret
    exact ⟨rfl, HB.out⟩
  | true =>
  rw [s3] at H3
  replace HX := hid (by have := HX.out; rw [s3] at this; exact this)
  clear s3
  obtain rfl : v = true := by have := HX.out; simpa using this
  clear HX
  clear h
  go_enter Tryz.func31, Tryz.ntmps31
  go_wp2_with fail
  have Bp : Blk ((w.alloc (.cells #[.slice ba bs.length bc] 24)).alloc (.cells #[.int .i64 17, .int .i64 a, .int .i64 0, .int .i64 0, .int .i64 0] 63)) w.heap.size 24 #[.slice ba bs.length bc] := (Blk.new _ _ _).kept (below_alloc _)
  have Bx : Blk ((w.alloc (.cells #[.slice ba bs.length bc] 24)).alloc (.cells #[.int .i64 17, .int .i64 a, .int .i64 0, .int .i64 0, .int .i64 0] 63)) (w.heap.size + 1) 63 #[.int .i64 17, .int .i64 a, .int .i64 0, .int .i64 0, .int .i64 0] := Blk.newAt (by simp)
  have HB : Hid (Below w.heap.size w ((w.alloc (.cells #[.slice ba bs.length bc] 24)).alloc (.cells #[.int .i64 17, .int .i64 a, .int .i64 0, .int .i64 0, .int .i64 0] 63))) := hid (by exact blBy)
  generalize ((w.alloc (.cells #[.slice ba bs.length bc] 24)).alloc (.cells #[.int .i64 17, .int .i64 a, .int .i64 0, .int .i64 0, .int .i64 0] 63)) = V at *
  have xx := Bx.cellF
  have zx := Bx.lt
  have xp := Bp.cellF
  have zp := Bp.lt
  go_wp2_with (first | (go_at_call 49; refine (HA.out _).mono ?_; rintro e w1 ⟨rfl, rfl⟩) | (go_at_call 32; refine (H3.out _).mono ?_; rintro e w1 ⟨rfl, hbx⟩; replace HB := hid (below_trans HB.out hbx); replace Bx := Bx.kept hbx; replace Bp := Bp.kept hbx; clear xx zx xp zp hbx; have xx := Bx.cellF; have zx := Bx.lt; have xp := Bp.cellF; have zp := Bp.lt))
  go_ret
  exact ⟨rfl, HB.out⟩
theorem nuR_18 (w : World) (bs : List BV) (ba : Option Addr) (bc : Nat) (h : PgR w (.slice ba bs.length bc) bs) (a b c d : Int) (hia : a ≤ 9223372036854775807) : Calls Tryz.prog 31 #[.agg #[.slice ba bs.length bc], .agg #[.int .i64 18, .int .i64 a, .int .i64 b, .int .i64 c, .int .i64 d]] w (BoA w (nuI bs ⟨18, a, b, c, d⟩)) := by
  have HA : Hid (∀ W, Calls Tryz.prog 49 #[.int .i64 18] W fun e w' => e = .returned (.int .i64 1) ∧ w' = W) := hid fun W => arityR 18 W
  have HX : Hid (nuI bs ⟨18, a, b, c, d⟩ = (decide (d = 0) && (decide (c = 0) && (decide (b = 0) && (sgI a))))) := hid (by first | rfl | (unfold nuI; simp))
  generalize nuI bs ⟨18, a, b, c, d⟩ = v at *
  by_cases zd : d = 0
  case neg =>
    have qd : (d != 0) = true := by simpa using zd
    obtain rfl : v = false := by rw [HX.out]; simp [zd]
    clear HX zd
    clear h
    go_enter Tryz.func31, Tryz.ntmps31
    go_wp2_with fail
    have Bp : Blk ((w.alloc (.cells #[.slice ba bs.length bc] 24)).alloc (.cells #[.int .i64 18, .int .i64 a, .int .i64 b, .int .i64 c, .int .i64 d] 63)) w.heap.size 24 #[.slice ba bs.length bc] := (Blk.new _ _ _).kept (below_alloc _)
    have Bx : Blk ((w.alloc (.cells #[.slice ba bs.length bc] 24)).alloc (.cells #[.int .i64 18, .int .i64 a, .int .i64 b, .int .i64 c, .int .i64 d] 63)) (w.heap.size + 1) 63 #[.int .i64 18, .int .i64 a, .int .i64 b, .int .i64 c, .int .i64 d] := Blk.newAt (by simp)
    have HB : Hid (Below w.heap.size w ((w.alloc (.cells #[.slice ba bs.length bc] 24)).alloc (.cells #[.int .i64 18, .int .i64 a, .int .i64 b, .int .i64 c, .int .i64 d] 63))) := hid (by exact blBy)
    generalize ((w.alloc (.cells #[.slice ba bs.length bc] 24)).alloc (.cells #[.int .i64 18, .int .i64 a, .int .i64 b, .int .i64 c, .int .i64 d] 63)) = V at *
    have xx := Bx.cellF
    have zx := Bx.lt
    have xp := Bp.cellF
    have zp := Bp.lt
    go_wp2_with (first | (go_at_call 49; refine (HA.out _).mono ?_; rintro e w1 ⟨rfl, rfl⟩))
    go_ret
    exact ⟨rfl, HB.out⟩
  subst zd
  by_cases zc : c = 0
  case neg =>
    have qc : (c != 0) = true := by simpa using zc
    obtain rfl : v = false := by rw [HX.out]; simp [zc]
    clear HX zc
    clear h
    go_enter Tryz.func31, Tryz.ntmps31
    go_wp2_with fail
    have Bp : Blk ((w.alloc (.cells #[.slice ba bs.length bc] 24)).alloc (.cells #[.int .i64 18, .int .i64 a, .int .i64 b, .int .i64 c, .int .i64 0] 63)) w.heap.size 24 #[.slice ba bs.length bc] := (Blk.new _ _ _).kept (below_alloc _)
    have Bx : Blk ((w.alloc (.cells #[.slice ba bs.length bc] 24)).alloc (.cells #[.int .i64 18, .int .i64 a, .int .i64 b, .int .i64 c, .int .i64 0] 63)) (w.heap.size + 1) 63 #[.int .i64 18, .int .i64 a, .int .i64 b, .int .i64 c, .int .i64 0] := Blk.newAt (by simp)
    have HB : Hid (Below w.heap.size w ((w.alloc (.cells #[.slice ba bs.length bc] 24)).alloc (.cells #[.int .i64 18, .int .i64 a, .int .i64 b, .int .i64 c, .int .i64 0] 63))) := hid (by exact blBy)
    generalize ((w.alloc (.cells #[.slice ba bs.length bc] 24)).alloc (.cells #[.int .i64 18, .int .i64 a, .int .i64 b, .int .i64 c, .int .i64 0] 63)) = V at *
    have xx := Bx.cellF
    have zx := Bx.lt
    have xp := Bp.cellF
    have zp := Bp.lt
    go_wp2_with (first | (go_at_call 49; refine (HA.out _).mono ?_; rintro e w1 ⟨rfl, rfl⟩))
    go_ret
    exact ⟨rfl, HB.out⟩
  subst zc
  by_cases zb : b = 0
  case neg =>
    have qb : (b != 0) = true := by simpa using zb
    obtain rfl : v = false := by rw [HX.out]; simp [zb]
    clear HX zb
    clear h
    go_enter Tryz.func31, Tryz.ntmps31
    go_wp2_with fail
    have Bp : Blk ((w.alloc (.cells #[.slice ba bs.length bc] 24)).alloc (.cells #[.int .i64 18, .int .i64 a, .int .i64 b, .int .i64 0, .int .i64 0] 63)) w.heap.size 24 #[.slice ba bs.length bc] := (Blk.new _ _ _).kept (below_alloc _)
    have Bx : Blk ((w.alloc (.cells #[.slice ba bs.length bc] 24)).alloc (.cells #[.int .i64 18, .int .i64 a, .int .i64 b, .int .i64 0, .int .i64 0] 63)) (w.heap.size + 1) 63 #[.int .i64 18, .int .i64 a, .int .i64 b, .int .i64 0, .int .i64 0] := Blk.newAt (by simp)
    have HB : Hid (Below w.heap.size w ((w.alloc (.cells #[.slice ba bs.length bc] 24)).alloc (.cells #[.int .i64 18, .int .i64 a, .int .i64 b, .int .i64 0, .int .i64 0] 63))) := hid (by exact blBy)
    generalize ((w.alloc (.cells #[.slice ba bs.length bc] 24)).alloc (.cells #[.int .i64 18, .int .i64 a, .int .i64 b, .int .i64 0, .int .i64 0] 63)) = V at *
    have xx := Bx.cellF
    have zx := Bx.lt
    have xp := Bp.cellF
    have zp := Bp.lt
    go_wp2_with (first | (go_at_call 49; refine (HA.out _).mono ?_; rintro e w1 ⟨rfl, rfl⟩))
    go_ret
    exact ⟨rfl, HB.out⟩
  subst zb
  have H3 := hid (fun W => isScalarR W a)
  cases s3 : sgI a with
  | false =>
    rw [s3] at H3
    obtain rfl : v = false := by rw [HX.out]; simp [s3]
    clear HX s3
    clear h
    go_enter Tryz.func31, Tryz.ntmps31
    go_wp2_with fail
    have Bp : Blk ((w.alloc (.cells #[.slice ba bs.length bc] 24)).alloc (.cells #[.int .i64 18, .int .i64 a, .int .i64 0, .int .i64 0, .int .i64 0] 63)) w.heap.size 24 #[.slice ba bs.length bc] := (Blk.new _ _ _).kept (below_alloc _)
    have Bx : Blk ((w.alloc (.cells #[.slice ba bs.length bc] 24)).alloc (.cells #[.int .i64 18, .int .i64 a, .int .i64 0, .int .i64 0, .int .i64 0] 63)) (w.heap.size + 1) 63 #[.int .i64 18, .int .i64 a, .int .i64 0, .int .i64 0, .int .i64 0] := Blk.newAt (by simp)
    have HB : Hid (Below w.heap.size w ((w.alloc (.cells #[.slice ba bs.length bc] 24)).alloc (.cells #[.int .i64 18, .int .i64 a, .int .i64 0, .int .i64 0, .int .i64 0] 63))) := hid (by exact blBy)
    generalize ((w.alloc (.cells #[.slice ba bs.length bc] 24)).alloc (.cells #[.int .i64 18, .int .i64 a, .int .i64 0, .int .i64 0, .int .i64 0] 63)) = V at *
    have xx := Bx.cellF
    have zx := Bx.lt
    have xp := Bp.cellF
    have zp := Bp.lt
    go_wp2_with (first | (go_at_call 49; refine (HA.out _).mono ?_; rintro e w1 ⟨rfl, rfl⟩) | (go_at_call 50; refine (H3.out _).mono ?_; rintro e w1 ⟨rfl, rfl⟩))
    go_ret
    exact ⟨rfl, HB.out⟩
  | true =>
  rw [s3] at H3
  replace HX := hid (by have := HX.out; rw [s3] at this; exact this)
  clear s3
  obtain rfl : v = true := by have := HX.out; simpa using this
  clear HX
  clear h
  go_enter Tryz.func31, Tryz.ntmps31
  go_wp2_with fail
  have Bp : Blk ((w.alloc (.cells #[.slice ba bs.length bc] 24)).alloc (.cells #[.int .i64 18, .int .i64 a, .int .i64 0, .int .i64 0, .int .i64 0] 63)) w.heap.size 24 #[.slice ba bs.length bc] := (Blk.new _ _ _).kept (below_alloc _)
  have Bx : Blk ((w.alloc (.cells #[.slice ba bs.length bc] 24)).alloc (.cells #[.int .i64 18, .int .i64 a, .int .i64 0, .int .i64 0, .int .i64 0] 63)) (w.heap.size + 1) 63 #[.int .i64 18, .int .i64 a, .int .i64 0, .int .i64 0, .int .i64 0] := Blk.newAt (by simp)
  have HB : Hid (Below w.heap.size w ((w.alloc (.cells #[.slice ba bs.length bc] 24)).alloc (.cells #[.int .i64 18, .int .i64 a, .int .i64 0, .int .i64 0, .int .i64 0] 63))) := hid (by exact blBy)
  generalize ((w.alloc (.cells #[.slice ba bs.length bc] 24)).alloc (.cells #[.int .i64 18, .int .i64 a, .int .i64 0, .int .i64 0, .int .i64 0] 63)) = V at *
  have xx := Bx.cellF
  have zx := Bx.lt
  have xp := Bp.cellF
  have zp := Bp.lt
  go_wp2_with (first | (go_at_call 49; refine (HA.out _).mono ?_; rintro e w1 ⟨rfl, rfl⟩) | (go_at_call 50; refine (H3.out _).mono ?_; rintro e w1 ⟨rfl, rfl⟩))
  go_ret
  exact ⟨rfl, HB.out⟩
theorem nuR_19 (w : World) (bs : List BV) (ba : Option Addr) (bc : Nat) (h : PgR w (.slice ba bs.length bc) bs) (a b c d : Int) (hia : a ≤ 9223372036854775807) : Calls Tryz.prog 31 #[.agg #[.slice ba bs.length bc], .agg #[.int .i64 19, .int .i64 a, .int .i64 b, .int .i64 c, .int .i64 d]] w (BoA w (nuI bs ⟨19, a, b, c, d⟩)) := by
  have HA : Hid (∀ W, Calls Tryz.prog 49 #[.int .i64 19] W fun e w' => e = .returned (.int .i64 1) ∧ w' = W) := hid fun W => arityR 19 W
  have HX : Hid (nuI bs ⟨19, a, b, c, d⟩ = (decide (d = 0) && (decide (c = 0) && (decide (b = 0) && (msI bs a))))) := hid (by first | rfl | (unfold nuI; simp))
  generalize nuI bs ⟨19, a, b, c, d⟩ = v at *
  by_cases zd : d = 0
  case neg =>
    have qd : (d != 0) = true := by simpa using zd
    obtain rfl : v = false := by rw [HX.out]; simp [zd]
    clear HX zd
    clear h
    go_enter Tryz.func31, Tryz.ntmps31
    go_wp2_with fail
    have Bp : Blk ((w.alloc (.cells #[.slice ba bs.length bc] 24)).alloc (.cells #[.int .i64 19, .int .i64 a, .int .i64 b, .int .i64 c, .int .i64 d] 63)) w.heap.size 24 #[.slice ba bs.length bc] := (Blk.new _ _ _).kept (below_alloc _)
    have Bx : Blk ((w.alloc (.cells #[.slice ba bs.length bc] 24)).alloc (.cells #[.int .i64 19, .int .i64 a, .int .i64 b, .int .i64 c, .int .i64 d] 63)) (w.heap.size + 1) 63 #[.int .i64 19, .int .i64 a, .int .i64 b, .int .i64 c, .int .i64 d] := Blk.newAt (by simp)
    have HB : Hid (Below w.heap.size w ((w.alloc (.cells #[.slice ba bs.length bc] 24)).alloc (.cells #[.int .i64 19, .int .i64 a, .int .i64 b, .int .i64 c, .int .i64 d] 63))) := hid (by exact blBy)
    generalize ((w.alloc (.cells #[.slice ba bs.length bc] 24)).alloc (.cells #[.int .i64 19, .int .i64 a, .int .i64 b, .int .i64 c, .int .i64 d] 63)) = V at *
    have xx := Bx.cellF
    have zx := Bx.lt
    have xp := Bp.cellF
    have zp := Bp.lt
    go_wp2_with (first | (go_at_call 49; refine (HA.out _).mono ?_; rintro e w1 ⟨rfl, rfl⟩))
    go_ret
    exact ⟨rfl, HB.out⟩
  subst zd
  by_cases zc : c = 0
  case neg =>
    have qc : (c != 0) = true := by simpa using zc
    obtain rfl : v = false := by rw [HX.out]; simp [zc]
    clear HX zc
    clear h
    go_enter Tryz.func31, Tryz.ntmps31
    go_wp2_with fail
    have Bp : Blk ((w.alloc (.cells #[.slice ba bs.length bc] 24)).alloc (.cells #[.int .i64 19, .int .i64 a, .int .i64 b, .int .i64 c, .int .i64 0] 63)) w.heap.size 24 #[.slice ba bs.length bc] := (Blk.new _ _ _).kept (below_alloc _)
    have Bx : Blk ((w.alloc (.cells #[.slice ba bs.length bc] 24)).alloc (.cells #[.int .i64 19, .int .i64 a, .int .i64 b, .int .i64 c, .int .i64 0] 63)) (w.heap.size + 1) 63 #[.int .i64 19, .int .i64 a, .int .i64 b, .int .i64 c, .int .i64 0] := Blk.newAt (by simp)
    have HB : Hid (Below w.heap.size w ((w.alloc (.cells #[.slice ba bs.length bc] 24)).alloc (.cells #[.int .i64 19, .int .i64 a, .int .i64 b, .int .i64 c, .int .i64 0] 63))) := hid (by exact blBy)
    generalize ((w.alloc (.cells #[.slice ba bs.length bc] 24)).alloc (.cells #[.int .i64 19, .int .i64 a, .int .i64 b, .int .i64 c, .int .i64 0] 63)) = V at *
    have xx := Bx.cellF
    have zx := Bx.lt
    have xp := Bp.cellF
    have zp := Bp.lt
    go_wp2_with (first | (go_at_call 49; refine (HA.out _).mono ?_; rintro e w1 ⟨rfl, rfl⟩))
    go_ret
    exact ⟨rfl, HB.out⟩
  subst zc
  by_cases zb : b = 0
  case neg =>
    have qb : (b != 0) = true := by simpa using zb
    obtain rfl : v = false := by rw [HX.out]; simp [zb]
    clear HX zb
    clear h
    go_enter Tryz.func31, Tryz.ntmps31
    go_wp2_with fail
    have Bp : Blk ((w.alloc (.cells #[.slice ba bs.length bc] 24)).alloc (.cells #[.int .i64 19, .int .i64 a, .int .i64 b, .int .i64 0, .int .i64 0] 63)) w.heap.size 24 #[.slice ba bs.length bc] := (Blk.new _ _ _).kept (below_alloc _)
    have Bx : Blk ((w.alloc (.cells #[.slice ba bs.length bc] 24)).alloc (.cells #[.int .i64 19, .int .i64 a, .int .i64 b, .int .i64 0, .int .i64 0] 63)) (w.heap.size + 1) 63 #[.int .i64 19, .int .i64 a, .int .i64 b, .int .i64 0, .int .i64 0] := Blk.newAt (by simp)
    have HB : Hid (Below w.heap.size w ((w.alloc (.cells #[.slice ba bs.length bc] 24)).alloc (.cells #[.int .i64 19, .int .i64 a, .int .i64 b, .int .i64 0, .int .i64 0] 63))) := hid (by exact blBy)
    generalize ((w.alloc (.cells #[.slice ba bs.length bc] 24)).alloc (.cells #[.int .i64 19, .int .i64 a, .int .i64 b, .int .i64 0, .int .i64 0] 63)) = V at *
    have xx := Bx.cellF
    have zx := Bx.lt
    have xp := Bp.cellF
    have zp := Bp.lt
    go_wp2_with (first | (go_at_call 49; refine (HA.out _).mono ?_; rintro e w1 ⟨rfl, rfl⟩))
    go_ret
    exact ⟨rfl, HB.out⟩
  subst zb
  have H3 := hid (fun W (hW : Below w.heap.size w W) => isMessageR W bs ba bc (h.kept hW) a)
  cases s3 : msI bs a with
  | false =>
    rw [s3] at H3
    obtain rfl : v = false := by rw [HX.out]; simp [s3]
    clear HX s3
    clear h
    go_enter Tryz.func31, Tryz.ntmps31
    go_wp2_with fail
    have Bp : Blk ((w.alloc (.cells #[.slice ba bs.length bc] 24)).alloc (.cells #[.int .i64 19, .int .i64 a, .int .i64 0, .int .i64 0, .int .i64 0] 63)) w.heap.size 24 #[.slice ba bs.length bc] := (Blk.new _ _ _).kept (below_alloc _)
    have Bx : Blk ((w.alloc (.cells #[.slice ba bs.length bc] 24)).alloc (.cells #[.int .i64 19, .int .i64 a, .int .i64 0, .int .i64 0, .int .i64 0] 63)) (w.heap.size + 1) 63 #[.int .i64 19, .int .i64 a, .int .i64 0, .int .i64 0, .int .i64 0] := Blk.newAt (by simp)
    have HB : Hid (Below w.heap.size w ((w.alloc (.cells #[.slice ba bs.length bc] 24)).alloc (.cells #[.int .i64 19, .int .i64 a, .int .i64 0, .int .i64 0, .int .i64 0] 63))) := hid (by exact blBy)
    generalize ((w.alloc (.cells #[.slice ba bs.length bc] 24)).alloc (.cells #[.int .i64 19, .int .i64 a, .int .i64 0, .int .i64 0, .int .i64 0] 63)) = V at *
    have xx := Bx.cellF
    have zx := Bx.lt
    have xp := Bp.cellF
    have zp := Bp.lt
    go_wp2_with (first | (go_at_call 49; refine (HA.out _).mono ?_; rintro e w1 ⟨rfl, rfl⟩) | (go_at_call 17; refine (H3.out _ HB.out).mono ?_; rintro e w1 ⟨rfl, hbx⟩; replace HB := hid (below_trans HB.out hbx); replace Bx := Bx.kept hbx; replace Bp := Bp.kept hbx; clear xx zx xp zp hbx; have xx := Bx.cellF; have zx := Bx.lt; have xp := Bp.cellF; have zp := Bp.lt))
    go_ret
    exact ⟨rfl, HB.out⟩
  | true =>
  rw [s3] at H3
  replace HX := hid (by have := HX.out; rw [s3] at this; exact this)
  clear s3
  obtain rfl : v = true := by have := HX.out; simpa using this
  clear HX
  clear h
  go_enter Tryz.func31, Tryz.ntmps31
  go_wp2_with fail
  have Bp : Blk ((w.alloc (.cells #[.slice ba bs.length bc] 24)).alloc (.cells #[.int .i64 19, .int .i64 a, .int .i64 0, .int .i64 0, .int .i64 0] 63)) w.heap.size 24 #[.slice ba bs.length bc] := (Blk.new _ _ _).kept (below_alloc _)
  have Bx : Blk ((w.alloc (.cells #[.slice ba bs.length bc] 24)).alloc (.cells #[.int .i64 19, .int .i64 a, .int .i64 0, .int .i64 0, .int .i64 0] 63)) (w.heap.size + 1) 63 #[.int .i64 19, .int .i64 a, .int .i64 0, .int .i64 0, .int .i64 0] := Blk.newAt (by simp)
  have HB : Hid (Below w.heap.size w ((w.alloc (.cells #[.slice ba bs.length bc] 24)).alloc (.cells #[.int .i64 19, .int .i64 a, .int .i64 0, .int .i64 0, .int .i64 0] 63))) := hid (by exact blBy)
  generalize ((w.alloc (.cells #[.slice ba bs.length bc] 24)).alloc (.cells #[.int .i64 19, .int .i64 a, .int .i64 0, .int .i64 0, .int .i64 0] 63)) = V at *
  have xx := Bx.cellF
  have zx := Bx.lt
  have xp := Bp.cellF
  have zp := Bp.lt
  go_wp2_with (first | (go_at_call 49; refine (HA.out _).mono ?_; rintro e w1 ⟨rfl, rfl⟩) | (go_at_call 17; refine (H3.out _ HB.out).mono ?_; rintro e w1 ⟨rfl, hbx⟩; replace HB := hid (below_trans HB.out hbx); replace Bx := Bx.kept hbx; replace Bp := Bp.kept hbx; clear xx zx xp zp hbx; have xx := Bx.cellF; have zx := Bx.lt; have xp := Bp.cellF; have zp := Bp.lt))
  go_ret
  exact ⟨rfl, HB.out⟩
theorem nuR_20 (w : World) (bs : List BV) (ba : Option Addr) (bc : Nat) (h : PgR w (.slice ba bs.length bc) bs) (a b c d : Int) (hia : a ≤ 9223372036854775807) : Calls Tryz.prog 31 #[.agg #[.slice ba bs.length bc], .agg #[.int .i64 20, .int .i64 a, .int .i64 b, .int .i64 c, .int .i64 d]] w (BoA w (nuI bs ⟨20, a, b, c, d⟩)) := by
  have HA : Hid (∀ W, Calls Tryz.prog 49 #[.int .i64 20] W fun e w' => e = .returned (.int .i64 3) ∧ w' = W) := hid fun W => arityR 20 W
  have HX : Hid (nuI bs ⟨20, a, b, c, d⟩ = (decide (d = 0) && (tgI a && (kdI b && (bkI bs b c))))) := hid (by first | rfl | (unfold nuI; simp))
  generalize nuI bs ⟨20, a, b, c, d⟩ = v at *
  by_cases zd : d = 0
  case neg =>
    have qd : (d != 0) = true := by simpa using zd
    obtain rfl : v = false := by rw [HX.out]; simp [zd]
    clear HX zd
    clear h
    go_enter Tryz.func31, Tryz.ntmps31
    go_wp2_with fail
    have Bp : Blk ((w.alloc (.cells #[.slice ba bs.length bc] 24)).alloc (.cells #[.int .i64 20, .int .i64 a, .int .i64 b, .int .i64 c, .int .i64 d] 63)) w.heap.size 24 #[.slice ba bs.length bc] := (Blk.new _ _ _).kept (below_alloc _)
    have Bx : Blk ((w.alloc (.cells #[.slice ba bs.length bc] 24)).alloc (.cells #[.int .i64 20, .int .i64 a, .int .i64 b, .int .i64 c, .int .i64 d] 63)) (w.heap.size + 1) 63 #[.int .i64 20, .int .i64 a, .int .i64 b, .int .i64 c, .int .i64 d] := Blk.newAt (by simp)
    have HB : Hid (Below w.heap.size w ((w.alloc (.cells #[.slice ba bs.length bc] 24)).alloc (.cells #[.int .i64 20, .int .i64 a, .int .i64 b, .int .i64 c, .int .i64 d] 63))) := hid (by exact blBy)
    generalize ((w.alloc (.cells #[.slice ba bs.length bc] 24)).alloc (.cells #[.int .i64 20, .int .i64 a, .int .i64 b, .int .i64 c, .int .i64 d] 63)) = V at *
    have xx := Bx.cellF
    have zx := Bx.lt
    have xp := Bp.cellF
    have zp := Bp.lt
    go_wp2_with (first | (go_at_call 49; refine (HA.out _).mono ?_; rintro e w1 ⟨rfl, rfl⟩))
    go_ret
    exact ⟨rfl, HB.out⟩
  subst zd
  have H1 := hid (fun W => isTagR W a hia)
  cases s1 : tgI a with
  | false =>
    rw [s1] at H1
    obtain rfl : v = false := by rw [HX.out]; simp [s1]
    clear HX s1
    clear h
    go_enter Tryz.func31, Tryz.ntmps31
    go_wp2_with fail
    have Bp : Blk ((w.alloc (.cells #[.slice ba bs.length bc] 24)).alloc (.cells #[.int .i64 20, .int .i64 a, .int .i64 b, .int .i64 c, .int .i64 0] 63)) w.heap.size 24 #[.slice ba bs.length bc] := (Blk.new _ _ _).kept (below_alloc _)
    have Bx : Blk ((w.alloc (.cells #[.slice ba bs.length bc] 24)).alloc (.cells #[.int .i64 20, .int .i64 a, .int .i64 b, .int .i64 c, .int .i64 0] 63)) (w.heap.size + 1) 63 #[.int .i64 20, .int .i64 a, .int .i64 b, .int .i64 c, .int .i64 0] := Blk.newAt (by simp)
    have HB : Hid (Below w.heap.size w ((w.alloc (.cells #[.slice ba bs.length bc] 24)).alloc (.cells #[.int .i64 20, .int .i64 a, .int .i64 b, .int .i64 c, .int .i64 0] 63))) := hid (by exact blBy)
    generalize ((w.alloc (.cells #[.slice ba bs.length bc] 24)).alloc (.cells #[.int .i64 20, .int .i64 a, .int .i64 b, .int .i64 c, .int .i64 0] 63)) = V at *
    have xx := Bx.cellF
    have zx := Bx.lt
    have xp := Bp.cellF
    have zp := Bp.lt
    go_wp2_with (first | (go_at_call 49; refine (HA.out _).mono ?_; rintro e w1 ⟨rfl, rfl⟩) | (go_at_call 32; refine (H1.out _).mono ?_; rintro e w1 ⟨rfl, hbx⟩; replace HB := hid (below_trans HB.out hbx); replace Bx := Bx.kept hbx; replace Bp := Bp.kept hbx; clear xx zx xp zp hbx; have xx := Bx.cellF; have zx := Bx.lt; have xp := Bp.cellF; have zp := Bp.lt))
    go_ret
    exact ⟨rfl, HB.out⟩
  | true =>
  rw [s1] at H1
  replace HX := hid (by have := HX.out; rw [s1] at this; exact this)
  clear s1
  have H2 := hid (fun W => isKindR W b)
  cases s2 : kdI b with
  | false =>
    rw [s2] at H2
    obtain rfl : v = false := by rw [HX.out]; simp [s2]
    clear HX s2
    clear h
    go_enter Tryz.func31, Tryz.ntmps31
    go_wp2_with fail
    have Bp : Blk ((w.alloc (.cells #[.slice ba bs.length bc] 24)).alloc (.cells #[.int .i64 20, .int .i64 a, .int .i64 b, .int .i64 c, .int .i64 0] 63)) w.heap.size 24 #[.slice ba bs.length bc] := (Blk.new _ _ _).kept (below_alloc _)
    have Bx : Blk ((w.alloc (.cells #[.slice ba bs.length bc] 24)).alloc (.cells #[.int .i64 20, .int .i64 a, .int .i64 b, .int .i64 c, .int .i64 0] 63)) (w.heap.size + 1) 63 #[.int .i64 20, .int .i64 a, .int .i64 b, .int .i64 c, .int .i64 0] := Blk.newAt (by simp)
    have HB : Hid (Below w.heap.size w ((w.alloc (.cells #[.slice ba bs.length bc] 24)).alloc (.cells #[.int .i64 20, .int .i64 a, .int .i64 b, .int .i64 c, .int .i64 0] 63))) := hid (by exact blBy)
    generalize ((w.alloc (.cells #[.slice ba bs.length bc] 24)).alloc (.cells #[.int .i64 20, .int .i64 a, .int .i64 b, .int .i64 c, .int .i64 0] 63)) = V at *
    have xx := Bx.cellF
    have zx := Bx.lt
    have xp := Bp.cellF
    have zp := Bp.lt
    go_wp2_with (first | (go_at_call 49; refine (HA.out _).mono ?_; rintro e w1 ⟨rfl, rfl⟩) | (go_at_call 32; refine (H1.out _).mono ?_; rintro e w1 ⟨rfl, hbx⟩; replace HB := hid (below_trans HB.out hbx); replace Bx := Bx.kept hbx; replace Bp := Bp.kept hbx; clear xx zx xp zp hbx; have xx := Bx.cellF; have zx := Bx.lt; have xp := Bp.cellF; have zp := Bp.lt) | (go_at_call 55; refine (H2.out _).mono ?_; rintro e w1 ⟨rfl, rfl⟩))
    go_ret
    exact ⟨rfl, HB.out⟩
  | true =>
  rw [s2] at H2
  replace HX := hid (by have := HX.out; rw [s2] at this; exact this)
  clear s2
  have H3 := hid (fun W (hW : Below w.heap.size w W) => blockR W bs ba bc (h.kept hW) b c)
  cases s3 : bkI bs b c with
  | false =>
    rw [s3] at H3
    obtain rfl : v = false := by rw [HX.out]; simp [s3]
    clear HX s3
    clear h
    go_enter Tryz.func31, Tryz.ntmps31
    go_wp2_with fail
    have Bp : Blk ((w.alloc (.cells #[.slice ba bs.length bc] 24)).alloc (.cells #[.int .i64 20, .int .i64 a, .int .i64 b, .int .i64 c, .int .i64 0] 63)) w.heap.size 24 #[.slice ba bs.length bc] := (Blk.new _ _ _).kept (below_alloc _)
    have Bx : Blk ((w.alloc (.cells #[.slice ba bs.length bc] 24)).alloc (.cells #[.int .i64 20, .int .i64 a, .int .i64 b, .int .i64 c, .int .i64 0] 63)) (w.heap.size + 1) 63 #[.int .i64 20, .int .i64 a, .int .i64 b, .int .i64 c, .int .i64 0] := Blk.newAt (by simp)
    have HB : Hid (Below w.heap.size w ((w.alloc (.cells #[.slice ba bs.length bc] 24)).alloc (.cells #[.int .i64 20, .int .i64 a, .int .i64 b, .int .i64 c, .int .i64 0] 63))) := hid (by exact blBy)
    generalize ((w.alloc (.cells #[.slice ba bs.length bc] 24)).alloc (.cells #[.int .i64 20, .int .i64 a, .int .i64 b, .int .i64 c, .int .i64 0] 63)) = V at *
    have xx := Bx.cellF
    have zx := Bx.lt
    have xp := Bp.cellF
    have zp := Bp.lt
    go_wp2_with (first | (go_at_call 49; refine (HA.out _).mono ?_; rintro e w1 ⟨rfl, rfl⟩) | (go_at_call 32; refine (H1.out _).mono ?_; rintro e w1 ⟨rfl, hbx⟩; replace HB := hid (below_trans HB.out hbx); replace Bx := Bx.kept hbx; replace Bp := Bp.kept hbx; clear xx zx xp zp hbx; have xx := Bx.cellF; have zx := Bx.lt; have xp := Bp.cellF; have zp := Bp.lt) | (go_at_call 55; refine (H2.out _).mono ?_; rintro e w1 ⟨rfl, rfl⟩) | (go_at_call 56; refine (H3.out _ HB.out).mono ?_; rintro e w1 ⟨rfl, hbx⟩; replace HB := hid (below_trans HB.out hbx); replace Bx := Bx.kept hbx; replace Bp := Bp.kept hbx; clear xx zx xp zp hbx; have xx := Bx.cellF; have zx := Bx.lt; have xp := Bp.cellF; have zp := Bp.lt))
    go_ret
    exact ⟨rfl, HB.out⟩
  | true =>
  rw [s3] at H3
  replace HX := hid (by have := HX.out; rw [s3] at this; exact this)
  clear s3
  obtain rfl : v = true := by have := HX.out; simpa using this
  clear HX
  clear h
  go_enter Tryz.func31, Tryz.ntmps31
  go_wp2_with fail
  have Bp : Blk ((w.alloc (.cells #[.slice ba bs.length bc] 24)).alloc (.cells #[.int .i64 20, .int .i64 a, .int .i64 b, .int .i64 c, .int .i64 0] 63)) w.heap.size 24 #[.slice ba bs.length bc] := (Blk.new _ _ _).kept (below_alloc _)
  have Bx : Blk ((w.alloc (.cells #[.slice ba bs.length bc] 24)).alloc (.cells #[.int .i64 20, .int .i64 a, .int .i64 b, .int .i64 c, .int .i64 0] 63)) (w.heap.size + 1) 63 #[.int .i64 20, .int .i64 a, .int .i64 b, .int .i64 c, .int .i64 0] := Blk.newAt (by simp)
  have HB : Hid (Below w.heap.size w ((w.alloc (.cells #[.slice ba bs.length bc] 24)).alloc (.cells #[.int .i64 20, .int .i64 a, .int .i64 b, .int .i64 c, .int .i64 0] 63))) := hid (by exact blBy)
  generalize ((w.alloc (.cells #[.slice ba bs.length bc] 24)).alloc (.cells #[.int .i64 20, .int .i64 a, .int .i64 b, .int .i64 c, .int .i64 0] 63)) = V at *
  have xx := Bx.cellF
  have zx := Bx.lt
  have xp := Bp.cellF
  have zp := Bp.lt
  go_wp2_with (first | (go_at_call 49; refine (HA.out _).mono ?_; rintro e w1 ⟨rfl, rfl⟩) | (go_at_call 32; refine (H1.out _).mono ?_; rintro e w1 ⟨rfl, hbx⟩; replace HB := hid (below_trans HB.out hbx); replace Bx := Bx.kept hbx; replace Bp := Bp.kept hbx; clear xx zx xp zp hbx; have xx := Bx.cellF; have zx := Bx.lt; have xp := Bp.cellF; have zp := Bp.lt) | (go_at_call 55; refine (H2.out _).mono ?_; rintro e w1 ⟨rfl, rfl⟩) | (go_at_call 56; refine (H3.out _ HB.out).mono ?_; rintro e w1 ⟨rfl, hbx⟩; replace HB := hid (below_trans HB.out hbx); replace Bx := Bx.kept hbx; replace Bp := Bp.kept hbx; clear xx zx xp zp hbx; have xx := Bx.cellF; have zx := Bx.lt; have xp := Bp.cellF; have zp := Bp.lt))
  go_ret
  exact ⟨rfl, HB.out⟩
theorem nuR_21 (w : World) (bs : List BV) (ba : Option Addr) (bc : Nat) (h : PgR w (.slice ba bs.length bc) bs) (a b c d : Int) (hia : a ≤ 9223372036854775807) : Calls Tryz.prog 31 #[.agg #[.slice ba bs.length bc], .agg #[.int .i64 21, .int .i64 a, .int .i64 b, .int .i64 c, .int .i64 d]] w (BoA w (nuI bs ⟨21, a, b, c, d⟩)) := by
  have HA : Hid (∀ W, Calls Tryz.prog 49 #[.int .i64 21] W fun e w' => e = .returned (.int .i64 2) ∧ w' = W) := hid fun W => arityR 21 W
  have HX : Hid (nuI bs ⟨21, a, b, c, d⟩ = (decide (d = 0) && (decide (c = 0) && (tgI a && (knum b))))) := hid (by first | rfl | (unfold nuI; simp))
  generalize nuI bs ⟨21, a, b, c, d⟩ = v at *
  by_cases zd : d = 0
  case neg =>
    have qd : (d != 0) = true := by simpa using zd
    obtain rfl : v = false := by rw [HX.out]; simp [zd]
    clear HX zd
    clear h
    go_enter Tryz.func31, Tryz.ntmps31
    go_wp2_with fail
    have Bp : Blk ((w.alloc (.cells #[.slice ba bs.length bc] 24)).alloc (.cells #[.int .i64 21, .int .i64 a, .int .i64 b, .int .i64 c, .int .i64 d] 63)) w.heap.size 24 #[.slice ba bs.length bc] := (Blk.new _ _ _).kept (below_alloc _)
    have Bx : Blk ((w.alloc (.cells #[.slice ba bs.length bc] 24)).alloc (.cells #[.int .i64 21, .int .i64 a, .int .i64 b, .int .i64 c, .int .i64 d] 63)) (w.heap.size + 1) 63 #[.int .i64 21, .int .i64 a, .int .i64 b, .int .i64 c, .int .i64 d] := Blk.newAt (by simp)
    have HB : Hid (Below w.heap.size w ((w.alloc (.cells #[.slice ba bs.length bc] 24)).alloc (.cells #[.int .i64 21, .int .i64 a, .int .i64 b, .int .i64 c, .int .i64 d] 63))) := hid (by exact blBy)
    generalize ((w.alloc (.cells #[.slice ba bs.length bc] 24)).alloc (.cells #[.int .i64 21, .int .i64 a, .int .i64 b, .int .i64 c, .int .i64 d] 63)) = V at *
    have xx := Bx.cellF
    have zx := Bx.lt
    have xp := Bp.cellF
    have zp := Bp.lt
    go_wp2_with (first | (go_at_call 49; refine (HA.out _).mono ?_; rintro e w1 ⟨rfl, rfl⟩))
    go_ret
    exact ⟨rfl, HB.out⟩
  subst zd
  by_cases zc : c = 0
  case neg =>
    have qc : (c != 0) = true := by simpa using zc
    obtain rfl : v = false := by rw [HX.out]; simp [zc]
    clear HX zc
    clear h
    go_enter Tryz.func31, Tryz.ntmps31
    go_wp2_with fail
    have Bp : Blk ((w.alloc (.cells #[.slice ba bs.length bc] 24)).alloc (.cells #[.int .i64 21, .int .i64 a, .int .i64 b, .int .i64 c, .int .i64 0] 63)) w.heap.size 24 #[.slice ba bs.length bc] := (Blk.new _ _ _).kept (below_alloc _)
    have Bx : Blk ((w.alloc (.cells #[.slice ba bs.length bc] 24)).alloc (.cells #[.int .i64 21, .int .i64 a, .int .i64 b, .int .i64 c, .int .i64 0] 63)) (w.heap.size + 1) 63 #[.int .i64 21, .int .i64 a, .int .i64 b, .int .i64 c, .int .i64 0] := Blk.newAt (by simp)
    have HB : Hid (Below w.heap.size w ((w.alloc (.cells #[.slice ba bs.length bc] 24)).alloc (.cells #[.int .i64 21, .int .i64 a, .int .i64 b, .int .i64 c, .int .i64 0] 63))) := hid (by exact blBy)
    generalize ((w.alloc (.cells #[.slice ba bs.length bc] 24)).alloc (.cells #[.int .i64 21, .int .i64 a, .int .i64 b, .int .i64 c, .int .i64 0] 63)) = V at *
    have xx := Bx.cellF
    have zx := Bx.lt
    have xp := Bp.cellF
    have zp := Bp.lt
    go_wp2_with (first | (go_at_call 49; refine (HA.out _).mono ?_; rintro e w1 ⟨rfl, rfl⟩))
    go_ret
    exact ⟨rfl, HB.out⟩
  subst zc
  have H2 := hid (fun W => isTagR W a hia)
  cases s2 : tgI a with
  | false =>
    rw [s2] at H2
    obtain rfl : v = false := by rw [HX.out]; simp [s2]
    clear HX s2
    clear h
    go_enter Tryz.func31, Tryz.ntmps31
    go_wp2_with fail
    have Bp : Blk ((w.alloc (.cells #[.slice ba bs.length bc] 24)).alloc (.cells #[.int .i64 21, .int .i64 a, .int .i64 b, .int .i64 0, .int .i64 0] 63)) w.heap.size 24 #[.slice ba bs.length bc] := (Blk.new _ _ _).kept (below_alloc _)
    have Bx : Blk ((w.alloc (.cells #[.slice ba bs.length bc] 24)).alloc (.cells #[.int .i64 21, .int .i64 a, .int .i64 b, .int .i64 0, .int .i64 0] 63)) (w.heap.size + 1) 63 #[.int .i64 21, .int .i64 a, .int .i64 b, .int .i64 0, .int .i64 0] := Blk.newAt (by simp)
    have HB : Hid (Below w.heap.size w ((w.alloc (.cells #[.slice ba bs.length bc] 24)).alloc (.cells #[.int .i64 21, .int .i64 a, .int .i64 b, .int .i64 0, .int .i64 0] 63))) := hid (by exact blBy)
    generalize ((w.alloc (.cells #[.slice ba bs.length bc] 24)).alloc (.cells #[.int .i64 21, .int .i64 a, .int .i64 b, .int .i64 0, .int .i64 0] 63)) = V at *
    have xx := Bx.cellF
    have zx := Bx.lt
    have xp := Bp.cellF
    have zp := Bp.lt
    go_wp2_with (first | (go_at_call 49; refine (HA.out _).mono ?_; rintro e w1 ⟨rfl, rfl⟩) | (go_at_call 32; refine (H2.out _).mono ?_; rintro e w1 ⟨rfl, hbx⟩; replace HB := hid (below_trans HB.out hbx); replace Bx := Bx.kept hbx; replace Bp := Bp.kept hbx; clear xx zx xp zp hbx; have xx := Bx.cellF; have zx := Bx.lt; have xp := Bp.cellF; have zp := Bp.lt))
    go_ret
    exact ⟨rfl, HB.out⟩
  | true =>
  rw [s2] at H2
  replace HX := hid (by have := HX.out; rw [s2] at this; exact this)
  clear s2
  have H3 := hid (fun W => numericR b W)
  cases s3 : knum b with
  | false =>
    rw [s3] at H3
    obtain rfl : v = false := by rw [HX.out]; simp [s3]
    clear HX s3
    clear h
    go_enter Tryz.func31, Tryz.ntmps31
    go_wp2_with fail
    have Bp : Blk ((w.alloc (.cells #[.slice ba bs.length bc] 24)).alloc (.cells #[.int .i64 21, .int .i64 a, .int .i64 b, .int .i64 0, .int .i64 0] 63)) w.heap.size 24 #[.slice ba bs.length bc] := (Blk.new _ _ _).kept (below_alloc _)
    have Bx : Blk ((w.alloc (.cells #[.slice ba bs.length bc] 24)).alloc (.cells #[.int .i64 21, .int .i64 a, .int .i64 b, .int .i64 0, .int .i64 0] 63)) (w.heap.size + 1) 63 #[.int .i64 21, .int .i64 a, .int .i64 b, .int .i64 0, .int .i64 0] := Blk.newAt (by simp)
    have HB : Hid (Below w.heap.size w ((w.alloc (.cells #[.slice ba bs.length bc] 24)).alloc (.cells #[.int .i64 21, .int .i64 a, .int .i64 b, .int .i64 0, .int .i64 0] 63))) := hid (by exact blBy)
    generalize ((w.alloc (.cells #[.slice ba bs.length bc] 24)).alloc (.cells #[.int .i64 21, .int .i64 a, .int .i64 b, .int .i64 0, .int .i64 0] 63)) = V at *
    have xx := Bx.cellF
    have zx := Bx.lt
    have xp := Bp.cellF
    have zp := Bp.lt
    go_wp2_with (first | (go_at_call 49; refine (HA.out _).mono ?_; rintro e w1 ⟨rfl, rfl⟩) | (go_at_call 32; refine (H2.out _).mono ?_; rintro e w1 ⟨rfl, hbx⟩; replace HB := hid (below_trans HB.out hbx); replace Bx := Bx.kept hbx; replace Bp := Bp.kept hbx; clear xx zx xp zp hbx; have xx := Bx.cellF; have zx := Bx.lt; have xp := Bp.cellF; have zp := Bp.lt) | (go_at_call 53; refine (H3.out _).mono ?_; rintro e w1 ⟨rfl, rfl⟩))
    go_ret
    exact ⟨rfl, HB.out⟩
  | true =>
  rw [s3] at H3
  replace HX := hid (by have := HX.out; rw [s3] at this; exact this)
  clear s3
  obtain rfl : v = true := by have := HX.out; simpa using this
  clear HX
  clear h
  go_enter Tryz.func31, Tryz.ntmps31
  go_wp2_with fail
  have Bp : Blk ((w.alloc (.cells #[.slice ba bs.length bc] 24)).alloc (.cells #[.int .i64 21, .int .i64 a, .int .i64 b, .int .i64 0, .int .i64 0] 63)) w.heap.size 24 #[.slice ba bs.length bc] := (Blk.new _ _ _).kept (below_alloc _)
  have Bx : Blk ((w.alloc (.cells #[.slice ba bs.length bc] 24)).alloc (.cells #[.int .i64 21, .int .i64 a, .int .i64 b, .int .i64 0, .int .i64 0] 63)) (w.heap.size + 1) 63 #[.int .i64 21, .int .i64 a, .int .i64 b, .int .i64 0, .int .i64 0] := Blk.newAt (by simp)
  have HB : Hid (Below w.heap.size w ((w.alloc (.cells #[.slice ba bs.length bc] 24)).alloc (.cells #[.int .i64 21, .int .i64 a, .int .i64 b, .int .i64 0, .int .i64 0] 63))) := hid (by exact blBy)
  generalize ((w.alloc (.cells #[.slice ba bs.length bc] 24)).alloc (.cells #[.int .i64 21, .int .i64 a, .int .i64 b, .int .i64 0, .int .i64 0] 63)) = V at *
  have xx := Bx.cellF
  have zx := Bx.lt
  have xp := Bp.cellF
  have zp := Bp.lt
  go_wp2_with (first | (go_at_call 49; refine (HA.out _).mono ?_; rintro e w1 ⟨rfl, rfl⟩) | (go_at_call 32; refine (H2.out _).mono ?_; rintro e w1 ⟨rfl, hbx⟩; replace HB := hid (below_trans HB.out hbx); replace Bx := Bx.kept hbx; replace Bp := Bp.kept hbx; clear xx zx xp zp hbx; have xx := Bx.cellF; have zx := Bx.lt; have xp := Bp.cellF; have zp := Bp.lt) | (go_at_call 53; refine (H3.out _).mono ?_; rintro e w1 ⟨rfl, rfl⟩))
  go_ret
  exact ⟨rfl, HB.out⟩
end Go.Proofs.YtdhkbdngmejklaaGreatDoor
