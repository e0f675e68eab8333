/-
  The document's: are an operation's numbers what they may be? (a part)
-/
import Derived.Test.YtdhkbdngmejklaaGreatDoorCVP2
namespace Go.Proofs.YtdhkbdngmejklaaGreatDoor
open Go.RowKit
set_option maxRecDepth 1000000
set_option linter.unusedVariables false
set_option linter.unusedSimpArgs false
set_option maxHeartbeats 4000000
theorem nuR_7 (w : World) (bs : List BV) (ba : Option Addr) (bc : Nat) (h : PgR w (.slice ba bs.length bc) bs) (a b c d : Int) (hia : a ≤ 9223372036854775807) : Calls Tryz.prog 31 #[.agg #[.slice ba bs.length bc], .agg #[.int .i64 7, .int .i64 a, .int .i64 b, .int .i64 c, .int .i64 d]] w (BoA w (nuI bs ⟨7, a, b, c, d⟩)) := by
  have HA : Hid (∀ W, Calls Tryz.prog 49 #[.int .i64 7] W fun e w' => e = .returned (.int .i64 1) ∧ w' = W) := hid fun W => arityR 7 W
  have HX : Hid (nuI bs ⟨7, a, b, c, d⟩ = (decide (d = 0) && (decide (c = 0) && (decide (b = 0) && (fdI a))))) := hid (by first | rfl | (unfold nuI; simp))
  generalize nuI bs ⟨7, a, b, c, d⟩ = v at *
  by_cases zd : d = 0
  case neg =>
    have qd : (d != 0) = true := by simpa using zd
    obtain rfl : v = false := by rw [HX.out]; simp [zd]
    clear HX zd
    clear h
    go_enter Tryz.func31, Tryz.ntmps31
    go_wp2_with fail
    have Bp : Blk ((w.alloc (.cells #[.slice ba bs.length bc] 24)).alloc (.cells #[.int .i64 7, .int .i64 a, .int .i64 b, .int .i64 c, .int .i64 d] 63)) w.heap.size 24 #[.slice ba bs.length bc] := (Blk.new _ _ _).kept (below_alloc _)
    have Bx : Blk ((w.alloc (.cells #[.slice ba bs.length bc] 24)).alloc (.cells #[.int .i64 7, .int .i64 a, .int .i64 b, .int .i64 c, .int .i64 d] 63)) (w.heap.size + 1) 63 #[.int .i64 7, .int .i64 a, .int .i64 b, .int .i64 c, .int .i64 d] := Blk.newAt (by simp)
    have HB : Hid (Below w.heap.size w ((w.alloc (.cells #[.slice ba bs.length bc] 24)).alloc (.cells #[.int .i64 7, .int .i64 a, .int .i64 b, .int .i64 c, .int .i64 d] 63))) := hid (by exact blBy)
    generalize ((w.alloc (.cells #[.slice ba bs.length bc] 24)).alloc (.cells #[.int .i64 7, .int .i64 a, .int .i64 b, .int .i64 c, .int .i64 d] 63)) = V at *
    have xx := Bx.cellF
    have zx := Bx.lt
    have xp := Bp.cellF
    have zp := Bp.lt
    go_wp2_with (first | (go_at_call 49; refine (HA.out _).mono ?_; rintro e w1 ⟨rfl, rfl⟩))
    go_ret
    exact ⟨rfl, HB.out⟩
  subst zd
  by_cases zc : c = 0
  case neg =>
    have qc : (c != 0) = true := by simpa using zc
    obtain rfl : v = false := by rw [HX.out]; simp [zc]
    clear HX zc
    clear h
    go_enter Tryz.func31, Tryz.ntmps31
    go_wp2_with fail
    have Bp : Blk ((w.alloc (.cells #[.slice ba bs.length bc] 24)).alloc (.cells #[.int .i64 7, .int .i64 a, .int .i64 b, .int .i64 c, .int .i64 0] 63)) w.heap.size 24 #[.slice ba bs.length bc] := (Blk.new _ _ _).kept (below_alloc _)
    have Bx : Blk ((w.alloc (.cells #[.slice ba bs.length bc] 24)).alloc (.cells #[.int .i64 7, .int .i64 a, .int .i64 b, .int .i64 c, .int .i64 0] 63)) (w.heap.size + 1) 63 #[.int .i64 7, .int .i64 a, .int .i64 b, .int .i64 c, .int .i64 0] := Blk.newAt (by simp)
    have HB : Hid (Below w.heap.size w ((w.alloc (.cells #[.slice ba bs.length bc] 24)).alloc (.cells #[.int .i64 7, .int .i64 a, .int .i64 b, .int .i64 c, .int .i64 0] 63))) := hid (by exact blBy)
    generalize ((w.alloc (.cells #[.slice ba bs.length bc] 24)).alloc (.cells #[.int .i64 7, .int .i64 a, .int .i64 b, .int .i64 c, .int .i64 0] 63)) = V at *
    have xx := Bx.cellF
    have zx := Bx.lt
    have xp := Bp.cellF
    have zp := Bp.lt
    go_wp2_with (first | (go_at_call 49; refine (HA.out _).mono ?_; rintro e w1 ⟨rfl, rfl⟩))
    go_ret
    exact ⟨rfl, HB.out⟩
  subst zc
  by_cases zb : b = 0
  case neg =>
    have qb : (b != 0) = true := by simpa using zb
    obtain rfl : v = false := by rw [HX.out]; simp [zb]
    clear HX zb
    clear h
    go_enter Tryz.func31, Tryz.ntmps31
    go_wp2_with fail
    have Bp : Blk ((w.alloc (.cells #[.slice ba bs.length bc] 24)).alloc (.cells #[.int .i64 7, .int .i64 a, .int .i64 b, .int .i64 0, .int .i64 0] 63)) w.heap.size 24 #[.slice ba bs.length bc] := (Blk.new _ _ _).kept (below_alloc _)
    have Bx : Blk ((w.alloc (.cells #[.slice ba bs.length bc] 24)).alloc (.cells #[.int .i64 7, .int .i64 a, .int .i64 b, .int .i64 0, .int .i64 0] 63)) (w.heap.size + 1) 63 #[.int .i64 7, .int .i64 a, .int .i64 b, .int .i64 0, .int .i64 0] := Blk.newAt (by simp)
    have HB : Hid (Below w.heap.size w ((w.alloc (.cells #[.slice ba bs.length bc] 24)).alloc (.cells #[.int .i64 7, .int .i64 a, .int .i64 b, .int .i64 0, .int .i64 0] 63))) := hid (by exact blBy)
    generalize ((w.alloc (.cells #[.slice ba bs.length bc] 24)).alloc (.cells #[.int .i64 7, .int .i64 a, .int .i64 b, .int .i64 0, .int .i64 0] 63)) = V at *
    have xx := Bx.cellF
    have zx := Bx.lt
    have xp := Bp.cellF
    have zp := Bp.lt
    go_wp2_with (first | (go_at_call 49; refine (HA.out _).mono ?_; rintro e w1 ⟨rfl, rfl⟩))
    go_ret
    exact ⟨rfl, HB.out⟩
  subst zb
  have H3 := hid (fun W => isFieldR W a)
  cases s3 : fdI a with
  | false =>
    rw [s3] at H3
    obtain rfl : v = false := by rw [HX.out]; simp [s3]
    clear HX s3
    clear h
    go_enter Tryz.func31, Tryz.ntmps31
    go_wp2_with fail
    have Bp : Blk ((w.alloc (.cells #[.slice ba bs.length bc] 24)).alloc (.cells #[.int .i64 7, .int .i64 a, .int .i64 0, .int .i64 0, .int .i64 0] 63)) w.heap.size 24 #[.slice ba bs.length bc] := (Blk.new _ _ _).kept (below_alloc _)
    have Bx : Blk ((w.alloc (.cells #[.slice ba bs.length bc] 24)).alloc (.cells #[.int .i64 7, .int .i64 a, .int .i64 0, .int .i64 0, .int .i64 0] 63)) (w.heap.size + 1) 63 #[.int .i64 7, .int .i64 a, .int .i64 0, .int .i64 0, .int .i64 0] := Blk.newAt (by simp)
    have HB : Hid (Below w.heap.size w ((w.alloc (.cells #[.slice ba bs.length bc] 24)).alloc (.cells #[.int .i64 7, .int .i64 a, .int .i64 0, .int .i64 0, .int .i64 0] 63))) := hid (by exact blBy)
    generalize ((w.alloc (.cells #[.slice ba bs.length bc] 24)).alloc (.cells #[.int .i64 7, .int .i64 a, .int .i64 0, .int .i64 0, .int .i64 0] 63)) = V at *
    have xx := Bx.cellF
    have zx := Bx.lt
    have xp := Bp.cellF
    have zp := Bp.lt
    go_wp2_with (first | (go_at_call 49; refine (HA.out _).mono ?_; rintro e w1 ⟨rfl, rfl⟩) | (go_at_call 52; refine (H3.out _).mono ?_; rintro e w1 ⟨rfl, rfl⟩))
    go_ret
    exact ⟨rfl, HB.out⟩
  | true =>
  rw [s3] at H3
  replace HX := hid (by have := HX.out; rw [s3] at this; exact this)
  clear s3
  obtain rfl : v = true := by have := HX.out; simpa using this
  clear HX
  clear h
  go_enter Tryz.func31, Tryz.ntmps31
  go_wp2_with fail
  have Bp : Blk ((w.alloc (.cells #[.slice ba bs.length bc] 24)).alloc (.cells #[.int .i64 7, .int .i64 a, .int .i64 0, .int .i64 0, .int .i64 0] 63)) w.heap.size 24 #[.slice ba bs.length bc] := (Blk.new _ _ _).kept (below_alloc _)
  have Bx : Blk ((w.alloc (.cells #[.slice ba bs.length bc] 24)).alloc (.cells #[.int .i64 7, .int .i64 a, .int .i64 0, .int .i64 0, .int .i64 0] 63)) (w.heap.size + 1) 63 #[.int .i64 7, .int .i64 a, .int .i64 0, .int .i64 0, .int .i64 0] := Blk.newAt (by simp)
  have HB : Hid (Below w.heap.size w ((w.alloc (.cells #[.slice ba bs.length bc] 24)).alloc (.cells #[.int .i64 7, .int .i64 a, .int .i64 0, .int .i64 0, .int .i64 0] 63))) := hid (by exact blBy)
  generalize ((w.alloc (.cells #[.slice ba bs.length bc] 24)).alloc (.cells #[.int .i64 7, .int .i64 a, .int .i64 0, .int .i64 0, .int .i64 0] 63)) = V at *
  have xx := Bx.cellF
  have zx := Bx.lt
  have xp := Bp.cellF
  have zp := Bp.lt
  go_wp2_with (first | (go_at_call 49; refine (HA.out _).mono ?_; rintro e w1 ⟨rfl, rfl⟩) | (go_at_call 52; refine (H3.out _).mono ?_; rintro e w1 ⟨rfl, rfl⟩))
  go_ret
  exact ⟨rfl, HB.out⟩
theorem nuR_8 (w : World) (bs : List BV) (ba : Option Addr) (bc : Nat) (h : PgR w (.slice ba bs.length bc) bs) (a b c d : Int) (hia : a ≤ 9223372036854775807) : Calls Tryz.prog 31 #[.agg #[.slice ba bs.length bc], .agg #[.int .i64 8, .int .i64 a, .int .i64 b, .int .i64 c, .int .i64 d]] w (BoA w (nuI bs ⟨8, a, b, c, d⟩)) := by
  have HA : Hid (∀ W, Calls Tryz.prog 49 #[.int .i64 8] W fun e w' => e = .returned (.int .i64 1) ∧ w' = W) := hid fun W => arityR 8 W
  have HX : Hid (nuI bs ⟨8, a, b, c, d⟩ = (decide (d = 0) && (decide (c = 0) && (decide (b = 0) && (fdI a))))) := hid (by first | rfl | (unfold nuI; simp))
  generalize nuI bs ⟨8, a, b, c, d⟩ = v at *
  by_cases zd : d = 0
  case neg =>
    have qd : (d != 0) = true := by simpa using zd
    obtain rfl : v = false := by rw [HX.out]; simp [zd]
    clear HX zd
    clear h
    go_enter Tryz.func31, Tryz.ntmps31
    go_wp2_with fail
    have Bp : Blk ((w.alloc (.cells #[.slice ba bs.length bc] 24)).alloc (.cells #[.int .i64 8, .int .i64 a, .int .i64 b, .int .i64 c, .int .i64 d] 63)) w.heap.size 24 #[.slice ba bs.length bc] := (Blk.new _ _ _).kept (below_alloc _)
    have Bx : Blk ((w.alloc (.cells #[.slice ba bs.length bc] 24)).alloc (.cells #[.int .i64 8, .int .i64 a, .int .i64 b, .int .i64 c, .int .i64 d] 63)) (w.heap.size + 1) 63 #[.int .i64 8, .int .i64 a, .int .i64 b, .int .i64 c, .int .i64 d] := Blk.newAt (by simp)
    have HB : Hid (Below w.heap.size w ((w.alloc (.cells #[.slice ba bs.length bc] 24)).alloc (.cells #[.int .i64 8, .int .i64 a, .int .i64 b, .int .i64 c, .int .i64 d] 63))) := hid (by exact blBy)
    generalize ((w.alloc (.cells #[.slice ba bs.length bc] 24)).alloc (.cells #[.int .i64 8, .int .i64 a, .int .i64 b, .int .i64 c, .int .i64 d] 63)) = V at *
    have xx := Bx.cellF
    have zx := Bx.lt
    have xp := Bp.cellF
    have zp := Bp.lt
    go_wp2_with (first | (go_at_call 49; refine (HA.out _).mono ?_; rintro e w1 ⟨rfl, rfl⟩))
    go_ret
    exact ⟨rfl, HB.out⟩
  subst zd
  by_cases zc : c = 0
  case neg =>
    have qc : (c != 0) = true := by simpa using zc
    obtain rfl : v = false := by rw [HX.out]; simp [zc]
    clear HX zc
    clear h
    go_enter Tryz.func31, Tryz.ntmps31
    go_wp2_with fail
    have Bp : Blk ((w.alloc (.cells #[.slice ba bs.length bc] 24)).alloc (.cells #[.int .i64 8, .int .i64 a, .int .i64 b, .int .i64 c, .int .i64 0] 63)) w.heap.size 24 #[.slice ba bs.length bc] := (Blk.new _ _ _).kept (below_alloc _)
    have Bx : Blk ((w.alloc (.cells #[.slice ba bs.length bc] 24)).alloc (.cells #[.int .i64 8, .int .i64 a, .int .i64 b, .int .i64 c, .int .i64 0] 63)) (w.heap.size + 1) 63 #[.int .i64 8, .int .i64 a, .int .i64 b, .int .i64 c, .int .i64 0] := Blk.newAt (by simp)
    have HB : Hid (Below w.heap.size w ((w.alloc (.cells #[.slice ba bs.length bc] 24)).alloc (.cells #[.int .i64 8, .int .i64 a, .int .i64 b, .int .i64 c, .int .i64 0] 63))) := hid (by exact blBy)
    generalize ((w.alloc (.cells #[.slice ba bs.length bc] 24)).alloc (.cells #[.int .i64 8, .int .i64 a, .int .i64 b, .int .i64 c, .int .i64 0] 63)) = V at *
    have xx := Bx.cellF
    have zx := Bx.lt
    have xp := Bp.cellF
    have zp := Bp.lt
    go_wp2_with (first | (go_at_call 49; refine (HA.out _).mono ?_; rintro e w1 ⟨rfl, rfl⟩))
    go_ret
    exact ⟨rfl, HB.out⟩
  subst zc
  by_cases zb : b = 0
  case neg =>
    have qb : (b != 0) = true := by simpa using zb
    obtain rfl : v = false := by rw [HX.out]; simp [zb]
    clear HX zb
    clear h
    go_enter Tryz.func31, Tryz.ntmps31
    go_wp2_with fail
    have Bp : Blk ((w.alloc (.cells #[.slice ba bs.length bc] 24)).alloc (.cells #[.int .i64 8, .int .i64 a, .int .i64 b, .int .i64 0, .int .i64 0] 63)) w.heap.size 24 #[.slice ba bs.length bc] := (Blk.new _ _ _).kept (below_alloc _)
    have Bx : Blk ((w.alloc (.cells #[.slice ba bs.length bc] 24)).alloc (.cells #[.int .i64 8, .int .i64 a, .int .i64 b, .int .i64 0, .int .i64 0] 63)) (w.heap.size + 1) 63 #[.int .i64 8, .int .i64 a, .int .i64 b, .int .i64 0, .int .i64 0] := Blk.newAt (by simp)
    have HB : Hid (Below w.heap.size w ((w.alloc (.cells #[.slice ba bs.length bc] 24)).alloc (.cells #[.int .i64 8, .int .i64 a, .int .i64 b, .int .i64 0, .int .i64 0] 63))) := hid (by exact blBy)
    generalize ((w.alloc (.cells #[.slice ba bs.length bc] 24)).alloc (.cells #[.int .i64 8, .int .i64 a, .int .i64 b, .int .i64 0, .int .i64 0] 63)) = V at *
    have xx := Bx.cellF
    have zx := Bx.lt
    have xp := Bp.cellF
    have zp := Bp.lt
    go_wp2_with (first | (go_at_call 49; refine (HA.out _).mono ?_; rintro e w1 ⟨rfl, rfl⟩))
    go_ret
    exact ⟨rfl, HB.out⟩
  subst zb
  have H3 := hid (fun W => isFieldR W a)
  cases s3 : fdI a with
  | false =>
    rw [s3] at H3
    obtain rfl : v = false := by rw [HX.out]; simp [s3]
    clear HX s3
    clear h
    go_enter Tryz.func31, Tryz.ntmps31
    go_wp2_with fail
    have Bp : Blk ((w.alloc (.cells #[.slice ba bs.length bc] 24)).alloc (.cells #[.int .i64 8, .int .i64 a, .int .i64 0, .int .i64 0, .int .i64 0] 63)) w.heap.size 24 #[.slice ba bs.length bc] := (Blk.new _ _ _).kept (below_alloc _)
    have Bx : Blk ((w.alloc (.cells #[.slice ba bs.length bc] 24)).alloc (.cells #[.int .i64 8, .int .i64 a, .int .i64 0, .int .i64 0, .int .i64 0] 63)) (w.heap.size + 1) 63 #[.int .i64 8, .int .i64 a, .int .i64 0, .int .i64 0, .int .i64 0] := Blk.newAt (by simp)
    have HB : Hid (Below w.heap.size w ((w.alloc (.cells #[.slice ba bs.length bc] 24)).alloc (.cells #[.int .i64 8, .int .i64 a, .int .i64 0, .int .i64 0, .int .i64 0] 63))) := hid (by exact blBy)
    generalize ((w.alloc (.cells #[.slice ba bs.length bc] 24)).alloc (.cells #[.int .i64 8, .int .i64 a, .int .i64 0, .int .i64 0, .int .i64 0] 63)) = V at *
    have xx := Bx.cellF
    have zx := Bx.lt
    have xp := Bp.cellF
    have zp := Bp.lt
    go_wp2_with (first | (go_at_call 49; refine (HA.out _).mono ?_; rintro e w1 ⟨rfl, rfl⟩) | (go_at_call 52; refine (H3.out _).mono ?_; rintro e w1 ⟨rfl, rfl⟩))
    go_ret
    exact ⟨rfl, HB.out⟩
  | true =>
  rw [s3] at H3
  replace HX := hid (by have := HX.out; rw [s3] at this; exact this)
  clear s3
  obtain rfl : v = true := by have := HX.out; simpa using this
  clear HX
  clear h
  go_enter Tryz.func31, Tryz.ntmps31
  go_wp2_with fail
  have Bp : Blk ((w.alloc (.cells #[.slice ba bs.length bc] 24)).alloc (.cells #[.int .i64 8, .int .i64 a, .int .i64 0, .int .i64 0, .int .i64 0] 63)) w.heap.size 24 #[.slice ba bs.length bc] := (Blk.new _ _ _).kept (below_alloc _)
  have Bx : Blk ((w.alloc (.cells #[.slice ba bs.length bc] 24)).alloc (.cells #[.int .i64 8, .int .i64 a, .int .i64 0, .int .i64 0, .int .i64 0] 63)) (w.heap.size + 1) 63 #[.int .i64 8, .int .i64 a, .int .i64 0, .int .i64 0, .int .i64 0] := Blk.newAt (by simp)
  have HB : Hid (Below w.heap.size w ((w.alloc (.cells #[.slice ba bs.length bc] 24)).alloc (.cells #[.int .i64 8, .int .i64 a, .int .i64 0, .int .i64 0, .int .i64 0] 63))) := hid (by exact blBy)
  generalize ((w.alloc (.cells #[.slice ba bs.length bc] 24)).alloc (.cells #[.int .i64 8, .int .i64 a, .int .i64 0, .int .i64 0, .int .i64 0] 63)) = V at *
  have xx := Bx.cellF
  have zx := Bx.lt
  have xp := Bp.cellF
  have zp := Bp.lt
  go_wp2_with (first | (go_at_call 49; refine (HA.out _).mono ?_; rintro e w1 ⟨rfl, rfl⟩) | (go_at_call 52; refine (H3.out _).mono ?_; rintro e w1 ⟨rfl, rfl⟩))
  go_ret
  exact ⟨rfl, HB.out⟩
theorem nuR_9 (w : World) (bs : List BV) (ba : Option Addr) (bc : Nat) (h : PgR w (.slice ba bs.length bc) bs) (a b c d : Int) (hia : a ≤ 9223372036854775807) : Calls Tryz.prog 31 #[.agg #[.slice ba bs.length bc], .agg #[.int .i64 9, .int .i64 a, .int .i64 b, .int .i64 c, .int .i64 d]] w (BoA w (nuI bs ⟨9, a, b, c, d⟩)) := by
  have HA : Hid (∀ W, Calls Tryz.prog 49 #[.int .i64 9] W fun e w' => e = .returned (.int .i64 1) ∧ w' = W) := hid fun W => arityR 9 W
  have HX : Hid (nuI bs ⟨9, a, b, c, d⟩ = (decide (d = 0) && (decide (c = 0) && (decide (b = 0) && (fdI a))))) := hid (by first | rfl | (unfold nuI; simp))
  generalize nuI bs ⟨9, a, b, c, d⟩ = v at *
  by_cases zd : d = 0
  case neg =>
    have qd : (d != 0) = true := by simpa using zd
    obtain rfl : v = false := by rw [HX.out]; simp [zd]
    clear HX zd
    clear h
    go_enter Tryz.func31, Tryz.ntmps31
    go_wp2_with fail
    have Bp : Blk ((w.alloc (.cells #[.slice ba bs.length bc] 24)).alloc (.cells #[.int .i64 9, .int .i64 a, .int .i64 b, .int .i64 c, .int .i64 d] 63)) w.heap.size 24 #[.slice ba bs.length bc] := (Blk.new _ _ _).kept (below_alloc _)
    have Bx : Blk ((w.alloc (.cells #[.slice ba bs.length bc] 24)).alloc (.cells #[.int .i64 9, .int .i64 a, .int .i64 b, .int .i64 c, .int .i64 d] 63)) (w.heap.size + 1) 63 #[.int .i64 9, .int .i64 a, .int .i64 b, .int .i64 c, .int .i64 d] := Blk.newAt (by simp)
    have HB : Hid (Below w.heap.size w ((w.alloc (.cells #[.slice ba bs.length bc] 24)).alloc (.cells #[.int .i64 9, .int .i64 a, .int .i64 b, .int .i64 c, .int .i64 d] 63))) := hid (by exact blBy)
    generalize ((w.alloc (.cells #[.slice ba bs.length bc] 24)).alloc (.cells #[.int .i64 9, .int .i64 a, .int .i64 b, .int .i64 c, .int .i64 d] 63)) = V at *
    have xx := Bx.cellF
    have zx := Bx.lt
    have xp := Bp.cellF
    have zp := Bp.lt
    go_wp2_with (first | (go_at_call 49; refine (HA.out _).mono ?_; rintro e w1 ⟨rfl, rfl⟩))
    go_ret
    exact ⟨rfl, HB.out⟩
  subst zd
  by_cases zc : c = 0
  case neg =>
    have qc : (c != 0) = true := by simpa using zc
    obtain rfl : v = false := by rw [HX.out]; simp [zc]
    clear HX zc
    clear h
    go_enter Tryz.func31, Tryz.ntmps31
    go_wp2_with fail
    have Bp : Blk ((w.alloc (.cells #[.slice ba bs.length bc] 24)).alloc (.cells #[.int .i64 9, .int .i64 a, .int .i64 b, .int .i64 c, .int .i64 0] 63)) w.heap.size 24 #[.slice ba bs.length bc] := (Blk.new _ _ _).kept (below_alloc _)
    have Bx : Blk ((w.alloc (.cells #[.slice ba bs.length bc] 24)).alloc (.cells #[.int .i64 9, .int .i64 a, .int .i64 b, .int .i64 c, .int .i64 0] 63)) (w.heap.size + 1) 63 #[.int .i64 9, .int .i64 a, .int .i64 b, .int .i64 c, .int .i64 0] := Blk.newAt (by simp)
    have HB : Hid (Below w.heap.size w ((w.alloc (.cells #[.slice ba bs.length bc] 24)).alloc (.cells #[.int .i64 9, .int .i64 a, .int .i64 b, .int .i64 c, .int .i64 0] 63))) := hid (by exact blBy)
    generalize ((w.alloc (.cells #[.slice ba bs.length bc] 24)).alloc (.cells #[.int .i64 9, .int .i64 a, .int .i64 b, .int .i64 c, .int .i64 0] 63)) = V at *
    have xx := Bx.cellF
    have zx := Bx.lt
    have xp := Bp.cellF
    have zp := Bp.lt
    go_wp2_with (first | (go_at_call 49; refine (HA.out _).mono ?_; rintro e w1 ⟨rfl, rfl⟩))
    go_ret
    exact ⟨rfl, HB.out⟩
  subst zc
  by_cases zb : b = 0
  case neg =>
    have qb : (b != 0) = true := by simpa using zb
    obtain rfl : v = false := by rw [HX.out]; simp [zb]
    clear HX zb
    clear h
    go_enter Tryz.func31, Tryz.ntmps31
    go_wp2_with fail
    have Bp : Blk ((w.alloc (.cells #[.slice ba bs.length bc] 24)).alloc (.cells #[.int .i64 9, .int .i64 a, .int .i64 b, .int .i64 0, .int .i64 0] 63)) w.heap.size 24 #[.slice ba bs.length bc] := (Blk.new _ _ _).kept (below_alloc _)
    have Bx : Blk ((w.alloc (.cells #[.slice ba bs.length bc] 24)).alloc (.cells #[.int .i64 9, .int .i64 a, .int .i64 b, .int .i64 0, .int .i64 0] 63)) (w.heap.size + 1) 63 #[.int .i64 9, .int .i64 a, .int .i64 b, .int .i64 0, .int .i64 0] := Blk.newAt (by simp)
    have HB : Hid (Below w.heap.size w ((w.alloc (.cells #[.slice ba bs.length bc] 24)).alloc (.cells #[.int .i64 9, .int .i64 a, .int .i64 b, .int .i64 0, .int .i64 0] 63))) := hid (by exact blBy)
    generalize ((w.alloc (.cells #[.slice ba bs.length bc] 24)).alloc (.cells #[.int .i64 9, .int .i64 a, .int .i64 b, .int .i64 0, .int .i64 0] 63)) = V at *
    have xx := Bx.cellF
    have zx := Bx.lt
    have xp := Bp.cellF
    have zp := Bp.lt
    go_wp2_with (first | (go_at_call 49; refine (HA.out _).mono ?_; rintro e w1 ⟨rfl, rfl⟩))
    go_ret
    exact ⟨rfl, HB.out⟩
  subst zb
  have H3 := hid (fun W => isFieldR W a)
  cases s3 : fdI a with
  | false =>
    rw [s3] at H3
    obtain rfl : v = false := by rw [HX.out]; simp [s3]
    clear HX s3
    clear h
    go_enter Tryz.func31, Tryz.ntmps31
    go_wp2_with fail
    have Bp : Blk ((w.alloc (.cells #[.slice ba bs.length bc] 24)).alloc (.cells #[.int .i64 9, .int .i64 a, .int .i64 0, .int .i64 0, .int .i64 0] 63)) w.heap.size 24 #[.slice ba bs.length bc] := (Blk.new _ _ _).kept (below_alloc _)
    have Bx : Blk ((w.alloc (.cells #[.slice ba bs.length bc] 24)).alloc (.cells #[.int .i64 9, .int .i64 a, .int .i64 0, .int .i64 0, .int .i64 0] 63)) (w.heap.size + 1) 63 #[.int .i64 9, .int .i64 a, .int .i64 0, .int .i64 0, .int .i64 0] := Blk.newAt (by simp)
    have HB : Hid (Below w.heap.size w ((w.alloc (.cells #[.slice ba bs.length bc] 24)).alloc (.cells #[.int .i64 9, .int .i64 a, .int .i64 0, .int .i64 0, .int .i64 0] 63))) := hid (by exact blBy)
    generalize ((w.alloc (.cells #[.slice ba bs.length bc] 24)).alloc (.cells #[.int .i64 9, .int .i64 a, .int .i64 0, .int .i64 0, .int .i64 0] 63)) = V at *
    have xx := Bx.cellF
    have zx := Bx.lt
    have xp := Bp.cellF
    have zp := Bp.lt
    go_wp2_with (first | (go_at_call 49; refine (HA.out _).mono ?_; rintro e w1 ⟨rfl, rfl⟩) | (go_at_call 52; refine (H3.out _).mono ?_; rintro e w1 ⟨rfl, rfl⟩))
    go_ret
    exact ⟨rfl, HB.out⟩
  | true =>
  rw [s3] at H3
  replace HX := hid (by have := HX.out; rw [s3] at this; exact this)
  clear s3
  obtain rfl : v = true := by have := HX.out; simpa using this
  clear HX
  clear h
  go_enter Tryz.func31, Tryz.ntmps31
  go_wp2_with fail
  have Bp : Blk ((w.alloc (.cells #[.slice ba bs.length bc] 24)).alloc (.cells #[.int .i64 9, .int .i64 a, .int .i64 0, .int .i64 0, .int .i64 0] 63)) w.heap.size 24 #[.slice ba bs.length bc] := (Blk.new _ _ _).kept (below_alloc _)
  have Bx : Blk ((w.alloc (.cells #[.slice ba bs.length bc] 24)).alloc (.cells #[.int .i64 9, .int .i64 a, .int .i64 0, .int .i64 0, .int .i64 0] 63)) (w.heap.size + 1) 63 #[.int .i64 9, .int .i64 a, .int .i64 0, .int .i64 0, .int .i64 0] := Blk.newAt (by simp)
  have HB : Hid (Below w.heap.size w ((w.alloc (.cells #[.slice ba bs.length bc] 24)).alloc (.cells #[.int .i64 9, .int .i64 a, .int .i64 0, .int .i64 0, .int .i64 0] 63))) := hid (by exact blBy)
  generalize ((w.alloc (.cells #[.slice ba bs.length bc] 24)).alloc (.cells #[.int .i64 9, .int .i64 a, .int .i64 0, .int .i64 0, .int .i64 0] 63)) = V at *
  have xx := Bx.cellF
  have zx := Bx.lt
  have xp := Bp.cellF
  have zp := Bp.lt
  go_wp2_with (first | (go_at_call 49; refine (HA.out _).mono ?_; rintro e w1 ⟨rfl, rfl⟩) | (go_at_call 52; refine (H3.out _).mono ?_; rintro e w1 ⟨rfl, rfl⟩))
  go_ret
  exact ⟨rfl, HB.out⟩
theorem nuR_10 (w : World) (bs : List BV) (ba : Option Addr) (bc : Nat) (h : PgR w (.slice ba bs.length bc) bs) (a b c d : Int) (hia : a ≤ 9223372036854775807) : Calls Tryz.prog 31 #[.agg #[.slice ba bs.length bc], .agg #[.int .i64 10, .int .i64 a, .int .i64 b, .int .i64 c, .int .i64 d]] w (BoA w (nuI bs ⟨10, a, b, c, d⟩)) := by
  have HA : Hid (∀ W, Calls Tryz.prog 49 #[.int .i64 10] W fun e w' => e = .returned (.int .i64 3) ∧ w' = W) := hid fun W => arityR 10 W
  have HX : Hid (nuI bs ⟨10, a, b, c, d⟩ = (decide (d = 0) && (fdI a && (msI bs b && (decide (0 ≤ c) && (decide (c ≤ 2))))))) := hid (by first | rfl | (unfold nuI; simp))
  generalize nuI bs ⟨10, a, b, c, d⟩ = v at *
  by_cases zd : d = 0
  case neg =>
    have qd : (d != 0) = true := by simpa using zd
    obtain rfl : v = false := by rw [HX.out]; simp [zd]
    clear HX zd
    clear h
    go_enter Tryz.func31, Tryz.ntmps31
    go_wp2_with fail
    have Bp : Blk ((w.alloc (.cells #[.slice ba bs.length bc] 24)).alloc (.cells #[.int .i64 10, .int .i64 a, .int .i64 b, .int .i64 c, .int .i64 d] 63)) w.heap.size 24 #[.slice ba bs.length bc] := (Blk.new _ _ _).kept (below_alloc _)
    have Bx : Blk ((w.alloc (.cells #[.slice ba bs.length bc] 24)).alloc (.cells #[.int .i64 10, .int .i64 a, .int .i64 b, .int .i64 c, .int .i64 d] 63)) (w.heap.size + 1) 63 #[.int .i64 10, .int .i64 a, .int .i64 b, .int .i64 c, .int .i64 d] := Blk.newAt (by simp)
    have HB : Hid (Below w.heap.size w ((w.alloc (.cells #[.slice ba bs.length bc] 24)).alloc (.cells #[.int .i64 10, .int .i64 a, .int .i64 b, .int .i64 c, .int .i64 d] 63))) := hid (by exact blBy)
    generalize ((w.alloc (.cells #[.slice ba bs.length bc] 24)).alloc (.cells #[.int .i64 10, .int .i64 a, .int .i64 b, .int .i64 c, .int .i64 d] 63)) = V at *
    have xx := Bx.cellF
    have zx := Bx.lt
    have xp := Bp.cellF
    have zp := Bp.lt
    go_wp2_with (first | (go_at_call 49; refine (HA.out _).mono ?_; rintro e w1 ⟨rfl, rfl⟩))
    go_ret
    exact ⟨rfl, HB.out⟩
  subst zd
  have H1 := hid (fun W => isFieldR W a)
  cases s1 : fdI a with
  | false =>
    rw [s1] at H1
    obtain rfl : v = false := by rw [HX.out]; simp [s1]
    clear HX s1
    clear h
    go_enter Tryz.func31, Tryz.ntmps31
    go_wp2_with fail
    have Bp : Blk ((w.alloc (.cells #[.slice ba bs.length bc] 24)).alloc (.cells #[.int .i64 10, .int .i64 a, .int .i64 b, .int .i64 c, .int .i64 0] 63)) w.heap.size 24 #[.slice ba bs.length bc] := (Blk.new _ _ _).kept (below_alloc _)
    have Bx : Blk ((w.alloc (.cells #[.slice ba bs.length bc] 24)).alloc (.cells #[.int .i64 10, .int .i64 a, .int .i64 b, .int .i64 c, .int .i64 0] 63)) (w.heap.size + 1) 63 #[.int .i64 10, .int .i64 a, .int .i64 b, .int .i64 c, .int .i64 0] := Blk.newAt (by simp)
    have HB : Hid (Below w.heap.size w ((w.alloc (.cells #[.slice ba bs.length bc] 24)).alloc (.cells #[.int .i64 10, .int .i64 a, .int .i64 b, .int .i64 c, .int .i64 0] 63))) := hid (by exact blBy)
    generalize ((w.alloc (.cells #[.slice ba bs.length bc] 24)).alloc (.cells #[.int .i64 10, .int .i64 a, .int .i64 b, .int .i64 c, .int .i64 0] 63)) = V at *
    have xx := Bx.cellF
    have zx := Bx.lt
    have xp := Bp.cellF
    have zp := Bp.lt
    go_wp2_with (first | (go_at_call 49; refine (HA.out _).mono ?_; rintro e w1 ⟨rfl, rfl⟩) | (go_at_call 52; refine (H1.out _).mono ?_; rintro e w1 ⟨rfl, rfl⟩))
    go_ret
    exact ⟨rfl, HB.out⟩
  | true =>
  rw [s1] at H1
  replace HX := hid (by have := HX.out; rw [s1] at this; exact this)
  clear s1
  have H2 := hid (fun W (hW : Below w.heap.size w W) => isMessageR W bs ba bc (h.kept hW) b)
  cases s2 : msI bs b with
  | false =>
    rw [s2] at H2
    obtain rfl : v = false := by rw [HX.out]; simp [s2]
    clear HX s2
    clear h
    go_enter Tryz.func31, Tryz.ntmps31
    go_wp2_with fail
    have Bp : Blk ((w.alloc (.cells #[.slice ba bs.length bc] 24)).alloc (.cells #[.int .i64 10, .int .i64 a, .int .i64 b, .int .i64 c, .int .i64 0] 63)) w.heap.size 24 #[.slice ba bs.length bc] := (Blk.new _ _ _).kept (below_alloc _)
    have Bx : Blk ((w.alloc (.cells #[.slice ba bs.length bc] 24)).alloc (.cells #[.int .i64 10, .int .i64 a, .int .i64 b, .int .i64 c, .int .i64 0] 63)) (w.heap.size + 1) 63 #[.int .i64 10, .int .i64 a, .int .i64 b, .int .i64 c, .int .i64 0] := Blk.newAt (by simp)
    have HB : Hid (Below w.heap.size w ((w.alloc (.cells #[.slice ba bs.length bc] 24)).alloc (.cells #[.int .i64 10, .int .i64 a, .int .i64 b, .int .i64 c, .int .i64 0] 63))) := hid (by exact blBy)
    generalize ((w.alloc (.cells #[.slice ba bs.length bc] 24)).alloc (.cells #[.int .i64 10, .int .i64 a, .int .i64 b, .int .i64 c, .int .i64 0] 63)) = V at *
    have xx := Bx.cellF
    have zx := Bx.lt
    have xp := Bp.cellF
    have zp := Bp.lt
    go_wp2_with (first | (go_at_call 49; refine (HA.out _).mono ?_; rintro e w1 ⟨rfl, rfl⟩) | (go_at_call 52; refine (H1.out _).mono ?_; rintro e w1 ⟨rfl, rfl⟩) | (go_at_call 17; refine (H2.out _ HB.out).mono ?_; rintro e w1 ⟨rfl, hbx⟩; replace HB := hid (below_trans HB.out hbx); replace Bx := Bx.kept hbx; replace Bp := Bp.kept hbx; clear xx zx xp zp hbx; have xx := Bx.cellF; have zx := Bx.lt; have xp := Bp.cellF; have zp := Bp.lt))
    go_ret
    exact ⟨rfl, HB.out⟩
  | true =>
  rw [s2] at H2
  replace HX := hid (by have := HX.out; rw [s2] at this; exact this)
  clear s2
  by_cases p3 : 0 ≤ c
  case neg =>
    have r3 : (0 ≤ c) = False := eq_false p3
    obtain rfl : v = false := by rw [HX.out]; simp [p3]
    clear HX p3
    clear h
    go_enter Tryz.func31, Tryz.ntmps31
    go_wp2_with fail
    have Bp : Blk ((w.alloc (.cells #[.slice ba bs.length bc] 24)).alloc (.cells #[.int .i64 10, .int .i64 a, .int .i64 b, .int .i64 c, .int .i64 0] 63)) w.heap.size 24 #[.slice ba bs.length bc] := (Blk.new _ _ _).kept (below_alloc _)
    have Bx : Blk ((w.alloc (.cells #[.slice ba bs.length bc] 24)).alloc (.cells #[.int .i64 10, .int .i64 a, .int .i64 b, .int .i64 c, .int .i64 0] 63)) (w.heap.size + 1) 63 #[.int .i64 10, .int .i64 a, .int .i64 b, .int .i64 c, .int .i64 0] := Blk.newAt (by simp)
    have HB : Hid (Below w.heap.size w ((w.alloc (.cells #[.slice ba bs.length bc] 24)).alloc (.cells #[.int .i64 10, .int .i64 a, .int .i64 b, .int .i64 c, .int .i64 0] 63))) := hid (by exact blBy)
    generalize ((w.alloc (.cells #[.slice ba bs.length bc] 24)).alloc (.cells #[.int .i64 10, .int .i64 a, .int .i64 b, .int .i64 c, .int .i64 0] 63)) = V at *
    have xx := Bx.cellF
    have zx := Bx.lt
    have xp := Bp.cellF
    have zp := Bp.lt
    go_wp2_with (first | (go_at_call 49; refine (HA.out _).mono ?_; rintro e w1 ⟨rfl, rfl⟩) | (go_at_call 52; refine (H1.out _).mono ?_; rintro e w1 ⟨rfl, rfl⟩) | (go_at_call 17; refine (H2.out _ HB.out).mono ?_; rintro e w1 ⟨rfl, hbx⟩; replace HB := hid (below_trans HB.out hbx); replace Bx := Bx.kept hbx; replace Bp := Bp.kept hbx; clear xx zx xp zp hbx; have xx := Bx.cellF; have zx := Bx.lt; have xp := Bp.cellF; have zp := Bp.lt))
    go_ret
    exact ⟨rfl, HB.out⟩
  have r3 : (0 ≤ c) = True := eq_true p3
  replace HX := hid (by have := HX.out; rw [decide_eq_true p3, Bool.true_and] at this; exact this)
  by_cases p4 : c ≤ 2
  case neg =>
    have r4 : (c ≤ 2) = False := eq_false p4
    obtain rfl : v = false := by rw [HX.out]; simp [p4]
    clear HX p4
    clear h
    go_enter Tryz.func31, Tryz.ntmps31
    go_wp2_with fail
    have Bp : Blk ((w.alloc (.cells #[.slice ba bs.length bc] 24)).alloc (.cells #[.int .i64 10, .int .i64 a, .int .i64 b, .int .i64 c, .int .i64 0] 63)) w.heap.size 24 #[.slice ba bs.length bc] := (Blk.new _ _ _).kept (below_alloc _)
    have Bx : Blk ((w.alloc (.cells #[.slice ba bs.length bc] 24)).alloc (.cells #[.int .i64 10, .int .i64 a, .int .i64 b, .int .i64 c, .int .i64 0] 63)) (w.heap.size + 1) 63 #[.int .i64 10, .int .i64 a, .int .i64 b, .int .i64 c, .int .i64 0] := Blk.newAt (by simp)
    have HB : Hid (Below w.heap.size w ((w.alloc (.cells #[.slice ba bs.length bc] 24)).alloc (.cells #[.int .i64 10, .int .i64 a, .int .i64 b, .int .i64 c, .int .i64 0] 63))) := hid (by exact blBy)
    generalize ((w.alloc (.cells #[.slice ba bs.length bc] 24)).alloc (.cells #[.int .i64 10, .int .i64 a, .int .i64 b, .int .i64 c, .int .i64 0] 63)) = V at *
    have xx := Bx.cellF
    have zx := Bx.lt
    have xp := Bp.cellF
    have zp := Bp.lt
    go_wp2_with (first | (go_at_call 49; refine (HA.out _).mono ?_; rintro e w1 ⟨rfl, rfl⟩) | (go_at_call 52; refine (H1.out _).mono ?_; rintro e w1 ⟨rfl, rfl⟩) | (go_at_call 17; refine (H2.out _ HB.out).mono ?_; rintro e w1 ⟨rfl, hbx⟩; replace HB := hid (below_trans HB.out hbx); replace Bx := Bx.kept hbx; replace Bp := Bp.kept hbx; clear xx zx xp zp hbx; have xx := Bx.cellF; have zx := Bx.lt; have xp := Bp.cellF; have zp := Bp.lt))
    go_ret
    exact ⟨rfl, HB.out⟩
  have r4 : (c ≤ 2) = True := eq_true p4
  replace HX := hid (by have := HX.out; rw [decide_eq_true p4] at this; exact this)
  obtain rfl : v = true := by have := HX.out; simpa using this
  clear HX
  clear h
  go_enter Tryz.func31, Tryz.ntmps31
  go_wp2_with fail
  have Bp : Blk ((w.alloc (.cells #[.slice ba bs.length bc] 24)).alloc (.cells #[.int .i64 10, .int .i64 a, .int .i64 b, .int .i64 c, .int .i64 0] 63)) w.heap.size 24 #[.slice ba bs.length bc] := (Blk.new _ _ _).kept (below_alloc _)
  have Bx : Blk ((w.alloc (.cells #[.slice ba bs.length bc] 24)).alloc (.cells #[.int .i64 10, .int .i64 a, .int .i64 b, .int .i64 c, .int .i64 0] 63)) (w.heap.size + 1) 63 #[.int .i64 10, .int .i64 a, .int .i64 b, .int .i64 c, .int .i64 0] := Blk.newAt (by simp)
  have HB : Hid (Below w.heap.size w ((w.alloc (.cells #[.slice ba bs.length bc] 24)).alloc (.cells #[.int .i64 10, .int .i64 a, .int .i64 b, .int .i64 c, .int .i64 0] 63))) := hid (by exact blBy)
  generalize ((w.alloc (.cells #[.slice ba bs.length bc] 24)).alloc (.cells #[.int .i64 10, .int .i64 a, .int .i64 b, .int .i64 c, .int .i64 0] 63)) = V at *
  have xx := Bx.cellF
  have zx := Bx.lt
  have xp := Bp.cellF
  have zp := Bp.lt
  go_wp2_with (first | (go_at_call 49; refine (HA.out _).mono ?_; rintro e w1 ⟨rfl, rfl⟩) | (go_at_call 52; refine (H1.out _).mono ?_; rintro e w1 ⟨rfl, rfl⟩) | (go_at_call 17; refine (H2.out _ HB.out).mono ?_; rintro e w1 ⟨rfl, hbx⟩; replace HB := hid (below_trans HB.out hbx); replace Bx := Bx.kept hbx; replace Bp := Bp.kept hbx; clear xx zx xp zp hbx; have xx := Bx.cellF; have zx := Bx.lt; have xp := Bp.cellF; have zp := Bp.lt))
  go_ret
  exact ⟨rfl, HB.out⟩
end Go.Proofs.YtdhkbdngmejklaaGreatDoor
