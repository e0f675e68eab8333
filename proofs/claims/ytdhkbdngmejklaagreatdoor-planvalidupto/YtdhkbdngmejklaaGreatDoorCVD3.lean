/-
  The document's: are an operation's numbers what they may be? (what is asked)
  The document's: are an operation's numbers what they may be? (a part)
-/
import Derived.Test.YtdhkbdngmejklaaGreatDoorCKO
namespace Go.Proofs.YtdhkbdngmejklaaGreatDoor
open Go.RowKit
set_option maxRecDepth 1000000
set_option linter.unusedVariables false
set_option linter.unusedSimpArgs false
set_option maxHeartbeats 4000000
def nuI (bs : List BV) (s : IN) : Bool := if s.op = 2 then decide (s.d = 0) && (decide (s.c = 0) && (tgI s.a)) else if s.op = 3 then decide (s.d = 0) && (decide (s.c = 0) && (decide (s.b = 0))) else if s.op = 4 then decide (s.d = 0) && (decide (s.c = 0) && (decide (s.b = 0))) else if s.op = 5 then decide (s.d = 0) && (decide (s.c = 0) && (decide (s.b = 0) && (sgI s.a))) else if s.op = 6 then decide (s.d = 0) && (decide (s.c = 0) && (decide (s.b = 0) && (enI bs s.a))) else if s.op = 7 then decide (s.d = 0) && (decide (s.c = 0) && (decide (s.b = 0) && (fdI s.a))) else if s.op = 8 then decide (s.d = 0) && (decide (s.c = 0) && (decide (s.b = 0) && (fdI s.a))) else if s.op = 9 then decide (s.d = 0) && (decide (s.c = 0) && (decide (s.b = 0) && (fdI s.a))) else if s.op = 10 then decide (s.d = 0) && (fdI s.a && (msI bs s.b && (decide (0 ≤ s.c) && (decide (s.c ≤ 2))))) else if s.op = 11 then (decide (s.d = 0)) && (if s.b = 16 then fdI s.a && enI bs (s.c - 1) else fdI s.a && (knum s.b && decide (s.c = 0))) else if s.op = 12 then fdI s.a && (kkey s.b && (kdI s.c && (bkI bs s.c s.d))) else if s.op = 14 then decide (s.d = 0) && (decide (s.c = 0) && (sgI s.a && (fdI s.b))) else if s.op = 15 then decide (s.d = 0) && (decide (s.c = 0) && (sgI s.a && (fdI s.b))) else if s.op = 16 then decide (s.d = 0) && (fdI s.a && (decide (0 ≤ s.c) && (decide (s.c ≤ 16)))) else if s.op = 17 then decide (s.d = 0) && (decide (s.c = 0) && (decide (s.b = 0) && (tgI s.a))) else if s.op = 18 then decide (s.d = 0) && (decide (s.c = 0) && (decide (s.b = 0) && (sgI s.a))) else if s.op = 19 then decide (s.d = 0) && (decide (s.c = 0) && (decide (s.b = 0) && (msI bs s.a))) else if s.op = 20 then decide (s.d = 0) && (tgI s.a && (kdI s.b && (bkI bs s.b s.c))) else if s.op = 21 then decide (s.d = 0) && (decide (s.c = 0) && (tgI s.a && (knum s.b))) else if s.op = 22 then tgI s.a && (kkey s.b && (kdI s.c && (bkI bs s.c s.d))) else if s.op = 25 then decide (s.d = 0) && (decide (s.c = 0) && (tgI s.a && (sgI s.b))) else decide (s.d = 0) && (decide (s.c = 0) && (decide (s.b = 0) && (decide (s.a = 0))))
theorem nuR_2 (w : World) (bs : List BV) (ba : Option Addr) (bc : Nat) (h : PgR w (.slice ba bs.length bc) bs) (a b c d : Int) (hia : a ≤ 9223372036854775807) : Calls Tryz.prog 31 #[.agg #[.slice ba bs.length bc], .agg #[.int .i64 2, .int .i64 a, .int .i64 b, .int .i64 c, .int .i64 d]] w (BoA w (nuI bs ⟨2, a, b, c, d⟩)) := by
  have HA : Hid (∀ W, Calls Tryz.prog 49 #[.int .i64 2] W fun e w' => e = .returned (.int .i64 2) ∧ w' = W) := hid fun W => arityR 2 W
  have HX : Hid (nuI bs ⟨2, a, b, c, d⟩ = (decide (d = 0) && (decide (c = 0) && (tgI a)))) := hid (by first | rfl | (unfold nuI; simp))
  generalize nuI bs ⟨2, a, b, c, d⟩ = v at *
  by_cases zd : d = 0
  case neg =>
    have qd : (d != 0) = true := by simpa using zd
    obtain rfl : v = false := by rw [HX.out]; simp [zd]
    clear HX zd
    clear h
    go_enter Tryz.func31, Tryz.ntmps31
    go_wp2_with fail
    have Bp : Blk ((w.alloc (.cells #[.slice ba bs.length bc] 24)).alloc (.cells #[.int .i64 2, .int .i64 a, .int .i64 b, .int .i64 c, .int .i64 d] 63)) w.heap.size 24 #[.slice ba bs.length bc] := (Blk.new _ _ _).kept (below_alloc _)
    have Bx : Blk ((w.alloc (.cells #[.slice ba bs.length bc] 24)).alloc (.cells #[.int .i64 2, .int .i64 a, .int .i64 b, .int .i64 c, .int .i64 d] 63)) (w.heap.size + 1) 63 #[.int .i64 2, .int .i64 a, .int .i64 b, .int .i64 c, .int .i64 d] := Blk.newAt (by simp)
    have HB : Hid (Below w.heap.size w ((w.alloc (.cells #[.slice ba bs.length bc] 24)).alloc (.cells #[.int .i64 2, .int .i64 a, .int .i64 b, .int .i64 c, .int .i64 d] 63))) := hid (by exact blBy)
    generalize ((w.alloc (.cells #[.slice ba bs.length bc] 24)).alloc (.cells #[.int .i64 2, .int .i64 a, .int .i64 b, .int .i64 c, .int .i64 d] 63)) = V at *
    have xx := Bx.cellF
    have zx := Bx.lt
    have xp := Bp.cellF
    have zp := Bp.lt
    go_wp2_with (first | (go_at_call 49; refine (HA.out _).mono ?_; rintro e w1 ⟨rfl, rfl⟩))
    go_ret
    exact ⟨rfl, HB.out⟩
  subst zd
  by_cases zc : c = 0
  case neg =>
    have qc : (c != 0) = true := by simpa using zc
    obtain rfl : v = false := by rw [HX.out]; simp [zc]
    clear HX zc
    clear h
    go_enter Tryz.func31, Tryz.ntmps31
    go_wp2_with fail
    have Bp : Blk ((w.alloc (.cells #[.slice ba bs.length bc] 24)).alloc (.cells #[.int .i64 2, .int .i64 a, .int .i64 b, .int .i64 c, .int .i64 0] 63)) w.heap.size 24 #[.slice ba bs.length bc] := (Blk.new _ _ _).kept (below_alloc _)
    have Bx : Blk ((w.alloc (.cells #[.slice ba bs.length bc] 24)).alloc (.cells #[.int .i64 2, .int .i64 a, .int .i64 b, .int .i64 c, .int .i64 0] 63)) (w.heap.size + 1) 63 #[.int .i64 2, .int .i64 a, .int .i64 b, .int .i64 c, .int .i64 0] := Blk.newAt (by simp)
    have HB : Hid (Below w.heap.size w ((w.alloc (.cells #[.slice ba bs.length bc] 24)).alloc (.cells #[.int .i64 2, .int .i64 a, .int .i64 b, .int .i64 c, .int .i64 0] 63))) := hid (by exact blBy)
    generalize ((w.alloc (.cells #[.slice ba bs.length bc] 24)).alloc (.cells #[.int .i64 2, .int .i64 a, .int .i64 b, .int .i64 c, .int .i64 0] 63)) = V at *
    have xx := Bx.cellF
    have zx := Bx.lt
    have xp := Bp.cellF
    have zp := Bp.lt
    go_wp2_with (first | (go_at_call 49; refine (HA.out _).mono ?_; rintro e w1 ⟨rfl, rfl⟩))
    go_ret
    exact ⟨rfl, HB.out⟩
  subst zc
  have H2 := hid (fun W => isTagR W a hia)
  cases s2 : tgI a with
  | false =>
    rw [s2] at H2
    obtain rfl : v = false := by rw [HX.out]; simp [s2]
    clear HX s2
    clear h
    go_enter Tryz.func31, Tryz.ntmps31
    go_wp2_with fail
    have Bp : Blk ((w.alloc (.cells #[.slice ba bs.length bc] 24)).alloc (.cells #[.int .i64 2, .int .i64 a, .int .i64 b, .int .i64 0, .int .i64 0] 63)) w.heap.size 24 #[.slice ba bs.length bc] := (Blk.new _ _ _).kept (below_alloc _)
    have Bx : Blk ((w.alloc (.cells #[.slice ba bs.length bc] 24)).alloc (.cells #[.int .i64 2, .int .i64 a, .int .i64 b, .int .i64 0, .int .i64 0] 63)) (w.heap.size + 1) 63 #[.int .i64 2, .int .i64 a, .int .i64 b, .int .i64 0, .int .i64 0] := Blk.newAt (by simp)
    have HB : Hid (Below w.heap.size w ((w.alloc (.cells #[.slice ba bs.length bc] 24)).alloc (.cells #[.int .i64 2, .int .i64 a, .int .i64 b, .int .i64 0, .int .i64 0] 63))) := hid (by exact blBy)
    generalize ((w.alloc (.cells #[.slice ba bs.length bc] 24)).alloc (.cells #[.int .i64 2, .int .i64 a, .int .i64 b, .int .i64 0, .int .i64 0] 63)) = V at *
    have xx := Bx.cellF
    have zx := Bx.lt
    have xp := Bp.cellF
    have zp := Bp.lt
    go_wp2_with (first | (go_at_call 49; refine (HA.out _).mono ?_; rintro e w1 ⟨rfl, rfl⟩) | (go_at_call 32; refine (H2.out _).mono ?_; rintro e w1 ⟨rfl, hbx⟩; replace HB := hid (below_trans HB.out hbx); replace Bx := Bx.kept hbx; replace Bp := Bp.kept hbx; clear xx zx xp zp hbx; have xx := Bx.cellF; have zx := Bx.lt; have xp := Bp.cellF; have zp := Bp.lt))
    go_ret
    exact ⟨rfl, HB.out⟩
  | true =>
  rw [s2] at H2
  replace HX := hid (by have := HX.out; rw [s2] at this; exact this)
  clear s2
  obtain rfl : v = true := by have := HX.out; simpa using this
  clear HX
  clear h
  go_enter Tryz.func31, Tryz.ntmps31
  go_wp2_with fail
  have Bp : Blk ((w.alloc (.cells #[.slice ba bs.length bc] 24)).alloc (.cells #[.int .i64 2, .int .i64 a, .int .i64 b, .int .i64 0, .int .i64 0] 63)) w.heap.size 24 #[.slice ba bs.length bc] := (Blk.new _ _ _).kept (below_alloc _)
  have Bx : Blk ((w.alloc (.cells #[.slice ba bs.length bc] 24)).alloc (.cells #[.int .i64 2, .int .i64 a, .int .i64 b, .int .i64 0, .int .i64 0] 63)) (w.heap.size + 1) 63 #[.int .i64 2, .int .i64 a, .int .i64 b, .int .i64 0, .int .i64 0] := Blk.newAt (by simp)
  have HB : Hid (Below w.heap.size w ((w.alloc (.cells #[.slice ba bs.length bc] 24)).alloc (.cells #[.int .i64 2, .int .i64 a, .int .i64 b, .int .i64 0, .int .i64 0] 63))) := hid (by exact blBy)
  generalize ((w.alloc (.cells #[.slice ba bs.length bc] 24)).alloc (.cells #[.int .i64 2, .int .i64 a, .int .i64 b, .int .i64 0, .int .i64 0] 63)) = V at *
  have xx := Bx.cellF
  have zx := Bx.lt
  have xp := Bp.cellF
  have zp := Bp.lt
  go_wp2_with (first | (go_at_call 49; refine (HA.out _).mono ?_; rintro e w1 ⟨rfl, rfl⟩) | (go_at_call 32; refine (H2.out _).mono ?_; rintro e w1 ⟨rfl, hbx⟩; replace HB := hid (below_trans HB.out hbx); replace Bx := Bx.kept hbx; replace Bp := Bp.kept hbx; clear xx zx xp zp hbx; have xx := Bx.cellF; have zx := Bx.lt; have xp := Bp.cellF; have zp := Bp.lt))
  go_ret
  exact ⟨rfl, HB.out⟩
theorem nuR_3 (w : World) (bs : List BV) (ba : Option Addr) (bc : Nat) (h : PgR w (.slice ba bs.length bc) bs) (a b c d : Int) (hia : a ≤ 9223372036854775807) : Calls Tryz.prog 31 #[.agg #[.slice ba bs.length bc], .agg #[.int .i64 3, .int .i64 a, .int .i64 b, .int .i64 c, .int .i64 d]] w (BoA w (nuI bs ⟨3, a, b, c, d⟩)) := by
  have HA : Hid (∀ W, Calls Tryz.prog 49 #[.int .i64 3] W fun e w' => e = .returned (.int .i64 1) ∧ w' = W) := hid fun W => arityR 3 W
  have HX : Hid (nuI bs ⟨3, a, b, c, d⟩ = (decide (d = 0) && (decide (c = 0) && (decide (b = 0))))) := hid (by first | rfl | (unfold nuI; simp))
  generalize nuI bs ⟨3, a, b, c, d⟩ = v at *
  by_cases zd : d = 0
  case neg =>
    have qd : (d != 0) = true := by simpa using zd
    obtain rfl : v = false := by rw [HX.out]; simp [zd]
    clear HX zd
    clear h
    go_enter Tryz.func31, Tryz.ntmps31
    go_wp2_with fail
    have Bp : Blk ((w.alloc (.cells #[.slice ba bs.length bc] 24)).alloc (.cells #[.int .i64 3, .int .i64 a, .int .i64 b, .int .i64 c, .int .i64 d] 63)) w.heap.size 24 #[.slice ba bs.length bc] := (Blk.new _ _ _).kept (below_alloc _)
    have Bx : Blk ((w.alloc (.cells #[.slice ba bs.length bc] 24)).alloc (.cells #[.int .i64 3, .int .i64 a, .int .i64 b, .int .i64 c, .int .i64 d] 63)) (w.heap.size + 1) 63 #[.int .i64 3, .int .i64 a, .int .i64 b, .int .i64 c, .int .i64 d] := Blk.newAt (by simp)
    have HB : Hid (Below w.heap.size w ((w.alloc (.cells #[.slice ba bs.length bc] 24)).alloc (.cells #[.int .i64 3, .int .i64 a, .int .i64 b, .int .i64 c, .int .i64 d] 63))) := hid (by exact blBy)
    generalize ((w.alloc (.cells #[.slice ba bs.length bc] 24)).alloc (.cells #[.int .i64 3, .int .i64 a, .int .i64 b, .int .i64 c, .int .i64 d] 63)) = V at *
    have xx := Bx.cellF
    have zx := Bx.lt
    have xp := Bp.cellF
    have zp := Bp.lt
    go_wp2_with (first | (go_at_call 49; refine (HA.out _).mono ?_; rintro e w1 ⟨rfl, rfl⟩))
    go_ret
    exact ⟨rfl, HB.out⟩
  subst zd
  by_cases zc : c = 0
  case neg =>
    have qc : (c != 0) = true := by simpa using zc
    obtain rfl : v = false := by rw [HX.out]; simp [zc]
    clear HX zc
    clear h
    go_enter Tryz.func31, Tryz.ntmps31
    go_wp2_with fail
    have Bp : Blk ((w.alloc (.cells #[.slice ba bs.length bc] 24)).alloc (.cells #[.int .i64 3, .int .i64 a, .int .i64 b, .int .i64 c, .int .i64 0] 63)) w.heap.size 24 #[.slice ba bs.length bc] := (Blk.new _ _ _).kept (below_alloc _)
    have Bx : Blk ((w.alloc (.cells #[.slice ba bs.length bc] 24)).alloc (.cells #[.int .i64 3, .int .i64 a, .int .i64 b, .int .i64 c, .int .i64 0] 63)) (w.heap.size + 1) 63 #[.int .i64 3, .int .i64 a, .int .i64 b, .int .i64 c, .int .i64 0] := Blk.newAt (by simp)
    have HB : Hid (Below w.heap.size w ((w.alloc (.cells #[.slice ba bs.length bc] 24)).alloc (.cells #[.int .i64 3, .int .i64 a, .int .i64 b, .int .i64 c, .int .i64 0] 63))) := hid (by exact blBy)
    generalize ((w.alloc (.cells #[.slice ba bs.length bc] 24)).alloc (.cells #[.int .i64 3, .int .i64 a, .int .i64 b, .int .i64 c, .int .i64 0] 63)) = V at *
    have xx := Bx.cellF
    have zx := Bx.lt
    have xp := Bp.cellF
    have zp := Bp.lt
    go_wp2_with (first | (go_at_call 49; refine (HA.out _).mono ?_; rintro e w1 ⟨rfl, rfl⟩))
    go_ret
    exact ⟨rfl, HB.out⟩
  subst zc
  by_cases zb : b = 0
  case neg =>
    have qb : (b != 0) = true := by simpa using zb
    obtain rfl : v = false := by rw [HX.out]; simp [zb]
    clear HX zb
    clear h
    go_enter Tryz.func31, Tryz.ntmps31
    go_wp2_with fail
    have Bp : Blk ((w.alloc (.cells #[.slice ba bs.length bc] 24)).alloc (.cells #[.int .i64 3, .int .i64 a, .int .i64 b, .int .i64 0, .int .i64 0] 63)) w.heap.size 24 #[.slice ba bs.length bc] := (Blk.new _ _ _).kept (below_alloc _)
    have Bx : Blk ((w.alloc (.cells #[.slice ba bs.length bc] 24)).alloc (.cells #[.int .i64 3, .int .i64 a, .int .i64 b, .int .i64 0, .int .i64 0] 63)) (w.heap.size + 1) 63 #[.int .i64 3, .int .i64 a, .int .i64 b, .int .i64 0, .int .i64 0] := Blk.newAt (by simp)
    have HB : Hid (Below w.heap.size w ((w.alloc (.cells #[.slice ba bs.length bc] 24)).alloc (.cells #[.int .i64 3, .int .i64 a, .int .i64 b, .int .i64 0, .int .i64 0] 63))) := hid (by exact blBy)
    generalize ((w.alloc (.cells #[.slice ba bs.length bc] 24)).alloc (.cells #[.int .i64 3, .int .i64 a, .int .i64 b, .int .i64 0, .int .i64 0] 63)) = V at *
    have xx := Bx.cellF
    have zx := Bx.lt
    have xp := Bp.cellF
    have zp := Bp.lt
    go_wp2_with (first | (go_at_call 49; refine (HA.out _).mono ?_; rintro e w1 ⟨rfl, rfl⟩))
    go_ret
    exact ⟨rfl, HB.out⟩
  subst zb
  obtain rfl : v = true := by have := HX.out; simpa using this
  clear HX
  clear h
  go_enter Tryz.func31, Tryz.ntmps31
  go_wp2_with fail
  have Bp : Blk ((w.alloc (.cells #[.slice ba bs.length bc] 24)).alloc (.cells #[.int .i64 3, .int .i64 a, .int .i64 0, .int .i64 0, .int .i64 0] 63)) w.heap.size 24 #[.slice ba bs.length bc] := (Blk.new _ _ _).kept (below_alloc _)
  have Bx : Blk ((w.alloc (.cells #[.slice ba bs.length bc] 24)).alloc (.cells #[.int .i64 3, .int .i64 a, .int .i64 0, .int .i64 0, .int .i64 0] 63)) (w.heap.size + 1) 63 #[.int .i64 3, .int .i64 a, .int .i64 0, .int .i64 0, .int .i64 0] := Blk.newAt (by simp)
  have HB : Hid (Below w.heap.size w ((w.alloc (.cells #[.slice ba bs.length bc] 24)).alloc (.cells #[.int .i64 3, .int .i64 a, .int .i64 0, .int .i64 0, .int .i64 0] 63))) := hid (by exact blBy)
  generalize ((w.alloc (.cells #[.slice ba bs.length bc] 24)).alloc (.cells #[.int .i64 3, .int .i64 a, .int .i64 0, .int .i64 0, .int .i64 0] 63)) = V at *
  have xx := Bx.cellF
  have zx := Bx.lt
  have xp := Bp.cellF
  have zp := Bp.lt
  go_wp2_with (first | (go_at_call 49; refine (HA.out _).mono ?_; rintro e w1 ⟨rfl, rfl⟩))
  go_ret
  exact ⟨rfl, HB.out⟩
theorem nuR_4 (w : World) (bs : List BV) (ba : Option Addr) (bc : Nat) (h : PgR w (.slice ba bs.length bc) bs) (a b c d : Int) (hia : a ≤ 9223372036854775807) : Calls Tryz.prog 31 #[.agg #[.slice ba bs.length bc], .agg #[.int .i64 4, .int .i64 a, .int .i64 b, .int .i64 c, .int .i64 d]] w (BoA w (nuI bs ⟨4, a, b, c, d⟩)) := by
  have HA : Hid (∀ W, Calls Tryz.prog 49 #[.int .i64 4] W fun e w' => e = .returned (.int .i64 1) ∧ w' = W) := hid fun W => arityR 4 W
  have HX : Hid (nuI bs ⟨4, a, b, c, d⟩ = (decide (d = 0) && (decide (c = 0) && (decide (b = 0))))) := hid (by first | rfl | (unfold nuI; simp))
  generalize nuI bs ⟨4, a, b, c, d⟩ = v at *
  by_cases zd : d = 0
  case neg =>
    have qd : (d != 0) = true := by simpa using zd
    obtain rfl : v = false := by rw [HX.out]; simp [zd]
    clear HX zd
    clear h
    go_enter Tryz.func31, Tryz.ntmps31
    go_wp2_with fail
    have Bp : Blk ((w.alloc (.cells #[.slice ba bs.length bc] 24)).alloc (.cells #[.int .i64 4, .int .i64 a, .int .i64 b, .int .i64 c, .int .i64 d] 63)) w.heap.size 24 #[.slice ba bs.length bc] := (Blk.new _ _ _).kept (below_alloc _)
    have Bx : Blk ((w.alloc (.cells #[.slice ba bs.length bc] 24)).alloc (.cells #[.int .i64 4, .int .i64 a, .int .i64 b, .int .i64 c, .int .i64 d] 63)) (w.heap.size + 1) 63 #[.int .i64 4, .int .i64 a, .int .i64 b, .int .i64 c, .int .i64 d] := Blk.newAt (by simp)
    have HB : Hid (Below w.heap.size w ((w.alloc (.cells #[.slice ba bs.length bc] 24)).alloc (.cells #[.int .i64 4, .int .i64 a, .int .i64 b, .int .i64 c, .int .i64 d] 63))) := hid (by exact blBy)
    generalize ((w.alloc (.cells #[.slice ba bs.length bc] 24)).alloc (.cells #[.int .i64 4, .int .i64 a, .int .i64 b, .int .i64 c, .int .i64 d] 63)) = V at *
    have xx := Bx.cellF
    have zx := Bx.lt
    have xp := Bp.cellF
    have zp := Bp.lt
    go_wp2_with (first | (go_at_call 49; refine (HA.out _).mono ?_; rintro e w1 ⟨rfl, rfl⟩))
    go_ret
    exact ⟨rfl, HB.out⟩
  subst zd
  by_cases zc : c = 0
  case neg =>
    have qc : (c != 0) = true := by simpa using zc
    obtain rfl : v = false := by rw [HX.out]; simp [zc]
    clear HX zc
    clear h
    go_enter Tryz.func31, Tryz.ntmps31
    go_wp2_with fail
    have Bp : Blk ((w.alloc (.cells #[.slice ba bs.length bc] 24)).alloc (.cells #[.int .i64 4, .int .i64 a, .int .i64 b, .int .i64 c, .int .i64 0] 63)) w.heap.size 24 #[.slice ba bs.length bc] := (Blk.new _ _ _).kept (below_alloc _)
    have Bx : Blk ((w.alloc (.cells #[.slice ba bs.length bc] 24)).alloc (.cells #[.int .i64 4, .int .i64 a, .int .i64 b, .int .i64 c, .int .i64 0] 63)) (w.heap.size + 1) 63 #[.int .i64 4, .int .i64 a, .int .i64 b, .int .i64 c, .int .i64 0] := Blk.newAt (by simp)
    have HB : Hid (Below w.heap.size w ((w.alloc (.cells #[.slice ba bs.length bc] 24)).alloc (.cells #[.int .i64 4, .int .i64 a, .int .i64 b, .int .i64 c, .int .i64 0] 63))) := hid (by exact blBy)
    generalize ((w.alloc (.cells #[.slice ba bs.length bc] 24)).alloc (.cells #[.int .i64 4, .int .i64 a, .int .i64 b, .int .i64 c, .int .i64 0] 63)) = V at *
    have xx := Bx.cellF
    have zx := Bx.lt
    have xp := Bp.cellF
    have zp := Bp.lt
    go_wp2_with (first | (go_at_call 49; refine (HA.out _).mono ?_; rintro e w1 ⟨rfl, rfl⟩))
    go_ret
    exact ⟨rfl, HB.out⟩
  subst zc
  by_cases zb : b = 0
  case neg =>
    have qb : (b != 0) = true := by simpa using zb
    obtain rfl : v = false := by rw [HX.out]; simp [zb]
    clear HX zb
    clear h
    go_enter Tryz.func31, Tryz.ntmps31
    go_wp2_with fail
    have Bp : Blk ((w.alloc (.cells #[.slice ba bs.length bc] 24)).alloc (.cells #[.int .i64 4, .int .i64 a, .int .i64 b, .int .i64 0, .int .i64 0] 63)) w.heap.size 24 #[.slice ba bs.length bc] := (Blk.new _ _ _).kept (below_alloc _)
    have Bx : Blk ((w.alloc (.cells #[.slice ba bs.length bc] 24)).alloc (.cells #[.int .i64 4, .int .i64 a, .int .i64 b, .int .i64 0, .int .i64 0] 63)) (w.heap.size + 1) 63 #[.int .i64 4, .int .i64 a, .int .i64 b, .int .i64 0, .int .i64 0] := Blk.newAt (by simp)
    have HB : Hid (Below w.heap.size w ((w.alloc (.cells #[.slice ba bs.length bc] 24)).alloc (.cells #[.int .i64 4, .int .i64 a, .int .i64 b, .int .i64 0, .int .i64 0] 63))) := hid (by exact blBy)
    generalize ((w.alloc (.cells #[.slice ba bs.length bc] 24)).alloc (.cells #[.int .i64 4, .int .i64 a, .int .i64 b, .int .i64 0, .int .i64 0] 63)) = V at *
    have xx := Bx.cellF
    have zx := Bx.lt
    have xp := Bp.cellF
    have zp := Bp.lt
    go_wp2_with (first | (go_at_call 49; refine (HA.out _).mono ?_; rintro e w1 ⟨rfl, rfl⟩))
    go_ret
    exact ⟨rfl, HB.out⟩
  subst zb
  obtain rfl : v = true := by have := HX.out; simpa using this
  clear HX
  clear h
  go_enter Tryz.func31, Tryz.ntmps31
  go_wp2_with fail
  have Bp : Blk ((w.alloc (.cells #[.slice ba bs.length bc] 24)).alloc (.cells #[.int .i64 4, .int .i64 a, .int .i64 0, .int .i64 0, .int .i64 0] 63)) w.heap.size 24 #[.slice ba bs.length bc] := (Blk.new _ _ _).kept (below_alloc _)
  have Bx : Blk ((w.alloc (.cells #[.slice ba bs.length bc] 24)).alloc (.cells #[.int .i64 4, .int .i64 a, .int .i64 0, .int .i64 0, .int .i64 0] 63)) (w.heap.size + 1) 63 #[.int .i64 4, .int .i64 a, .int .i64 0, .int .i64 0, .int .i64 0] := Blk.newAt (by simp)
  have HB : Hid (Below w.heap.size w ((w.alloc (.cells #[.slice ba bs.length bc] 24)).alloc (.cells #[.int .i64 4, .int .i64 a, .int .i64 0, .int .i64 0, .int .i64 0] 63))) := hid (by exact blBy)
  generalize ((w.alloc (.cells #[.slice ba bs.length bc] 24)).alloc (.cells #[.int .i64 4, .int .i64 a, .int .i64 0, .int .i64 0, .int .i64 0] 63)) = V at *
  have xx := Bx.cellF
  have zx := Bx.lt
  have xp := Bp.cellF
  have zp := Bp.lt
  go_wp2_with (first | (go_at_call 49; refine (HA.out _).mono ?_; rintro e w1 ⟨rfl, rfl⟩))
  go_ret
  exact ⟨rfl, HB.out⟩
theorem nuR_5 (w : World) (bs : List BV) (ba : Option Addr) (bc : Nat) (h : PgR w (.slice ba bs.length bc) bs) (a b c d : Int) (hia : a ≤ 9223372036854775807) : Calls Tryz.prog 31 #[.agg #[.slice ba bs.length bc], .agg #[.int .i64 5, .int .i64 a, .int .i64 b, .int .i64 c, .int .i64 d]] w (BoA w (nuI bs ⟨5, a, b, c, d⟩)) := by
  have HA : Hid (∀ W, Calls Tryz.prog 49 #[.int .i64 5] W fun e w' => e = .returned (.int .i64 1) ∧ w' = W) := hid fun W => arityR 5 W
  have HX : Hid (nuI bs ⟨5, a, b, c, d⟩ = (decide (d = 0) && (decide (c = 0) && (decide (b = 0) && (sgI a))))) := hid (by first | rfl | (unfold nuI; simp))
  generalize nuI bs ⟨5, a, b, c, d⟩ = v at *
  by_cases zd : d = 0
  case neg =>
    have qd : (d != 0) = true := by simpa using zd
    obtain rfl : v = false := by rw [HX.out]; simp [zd]
    clear HX zd
    clear h
    go_enter Tryz.func31, Tryz.ntmps31
    go_wp2_with fail
    have Bp : Blk ((w.alloc (.cells #[.slice ba bs.length bc] 24)).alloc (.cells #[.int .i64 5, .int .i64 a, .int .i64 b, .int .i64 c, .int .i64 d] 63)) w.heap.size 24 #[.slice ba bs.length bc] := (Blk.new _ _ _).kept (below_alloc _)
    have Bx : Blk ((w.alloc (.cells #[.slice ba bs.length bc] 24)).alloc (.cells #[.int .i64 5, .int .i64 a, .int .i64 b, .int .i64 c, .int .i64 d] 63)) (w.heap.size + 1) 63 #[.int .i64 5, .int .i64 a, .int .i64 b, .int .i64 c, .int .i64 d] := Blk.newAt (by simp)
    have HB : Hid (Below w.heap.size w ((w.alloc (.cells #[.slice ba bs.length bc] 24)).alloc (.cells #[.int .i64 5, .int .i64 a, .int .i64 b, .int .i64 c, .int .i64 d] 63))) := hid (by exact blBy)
    generalize ((w.alloc (.cells #[.slice ba bs.length bc] 24)).alloc (.cells #[.int .i64 5, .int .i64 a, .int .i64 b, .int .i64 c, .int .i64 d] 63)) = V at *
    have xx := Bx.cellF
    have zx := Bx.lt
    have xp := Bp.cellF
    have zp := Bp.lt
    go_wp2_with (first | (go_at_call 49; refine (HA.out _).mono ?_; rintro e w1 ⟨rfl, rfl⟩))
    go_ret
    exact ⟨rfl, HB.out⟩
  subst zd
  by_cases zc : c = 0
  case neg =>
    have qc : (c != 0) = true := by simpa using zc
    obtain rfl : v = false := by rw [HX.out]; simp [zc]
    clear HX zc
    clear h
    go_enter Tryz.func31, Tryz.ntmps31
    go_wp2_with fail
    have Bp : Blk ((w.alloc (.cells #[.slice ba bs.length bc] 24)).alloc (.cells #[.int .i64 5, .int .i64 a, .int .i64 b, .int .i64 c, .int .i64 0] 63)) w.heap.size 24 #[.slice ba bs.length bc] := (Blk.new _ _ _).kept (below_alloc _)
    have Bx : Blk ((w.alloc (.cells #[.slice ba bs.length bc] 24)).alloc (.cells #[.int .i64 5, .int .i64 a, .int .i64 b, .int .i64 c, .int .i64 0] 63)) (w.heap.size + 1) 63 #[.int .i64 5, .int .i64 a, .int .i64 b, .int .i64 c, .int .i64 0] := Blk.newAt (by simp)
    have HB : Hid (Below w.heap.size w ((w.alloc (.cells #[.slice ba bs.length bc] 24)).alloc (.cells #[.int .i64 5, .int .i64 a, .int .i64 b, .int .i64 c, .int .i64 0] 63))) := hid (by exact blBy)
    generalize ((w.alloc (.cells #[.slice ba bs.length bc] 24)).alloc (.cells #[.int .i64 5, .int .i64 a, .int .i64 b, .int .i64 c, .int .i64 0] 63)) = V at *
    have xx := Bx.cellF
    have zx := Bx.lt
    have xp := Bp.cellF
    have zp := Bp.lt
    go_wp2_with (first | (go_at_call 49; refine (HA.out _).mono ?_; rintro e w1 ⟨rfl, rfl⟩))
    go_ret
    exact ⟨rfl, HB.out⟩
  subst zc
  by_cases zb : b = 0
  case neg =>
    have qb : (b != 0) = true := by simpa using zb
    obtain rfl : v = false := by rw [HX.out]; simp [zb]
    clear HX zb
    clear h
    go_enter Tryz.func31, Tryz.ntmps31
    go_wp2_with fail
    have Bp : Blk ((w.alloc (.cells #[.slice ba bs.length bc] 24)).alloc (.cells #[.int .i64 5, .int .i64 a, .int .i64 b, .int .i64 0, .int .i64 0] 63)) w.heap.size 24 #[.slice ba bs.length bc] := (Blk.new _ _ _).kept (below_alloc _)
    have Bx : Blk ((w.alloc (.cells #[.slice ba bs.length bc] 24)).alloc (.cells #[.int .i64 5, .int .i64 a, .int .i64 b, .int .i64 0, .int .i64 0] 63)) (w.heap.size + 1) 63 #[.int .i64 5, .int .i64 a, .int .i64 b, .int .i64 0, .int .i64 0] := Blk.newAt (by simp)
    have HB : Hid (Below w.heap.size w ((w.alloc (.cells #[.slice ba bs.length bc] 24)).alloc (.cells #[.int .i64 5, .int .i64 a, .int .i64 b, .int .i64 0, .int .i64 0] 63))) := hid (by exact blBy)
    generalize ((w.alloc (.cells #[.slice ba bs.length bc] 24)).alloc (.cells #[.int .i64 5, .int .i64 a, .int .i64 b, .int .i64 0, .int .i64 0] 63)) = V at *
    have xx := Bx.cellF
    have zx := Bx.lt
    have xp := Bp.cellF
    have zp := Bp.lt
    go_wp2_with (first | (go_at_call 49; refine (HA.out _).mono ?_; rintro e w1 ⟨rfl, rfl⟩))
    go_ret
    exact ⟨rfl, HB.out⟩
  subst zb
  have H3 := hid (fun W => isScalarR W a)
  cases s3 : sgI a with
  | false =>
    rw [s3] at H3
    obtain rfl : v = false := by rw [HX.out]; simp [s3]
    clear HX s3
    clear h
    go_enter Tryz.func31, Tryz.ntmps31
    go_wp2_with fail
    have Bp : Blk ((w.alloc (.cells #[.slice ba bs.length bc] 24)).alloc (.cells #[.int .i64 5, .int .i64 a, .int .i64 0, .int .i64 0, .int .i64 0] 63)) w.heap.size 24 #[.slice ba bs.length bc] := (Blk.new _ _ _).kept (below_alloc _)
    have Bx : Blk ((w.alloc (.cells #[.slice ba bs.length bc] 24)).alloc (.cells #[.int .i64 5, .int .i64 a, .int .i64 0, .int .i64 0, .int .i64 0] 63)) (w.heap.size + 1) 63 #[.int .i64 5, .int .i64 a, .int .i64 0, .int .i64 0, .int .i64 0] := Blk.newAt (by simp)
    have HB : Hid (Below w.heap.size w ((w.alloc (.cells #[.slice ba bs.length bc] 24)).alloc (.cells #[.int .i64 5, .int .i64 a, .int .i64 0, .int .i64 0, .int .i64 0] 63))) := hid (by exact blBy)
    generalize ((w.alloc (.cells #[.slice ba bs.length bc] 24)).alloc (.cells #[.int .i64 5, .int .i64 a, .int .i64 0, .int .i64 0, .int .i64 0] 63)) = V at *
    have xx := Bx.cellF
    have zx := Bx.lt
    have xp := Bp.cellF
    have zp := Bp.lt
    go_wp2_with (first | (go_at_call 49; refine (HA.out _).mono ?_; rintro e w1 ⟨rfl, rfl⟩) | (go_at_call 50; refine (H3.out _).mono ?_; rintro e w1 ⟨rfl, rfl⟩))
    go_ret
    exact ⟨rfl, HB.out⟩
  | true =>
  rw [s3] at H3
  replace HX := hid (by have := HX.out; rw [s3] at this; exact this)
  clear s3
  obtain rfl : v = true := by have := HX.out; simpa using this
  clear HX
  clear h
  go_enter Tryz.func31, Tryz.ntmps31
  go_wp2_with fail
  have Bp : Blk ((w.alloc (.cells #[.slice ba bs.length bc] 24)).alloc (.cells #[.int .i64 5, .int .i64 a, .int .i64 0, .int .i64 0, .int .i64 0] 63)) w.heap.size 24 #[.slice ba bs.length bc] := (Blk.new _ _ _).kept (below_alloc _)
  have Bx : Blk ((w.alloc (.cells #[.slice ba bs.length bc] 24)).alloc (.cells #[.int .i64 5, .int .i64 a, .int .i64 0, .int .i64 0, .int .i64 0] 63)) (w.heap.size + 1) 63 #[.int .i64 5, .int .i64 a, .int .i64 0, .int .i64 0, .int .i64 0] := Blk.newAt (by simp)
  have HB : Hid (Below w.heap.size w ((w.alloc (.cells #[.slice ba bs.length bc] 24)).alloc (.cells #[.int .i64 5, .int .i64 a, .int .i64 0, .int .i64 0, .int .i64 0] 63))) := hid (by exact blBy)
  generalize ((w.alloc (.cells #[.slice ba bs.length bc] 24)).alloc (.cells #[.int .i64 5, .int .i64 a, .int .i64 0, .int .i64 0, .int .i64 0] 63)) = V at *
  have xx := Bx.cellF
  have zx := Bx.lt
  have xp := Bp.cellF
  have zp := Bp.lt
  go_wp2_with (first | (go_at_call 49; refine (HA.out _).mono ?_; rintro e w1 ⟨rfl, rfl⟩) | (go_at_call 50; refine (H3.out _).mono ?_; rintro e w1 ⟨rfl, rfl⟩))
  go_ret
  exact ⟨rfl, HB.out⟩
theorem nuR_6 (w : World) (bs : List BV) (ba : Option Addr) (bc : Nat) (h : PgR w (.slice ba bs.length bc) bs) (a b c d : Int) (hia : a ≤ 9223372036854775807) : Calls Tryz.prog 31 #[.agg #[.slice ba bs.length bc], .agg #[.int .i64 6, .int .i64 a, .int .i64 b, .int .i64 c, .int .i64 d]] w (BoA w (nuI bs ⟨6, a, b, c, d⟩)) := by
  have HA : Hid (∀ W, Calls Tryz.prog 49 #[.int .i64 6] W fun e w' => e = .returned (.int .i64 1) ∧ w' = W) := hid fun W => arityR 6 W
  have HX : Hid (nuI bs ⟨6, a, b, c, d⟩ = (decide (d = 0) && (decide (c = 0) && (decide (b = 0) && (enI bs a))))) := hid (by first | rfl | (unfold nuI; simp))
  generalize nuI bs ⟨6, a, b, c, d⟩ = v at *
  by_cases zd : d = 0
  case neg =>
    have qd : (d != 0) = true := by simpa using zd
    obtain rfl : v = false := by rw [HX.out]; simp [zd]
    clear HX zd
    clear h
    go_enter Tryz.func31, Tryz.ntmps31
    go_wp2_with fail
    have Bp : Blk ((w.alloc (.cells #[.slice ba bs.length bc] 24)).alloc (.cells #[.int .i64 6, .int .i64 a, .int .i64 b, .int .i64 c, .int .i64 d] 63)) w.heap.size 24 #[.slice ba bs.length bc] := (Blk.new _ _ _).kept (below_alloc _)
    have Bx : Blk ((w.alloc (.cells #[.slice ba bs.length bc] 24)).alloc (.cells #[.int .i64 6, .int .i64 a, .int .i64 b, .int .i64 c, .int .i64 d] 63)) (w.heap.size + 1) 63 #[.int .i64 6, .int .i64 a, .int .i64 b, .int .i64 c, .int .i64 d] := Blk.newAt (by simp)
    have HB : Hid (Below w.heap.size w ((w.alloc (.cells #[.slice ba bs.length bc] 24)).alloc (.cells #[.int .i64 6, .int .i64 a, .int .i64 b, .int .i64 c, .int .i64 d] 63))) := hid (by exact blBy)
    generalize ((w.alloc (.cells #[.slice ba bs.length bc] 24)).alloc (.cells #[.int .i64 6, .int .i64 a, .int .i64 b, .int .i64 c, .int .i64 d] 63)) = V at *
    have xx := Bx.cellF
    have zx := Bx.lt
    have xp := Bp.cellF
    have zp := Bp.lt
    go_wp2_with (first | (go_at_call 49; refine (HA.out _).mono ?_; rintro e w1 ⟨rfl, rfl⟩))
    go_ret
    exact ⟨rfl, HB.out⟩
  subst zd
  by_cases zc : c = 0
  case neg =>
    have qc : (c != 0) = true := by simpa using zc
    obtain rfl : v = false := by rw [HX.out]; simp [zc]
    clear HX zc
    clear h
    go_enter Tryz.func31, Tryz.ntmps31
    go_wp2_with fail
    have Bp : Blk ((w.alloc (.cells #[.slice ba bs.length bc] 24)).alloc (.cells #[.int .i64 6, .int .i64 a, .int .i64 b, .int .i64 c, .int .i64 0] 63)) w.heap.size 24 #[.slice ba bs.length bc] := (Blk.new _ _ _).kept (below_alloc _)
    have Bx : Blk ((w.alloc (.cells #[.slice ba bs.length bc] 24)).alloc (.cells #[.int .i64 6, .int .i64 a, .int .i64 b, .int .i64 c, .int .i64 0] 63)) (w.heap.size + 1) 63 #[.int .i64 6, .int .i64 a, .int .i64 b, .int .i64 c, .int .i64 0] := Blk.newAt (by simp)
    have HB : Hid (Below w.heap.size w ((w.alloc (.cells #[.slice ba bs.length bc] 24)).alloc (.cells #[.int .i64 6, .int .i64 a, .int .i64 b, .int .i64 c, .int .i64 0] 63))) := hid (by exact blBy)
    generalize ((w.alloc (.cells #[.slice ba bs.length bc] 24)).alloc (.cells #[.int .i64 6, .int .i64 a, .int .i64 b, .int .i64 c, .int .i64 0] 63)) = V at *
    have xx := Bx.cellF
    have zx := Bx.lt
    have xp := Bp.cellF
    have zp := Bp.lt
    go_wp2_with (first | (go_at_call 49; refine (HA.out _).mono ?_; rintro e w1 ⟨rfl, rfl⟩))
    go_ret
    exact ⟨rfl, HB.out⟩
  subst zc
  by_cases zb : b = 0
  case neg =>
    have qb : (b != 0) = true := by simpa using zb
    obtain rfl : v = false := by rw [HX.out]; simp [zb]
    clear HX zb
    clear h
    go_enter Tryz.func31, Tryz.ntmps31
    go_wp2_with fail
    have Bp : Blk ((w.alloc (.cells #[.slice ba bs.length bc] 24)).alloc (.cells #[.int .i64 6, .int .i64 a, .int .i64 b, .int .i64 0, .int .i64 0] 63)) w.heap.size 24 #[.slice ba bs.length bc] := (Blk.new _ _ _).kept (below_alloc _)
    have Bx : Blk ((w.alloc (.cells #[.slice ba bs.length bc] 24)).alloc (.cells #[.int .i64 6, .int .i64 a, .int .i64 b, .int .i64 0, .int .i64 0] 63)) (w.heap.size + 1) 63 #[.int .i64 6, .int .i64 a, .int .i64 b, .int .i64 0, .int .i64 0] := Blk.newAt (by simp)
    have HB : Hid (Below w.heap.size w ((w.alloc (.cells #[.slice ba bs.length bc] 24)).alloc (.cells #[.int .i64 6, .int .i64 a, .int .i64 b, .int .i64 0, .int .i64 0] 63))) := hid (by exact blBy)
    generalize ((w.alloc (.cells #[.slice ba bs.length bc] 24)).alloc (.cells #[.int .i64 6, .int .i64 a, .int .i64 b, .int .i64 0, .int .i64 0] 63)) = V at *
    have xx := Bx.cellF
    have zx := Bx.lt
    have xp := Bp.cellF
    have zp := Bp.lt
    go_wp2_with (first | (go_at_call 49; refine (HA.out _).mono ?_; rintro e w1 ⟨rfl, rfl⟩))
    go_ret
    exact ⟨rfl, HB.out⟩
  subst zb
  have H3 := hid (fun W (hW : Below w.heap.size w W) => isEnumR W bs ba bc (h.kept hW) a)
  cases s3 : enI bs a with
  | false =>
    rw [s3] at H3
    obtain rfl : v = false := by rw [HX.out]; simp [s3]
    clear HX s3
    clear h
    go_enter Tryz.func31, Tryz.ntmps31
    go_wp2_with fail
    have Bp : Blk ((w.alloc (.cells #[.slice ba bs.length bc] 24)).alloc (.cells #[.int .i64 6, .int .i64 a, .int .i64 0, .int .i64 0, .int .i64 0] 63)) w.heap.size 24 #[.slice ba bs.length bc] := (Blk.new _ _ _).kept (below_alloc _)
    have Bx : Blk ((w.alloc (.cells #[.slice ba bs.length bc] 24)).alloc (.cells #[.int .i64 6, .int .i64 a, .int .i64 0, .int .i64 0, .int .i64 0] 63)) (w.heap.size + 1) 63 #[.int .i64 6, .int .i64 a, .int .i64 0, .int .i64 0, .int .i64 0] := Blk.newAt (by simp)
    have HB : Hid (Below w.heap.size w ((w.alloc (.cells #[.slice ba bs.length bc] 24)).alloc (.cells #[.int .i64 6, .int .i64 a, .int .i64 0, .int .i64 0, .int .i64 0] 63))) := hid (by exact blBy)
    generalize ((w.alloc (.cells #[.slice ba bs.length bc] 24)).alloc (.cells #[.int .i64 6, .int .i64 a, .int .i64 0, .int .i64 0, .int .i64 0] 63)) = V at *
    have xx := Bx.cellF
    have zx := Bx.lt
    have xp := Bp.cellF
    have zp := Bp.lt
    go_wp2_with (first | (go_at_call 49; refine (HA.out _).mono ?_; rintro e w1 ⟨rfl, rfl⟩) | (go_at_call 51; refine (H3.out _ HB.out).mono ?_; rintro e w1 ⟨rfl, hbx⟩; replace HB := hid (below_trans HB.out hbx); replace Bx := Bx.kept hbx; replace Bp := Bp.kept hbx; clear xx zx xp zp hbx; have xx := Bx.cellF; have zx := Bx.lt; have xp := Bp.cellF; have zp := Bp.lt))
    go_ret
    exact ⟨rfl, HB.out⟩
  | true =>
  rw [s3] at H3
  replace HX := hid (by have := HX.out; rw [s3] at this; exact this)
  clear s3
  obtain rfl : v = true := by have := HX.out; simpa using this
  clear HX
  clear h
  go_enter Tryz.func31, Tryz.ntmps31
  go_wp2_with fail
  have Bp : Blk ((w.alloc (.cells #[.slice ba bs.length bc] 24)).alloc (.cells #[.int .i64 6, .int .i64 a, .int .i64 0, .int .i64 0, .int .i64 0] 63)) w.heap.size 24 #[.slice ba bs.length bc] := (Blk.new _ _ _).kept (below_alloc _)
  have Bx : Blk ((w.alloc (.cells #[.slice ba bs.length bc] 24)).alloc (.cells #[.int .i64 6, .int .i64 a, .int .i64 0, .int .i64 0, .int .i64 0] 63)) (w.heap.size + 1) 63 #[.int .i64 6, .int .i64 a, .int .i64 0, .int .i64 0, .int .i64 0] := Blk.newAt (by simp)
  have HB : Hid (Below w.heap.size w ((w.alloc (.cells #[.slice ba bs.length bc] 24)).alloc (.cells #[.int .i64 6, .int .i64 a, .int .i64 0, .int .i64 0, .int .i64 0] 63))) := hid (by exact blBy)
  generalize ((w.alloc (.cells #[.slice ba bs.length bc] 24)).alloc (.cells #[.int .i64 6, .int .i64 a, .int .i64 0, .int .i64 0, .int .i64 0] 63)) = V at *
  have xx := Bx.cellF
  have zx := Bx.lt
  have xp := Bp.cellF
  have zp := Bp.lt
  go_wp2_with (first | (go_at_call 49; refine (HA.out _).mono ?_; rintro e w1 ⟨rfl, rfl⟩) | (go_at_call 51; refine (H3.out _ HB.out).mono ?_; rintro e w1 ⟨rfl, hbx⟩; replace HB := hid (below_trans HB.out hbx); replace Bx := Bx.kept hbx; replace Bp := Bp.kept hbx; clear xx zx xp zp hbx; have xx := Bx.cellF; have zx := Bx.lt; have xp := Bp.cellF; have zp := Bp.lt))
  go_ret
  exact ⟨rfl, HB.out⟩
end Go.Proofs.YtdhkbdngmejklaaGreatDoor
