/-
  The program's questions about tags, blocks of kinds, and places ahead, both ways.
  The document's: are an operation's numbers what they may be? (what is asked)
  The document's: are an operation's numbers what they may be? (a part)
-/
import Derived.Test.YtdhkbdngmejklaaGreatDoorCKO
namespace Go.Proofs.YtdhkbdngmejklaaGreatDoor
open Go.RowKit
set_option maxRecDepth 1000000
set_option linter.unusedVariables false
set_option linter.unusedSimpArgs false
set_option maxHeartbeats 1000000
theorem isTagP (w : World) (t : Int) : Calls Tryz.prog 48 #[.int .i64 t] w fun e w' => e = .returned (.bool (tgI t)) ∧ w' = w := by
  have h1 : bits .and .i64 t 7 = t % 8 := i64_and7 t
  have HF := hid (fun W => isFieldP W (t / 8))
  have HE : Hid (tgI t = (fdI (t / 8) && decide (t % 8 = 0 ∨ t % 8 = 1 ∨ t % 8 = 2 ∨ t % 8 = 5))) := hid (by
    unfold tgI fdI
    rw [← Bool.decide_and]
    exact decide_eq_decide.2 ⟨fun h => ⟨⟨by omega, h.2.1⟩, h.2.2⟩, fun h => ⟨by omega, h.1.2, h.2⟩⟩)
  generalize tgI t = tv at *
  generalize fdI (t / 8) = fv at *
  generalize hk : t % 8 = k at *
  clear hk
  by_cases k0 : k = 0
  · subst k0
    obtain rfl : tv = fv := by rw [HE.out]; simp
    clear HE
    go_enter Tryz.func48, Tryz.ntmps48
    go_wp2_with (first | (go_at_call 80; refine (HF.out _).mono ?_; rintro e w1 ⟨rfl, rfl⟩))
    go_ret
    exact ⟨rfl, rfl⟩
  by_cases k1 : k = 1
  · subst k1
    obtain rfl : tv = fv := by rw [HE.out]; simp
    clear HE k0
    go_enter Tryz.func48, Tryz.ntmps48
    go_wp2_with (first | (go_at_call 80; refine (HF.out _).mono ?_; rintro e w1 ⟨rfl, rfl⟩))
    go_ret
    exact ⟨rfl, rfl⟩
  by_cases k2 : k = 2
  · subst k2
    obtain rfl : tv = fv := by rw [HE.out]; simp
    clear HE k0 k1
    go_enter Tryz.func48, Tryz.ntmps48
    go_wp2_with (first | (go_at_call 80; refine (HF.out _).mono ?_; rintro e w1 ⟨rfl, rfl⟩))
    go_ret
    exact ⟨rfl, rfl⟩
  by_cases k5 : k = 5
  · subst k5
    obtain rfl : tv = fv := by rw [HE.out]; simp
    clear HE k0 k1 k2
    go_enter Tryz.func48, Tryz.ntmps48
    go_wp2_with (first | (go_at_call 80; refine (HF.out _).mono ?_; rintro e w1 ⟨rfl, rfl⟩))
    go_ret
    exact ⟨rfl, rfl⟩
  · obtain rfl : tv = false := by rw [HE.out]; simp [k0, k1, k2, k5]
    have q0 : (k == 0) = false := by simpa using k0
    have q1 : (k == 1) = false := by simpa using k1
    have q2 : (k == 2) = false := by simpa using k2
    have q5 : (k == 5) = false := by simpa using k5
    clear HE k0 k1 k2 k5 HF
    go_enter Tryz.func48, Tryz.ntmps48
    go_wp2
    go_ret
    exact ⟨rfl, rfl⟩
theorem isOfKindP (w : World) (bs : List BV) (ba : Option Addr) (bc : Nat) (h : PgR w (.slice ba bs.length bc) bs) (hz : ∀ x ∈ bs, x.k.dec.length ≤ 140737488355328 ∧ x.k.enc.length ≤ 140737488355328) (kind k : Int) : Calls Tryz.prog 85 #[.slice ba bs.length bc, .int .i64 kind, .int .i64 k] w (BoA w (kdI kind && bkI bs kind k)) := by
  have HE := hid (fun W hW => isEnumP W bs ba bc (h.kept (w' := W) hW) hz k)
  have HM := hid (fun W hW => isMessageP W bs ba bc (h.kept (w' := W) hW) hz k)
  clear h hz
  by_cases k16 : kind = 16
  · have e : (kdI kind && bkI bs kind k) = enI bs k := by unfold bkI; rw [if_pos k16, k16]; rfl
    rw [e]
    have q16 : (kind == 16) = true := by simp [k16]
    generalize enI bs k = v at *
    clear e k16 HM
    go_enter Tryz.func85, Tryz.ntmps85
    go_wp2_with (first | (go_at_call 79; refine (HE.out _ (by first | exact Below.refl _ _ | exact blBy)).mono ?_; rintro e w1 ⟨rfl, hb⟩))
    go_ret
    exact ⟨rfl, by first | exact hb | exact bl_then (by exact blBy) hb⟩
  have q16 : (kind == 16) = false := by simpa using k16
  by_cases k17 : kind = 17
  · have e : (kdI kind && bkI bs kind k) = msI bs k := by unfold bkI; rw [if_neg k16, if_pos k17, k17]; rfl
    rw [e]
    have q17 : (kind == 17) = true := by simp [k17]
    generalize msI bs k = v at *
    clear e k16 k17 HE
    go_enter Tryz.func85, Tryz.ntmps85
    go_wp2_with (first | (go_at_call 81; refine (HM.out _ (by first | exact Below.refl _ _ | exact blBy)).mono ?_; rintro e w1 ⟨rfl, hb⟩))
    go_ret
    exact ⟨rfl, by first | exact hb | exact bl_then (by exact blBy) hb⟩
  have q17 : (kind == 17) = false := by simpa using k17
  have HS := hid (fun W => isSingleP W kind)
  have e : (kdI kind && bkI bs kind k) = (sgI kind && (k == 0)) := by
    unfold bkI
    rw [if_neg k16, if_neg k17]
    have e1 : kdI kind = sgI kind := by unfold kdI sgI; exact decide_eq_decide.2 ⟨fun h => ⟨h.1, by omega⟩, fun h => ⟨h.1, by omega⟩⟩
    have e2 : decide (k = 0) = (k == 0) := by by_cases h : k = 0 <;> simp [h]
    rw [e1, e2]
  rw [e]
  clear e k16 k17 HE HM
  cases hs : sgI kind with
  | false =>
    rw [hs] at HS
    clear hs
    go_enter Tryz.func85, Tryz.ntmps85
    go_wp2_with (first | (go_at_call 78; refine (HS.out _).mono ?_; rintro e w1 ⟨rfl, rfl⟩))
    go_ret
    exact ⟨ret_bool (by first | rfl | simp), by first | exact Below.refl _ _ | exact blBy⟩
  | true =>
    rw [hs] at HS
    clear hs
    go_enter Tryz.func85, Tryz.ntmps85
    go_wp2_with (first | (go_at_call 78; refine (HS.out _).mono ?_; rintro e w1 ⟨rfl, rfl⟩))
    go_ret
    exact ⟨ret_bool (by first | rfl | simp), by first | exact Below.refl _ _ | exact blBy⟩
/-- A place ahead. -/
def ahI (n i : Nat) (t : Int) : Bool := decide ((i : Int) < t ∧ t < (n : Int))
theorem isDecP (w : World) (pa ps i n : Nat) (sa : Option Addr) (sc : Nat) (tg : Int) (h1 : Blk w pa 3 #[.int .i64 i]) (h2 : Blk w ps 28 #[.slice sa n sc]) (hn : n ≤ 140737488355328) : Calls Tryz.prog 43 #[.int .i64 tg, .pointer (some ⟨pa, 0, none⟩), .pointer (some ⟨ps, 0, none⟩)] w (BoA w (ahI n i tg)) := by
  have x1 := h1.cellF
  have z1 := h1.lt
  have x2 := h2.cellF
  have z2 := h2.lt
  clear h1 h2
  by_cases g1 : (i : Int) < tg
  · have r1 : ((i : Int) < tg) = True := eq_true g1
    by_cases g2 : tg < (n : Int)
    · have r2 : (tg < (n : Int)) = True := eq_true g2
      have e : ahI n i tg = true := decide_eq_true ⟨g1, g2⟩
      rw [e]
      clear g1 g2 e
      go_enter Tryz.func43, Tryz.ntmps43
      go_wp2
      first
        | (go_ret; exact ⟨rfl, by first | exact Below.refl _ _ | exact blBy⟩)
        | (go_quiet (fail); go_wp2; go_ret; exact ⟨rfl, by first | exact below_drewN _ _ | exact blBy⟩)
    · have r2 : (tg < (n : Int)) = False := eq_false g2
      have e : ahI n i tg = false := decide_eq_false (fun h => g2 h.2)
      rw [e]
      clear g1 g2 e
      go_enter Tryz.func43, Tryz.ntmps43
      go_wp2
      first
        | (go_ret; exact ⟨rfl, by first | exact Below.refl _ _ | exact blBy⟩)
        | (go_quiet (fail); go_wp2; go_ret; exact ⟨rfl, by first | exact below_drewN _ _ | exact blBy⟩)
  · have r1 : ((i : Int) < tg) = False := eq_false g1
    have e : ahI n i tg = false := decide_eq_false (fun h => g1 h.1)
    rw [e]
    clear g1 e
    go_enter Tryz.func43, Tryz.ntmps43
    go_wp2
    first
      | (go_ret; exact ⟨rfl, by first | exact Below.refl _ _ | exact blBy⟩)
      | (go_quiet (fail); go_wp2; go_ret; exact ⟨rfl, by first | exact below_drewN _ _ | exact blBy⟩)
theorem isEncP (w : World) (pa ps i n : Nat) (sa : Option Addr) (sc : Nat) (tg : Int) (h1 : Blk w pa 3 #[.int .i64 i]) (h2 : Blk w ps 28 #[.slice sa n sc]) (hn : n ≤ 140737488355328) : Calls Tryz.prog 45 #[.int .i64 tg, .pointer (some ⟨pa, 0, none⟩), .pointer (some ⟨ps, 0, none⟩)] w (BoA w (ahI n i tg)) := by
  have x1 := h1.cellF
  have z1 := h1.lt
  have x2 := h2.cellF
  have z2 := h2.lt
  clear h1 h2
  by_cases g1 : (i : Int) < tg
  · have r1 : ((i : Int) < tg) = True := eq_true g1
    by_cases g2 : tg < (n : Int)
    · have r2 : (tg < (n : Int)) = True := eq_true g2
      have e : ahI n i tg = true := decide_eq_true ⟨g1, g2⟩
      rw [e]
      clear g1 g2 e
      go_enter Tryz.func45, Tryz.ntmps45
      go_wp2
      first
        | (go_ret; exact ⟨rfl, by first | exact Below.refl _ _ | exact blBy⟩)
        | (go_quiet (fail); go_wp2; go_ret; exact ⟨rfl, by first | exact below_drewN _ _ | exact blBy⟩)
    · have r2 : (tg < (n : Int)) = False := eq_false g2
      have e : ahI n i tg = false := decide_eq_false (fun h => g2 h.2)
      rw [e]
      clear g1 g2 e
      go_enter Tryz.func45, Tryz.ntmps45
      go_wp2
      first
        | (go_ret; exact ⟨rfl, by first | exact Below.refl _ _ | exact blBy⟩)
        | (go_quiet (fail); go_wp2; go_ret; exact ⟨rfl, by first | exact below_drewN _ _ | exact blBy⟩)
  · have r1 : ((i : Int) < tg) = False := eq_false g1
    have e : ahI n i tg = false := decide_eq_false (fun h => g1 h.1)
    rw [e]
    clear g1 e
    go_enter Tryz.func45, Tryz.ntmps45
    go_wp2
    first
      | (go_ret; exact ⟨rfl, by first | exact Below.refl _ _ | exact blBy⟩)
      | (go_quiet (fail); go_wp2; go_ret; exact ⟨rfl, by first | exact below_drewN _ _ | exact blBy⟩)
set_option maxHeartbeats 4000000
def nuI (bs : List BV) (s : IN) : Bool := if s.op = 2 then decide (s.d = 0) && (decide (s.c = 0) && (tgI s.a)) else if s.op = 3 then decide (s.d = 0) && (decide (s.c = 0) && (decide (s.b = 0))) else if s.op = 4 then decide (s.d = 0) && (decide (s.c = 0) && (decide (s.b = 0))) else if s.op = 5 then decide (s.d = 0) && (decide (s.c = 0) && (decide (s.b = 0) && (sgI s.a))) else if s.op = 6 then decide (s.d = 0) && (decide (s.c = 0) && (decide (s.b = 0) && (enI bs s.a))) else if s.op = 7 then decide (s.d = 0) && (decide (s.c = 0) && (decide (s.b = 0) && (fdI s.a))) else if s.op = 8 then decide (s.d = 0) && (decide (s.c = 0) && (decide (s.b = 0) && (fdI s.a))) else if s.op = 9 then decide (s.d = 0) && (decide (s.c = 0) && (decide (s.b = 0) && (fdI s.a))) else if s.op = 10 then decide (s.d = 0) && (fdI s.a && (msI bs s.b && (decide (0 ≤ s.c) && (decide (s.c ≤ 2))))) else if s.op = 11 then (decide (s.d = 0)) && (if s.b = 16 then fdI s.a && enI bs (s.c - 1) else fdI s.a && (knum s.b && decide (s.c = 0))) else if s.op = 12 then fdI s.a && (kkey s.b && (kdI s.c && (bkI bs s.c s.d))) else if s.op = 14 then decide (s.d = 0) && (decide (s.c = 0) && (sgI s.a && (fdI s.b))) else if s.op = 15 then decide (s.d = 0) && (decide (s.c = 0) && (sgI s.a && (fdI s.b))) else if s.op = 16 then decide (s.d = 0) && (fdI s.a && (decide (0 ≤ s.c) && (decide (s.c ≤ 16)))) else if s.op = 17 then decide (s.d = 0) && (decide (s.c = 0) && (decide (s.b = 0) && (tgI s.a))) else if s.op = 18 then decide (s.d = 0) && (decide (s.c = 0) && (decide (s.b = 0) && (sgI s.a))) else if s.op = 19 then decide (s.d = 0) && (decide (s.c = 0) && (decide (s.b = 0) && (msI bs s.a))) else if s.op = 20 then decide (s.d = 0) && (tgI s.a && (kdI s.b && (bkI bs s.b s.c))) else if s.op = 21 then decide (s.d = 0) && (decide (s.c = 0) && (tgI s.a && (knum s.b))) else if s.op = 22 then tgI s.a && (kkey s.b && (kdI s.c && (bkI bs s.c s.d))) else if s.op = 25 then decide (s.d = 0) && (decide (s.c = 0) && (tgI s.a && (sgI s.b))) else decide (s.d = 0) && (decide (s.c = 0) && (decide (s.b = 0) && (decide (s.a = 0))))
theorem nuR_2 (w : World) (bs : List BV) (ba : Option Addr) (bc : Nat) (h : PgR w (.slice ba bs.length bc) bs) (a b c d : Int) (hia : a ≤ 9223372036854775807) : Calls Tryz.prog 31 #[.agg #[.slice ba bs.length bc], .agg #[.int .i64 2, .int .i64 a, .int .i64 b, .int .i64 c, .int .i64 d]] w (BoA w (nuI bs ⟨2, a, b, c, d⟩)) := by
  have HA : Hid (∀ W, Calls Tryz.prog 49 #[.int .i64 2] W fun e w' => e = .returned (.int .i64 2) ∧ w' = W) := hid fun W => arityR 2 W
  have HX : Hid (nuI bs ⟨2, a, b, c, d⟩ = (decide (d = 0) && (decide (c = 0) && (tgI a)))) := hid (by first | rfl | (unfold nuI; simp))
  generalize nuI bs ⟨2, a, b, c, d⟩ = v at *
  by_cases zd : d = 0
  case neg =>
    have qd : (d != 0) = true := by simpa using zd
    obtain rfl : v = false := by rw [HX.out]; simp [zd]
    clear HX zd
    clear h
    go_enter Tryz.func31, Tryz.ntmps31
    go_wp2_with fail
    have Bp : Blk ((w.alloc (.cells #[.slice ba bs.length bc] 24)).alloc (.cells #[.int .i64 2, .int .i64 a, .int .i64 b, .int .i64 c, .int .i64 d] 63)) w.heap.size 24 #[.slice ba bs.length bc] := (Blk.new _ _ _).kept (below_alloc _)
    have Bx : Blk ((w.alloc (.cells #[.slice ba bs.length bc] 24)).alloc (.cells #[.int .i64 2, .int .i64 a, .int .i64 b, .int .i64 c, .int .i64 d] 63)) (w.heap.size + 1) 63 #[.int .i64 2, .int .i64 a, .int .i64 b, .int .i64 c, .int .i64 d] := Blk.newAt (by simp)
    have HB : Hid (Below w.heap.size w ((w.alloc (.cells #[.slice ba bs.length bc] 24)).alloc (.cells #[.int .i64 2, .int .i64 a, .int .i64 b, .int .i64 c, .int .i64 d] 63))) := hid (by exact blBy)
    generalize ((w.alloc (.cells #[.slice ba bs.length bc] 24)).alloc (.cells #[.int .i64 2, .int .i64 a, .int .i64 b, .int .i64 c, .int .i64 d] 63)) = V at *
    have xx := Bx.cellF
    have zx := Bx.lt
    have xp := Bp.cellF
    have zp := Bp.lt
    go_wp2_with (first | (go_at_call 49; refine (HA.out _).mono ?_; rintro e w1 ⟨rfl, rfl⟩))
    go_ret
    exact ⟨rfl, HB.out⟩
  subst zd
  by_cases zc : c = 0
  case neg =>
    have qc : (c != 0) = true := by simpa using zc
    obtain rfl : v = false := by rw [HX.out]; simp [zc]
    clear HX zc
    clear h
    go_enter Tryz.func31, Tryz.ntmps31
    go_wp2_with fail
    have Bp : Blk ((w.alloc (.cells #[.slice ba bs.length bc] 24)).alloc (.cells #[.int .i64 2, .int .i64 a, .int .i64 b, .int .i64 c, .int .i64 0] 63)) w.heap.size 24 #[.slice ba bs.length bc] := (Blk.new _ _ _).kept (below_alloc _)
    have Bx : Blk ((w.alloc (.cells #[.slice ba bs.length bc] 24)).alloc (.cells #[.int .i64 2, .int .i64 a, .int .i64 b, .int .i64 c, .int .i64 0] 63)) (w.heap.size + 1) 63 #[.int .i64 2, .int .i64 a, .int .i64 b, .int .i64 c, .int .i64 0] := Blk.newAt (by simp)
    have HB : Hid (Below w.heap.size w ((w.alloc (.cells #[.slice ba bs.length bc] 24)).alloc (.cells #[.int .i64 2, .int .i64 a, .int .i64 b, .int .i64 c, .int .i64 0] 63))) := hid (by exact blBy)
    generalize ((w.alloc (.cells #[.slice ba bs.length bc] 24)).alloc (.cells #[.int .i64 2, .int .i64 a, .int .i64 b, .int .i64 c, .int .i64 0] 63)) = V at *
    have xx := Bx.cellF
    have zx := Bx.lt
    have xp := Bp.cellF
    have zp := Bp.lt
    go_wp2_with (first | (go_at_call 49; refine (HA.out _).mono ?_; rintro e w1 ⟨rfl, rfl⟩))
    go_ret
    exact ⟨rfl, HB.out⟩
  subst zc
  have H2 := hid (fun W => isTagR W a hia)
  cases s2 : tgI a with
  | false =>
    rw [s2] at H2
    obtain rfl : v = false := by rw [HX.out]; simp [s2]
    clear HX s2
    clear h
    go_enter Tryz.func31, Tryz.ntmps31
    go_wp2_with fail
    have Bp : Blk ((w.alloc (.cells #[.slice ba bs.length bc] 24)).alloc (.cells #[.int .i64 2, .int .i64 a, .int .i64 b, .int .i64 0, .int .i64 0] 63)) w.heap.size 24 #[.slice ba bs.length bc] := (Blk.new _ _ _).kept (below_alloc _)
    have Bx : Blk ((w.alloc (.cells #[.slice ba bs.length bc] 24)).alloc (.cells #[.int .i64 2, .int .i64 a, .int .i64 b, .int .i64 0, .int .i64 0] 63)) (w.heap.size + 1) 63 #[.int .i64 2, .int .i64 a, .int .i64 b, .int .i64 0, .int .i64 0] := Blk.newAt (by simp)
    have HB : Hid (Below w.heap.size w ((w.alloc (.cells #[.slice ba bs.length bc] 24)).alloc (.cells #[.int .i64 2, .int .i64 a, .int .i64 b, .int .i64 0, .int .i64 0] 63))) := hid (by exact blBy)
    generalize ((w.alloc (.cells #[.slice ba bs.length bc] 24)).alloc (.cells #[.int .i64 2, .int .i64 a, .int .i64 b, .int .i64 0, .int .i64 0] 63)) = V at *
    have xx := Bx.cellF
    have zx := Bx.lt
    have xp := Bp.cellF
    have zp := Bp.lt
    go_wp2_with (first | (go_at_call 49; refine (HA.out _).mono ?_; rintro e w1 ⟨rfl, rfl⟩) | (go_at_call 32; refine (H2.out _).mono ?_; rintro e w1 ⟨rfl, hbx⟩; replace HB := hid (below_trans HB.out hbx); replace Bx := Bx.kept hbx; replace Bp := Bp.kept hbx; clear xx zx xp zp hbx; have xx := Bx.cellF; have zx := Bx.lt; have xp := Bp.cellF; have zp := Bp.lt))
    go_ret
    exact ⟨rfl, HB.out⟩
  | true =>
  rw [s2] at H2
  replace HX := hid (by have := HX.out; rw [s2] at this; exact this)
  clear s2
  obtain rfl : v = true := by have := HX.out; simpa using this
  clear HX
  clear h
  go_enter Tryz.func31, Tryz.ntmps31
  go_wp2_with fail
  have Bp : Blk ((w.alloc (.cells #[.slice ba bs.length bc] 24)).alloc (.cells #[.int .i64 2, .int .i64 a, .int .i64 b, .int .i64 0, .int .i64 0] 63)) w.heap.size 24 #[.slice ba bs.length bc] := (Blk.new _ _ _).kept (below_alloc _)
  have Bx : Blk ((w.alloc (.cells #[.slice ba bs.length bc] 24)).alloc (.cells #[.int .i64 2, .int .i64 a, .int .i64 b, .int .i64 0, .int .i64 0] 63)) (w.heap.size + 1) 63 #[.int .i64 2, .int .i64 a, .int .i64 b, .int .i64 0, .int .i64 0] := Blk.newAt (by simp)
  have HB : Hid (Below w.heap.size w ((w.alloc (.cells #[.slice ba bs.length bc] 24)).alloc (.cells #[.int .i64 2, .int .i64 a, .int .i64 b, .int .i64 0, .int .i64 0] 63))) := hid (by exact blBy)
  generalize ((w.alloc (.cells #[.slice ba bs.length bc] 24)).alloc (.cells #[.int .i64 2, .int .i64 a, .int .i64 b, .int .i64 0, .int .i64 0] 63)) = V at *
  have xx := Bx.cellF
  have zx := Bx.lt
  have xp := Bp.cellF
  have zp := Bp.lt
  go_wp2_with (first | (go_at_call 49; refine (HA.out _).mono ?_; rintro e w1 ⟨rfl, rfl⟩) | (go_at_call 32; refine (H2.out _).mono ?_; rintro e w1 ⟨rfl, hbx⟩; replace HB := hid (below_trans HB.out hbx); replace Bx := Bx.kept hbx; replace Bp := Bp.kept hbx; clear xx zx xp zp hbx; have xx := Bx.cellF; have zx := Bx.lt; have xp := Bp.cellF; have zp := Bp.lt))
  go_ret
  exact ⟨rfl, HB.out⟩
theorem nuR_3 (w : World) (bs : List BV) (ba : Option Addr) (bc : Nat) (h : PgR w (.slice ba bs.length bc) bs) (a b c d : Int) (hia : a ≤ 9223372036854775807) : Calls Tryz.prog 31 #[.agg #[.slice ba bs.length bc], .agg #[.int .i64 3, .int .i64 a, .int .i64 b, .int .i64 c, .int .i64 d]] w (BoA w (nuI bs ⟨3, a, b, c, d⟩)) := by
  have HA : Hid (∀ W, Calls Tryz.prog 49 #[.int .i64 3] W fun e w' => e = .returned (.int .i64 1) ∧ w' = W) := hid fun W => arityR 3 W
  have HX : Hid (nuI bs ⟨3, a, b, c, d⟩ = (decide (d = 0) && (decide (c = 0) && (decide (b = 0))))) := hid (by first | rfl | (unfold nuI; simp))
  generalize nuI bs ⟨3, a, b, c, d⟩ = v at *
  by_cases zd : d = 0
  case neg =>
    have qd : (d != 0) = true := by simpa using zd
    obtain rfl : v = false := by rw [HX.out]; simp [zd]
    clear HX zd
    clear h
    go_enter Tryz.func31, Tryz.ntmps31
    go_wp2_with fail
    have Bp : Blk ((w.alloc (.cells #[.slice ba bs.length bc] 24)).alloc (.cells #[.int .i64 3, .int .i64 a, .int .i64 b, .int .i64 c, .int .i64 d] 63)) w.heap.size 24 #[.slice ba bs.length bc] := (Blk.new _ _ _).kept (below_alloc _)
    have Bx : Blk ((w.alloc (.cells #[.slice ba bs.length bc] 24)).alloc (.cells #[.int .i64 3, .int .i64 a, .int .i64 b, .int .i64 c, .int .i64 d] 63)) (w.heap.size + 1) 63 #[.int .i64 3, .int .i64 a, .int .i64 b, .int .i64 c, .int .i64 d] := Blk.newAt (by simp)
    have HB : Hid (Below w.heap.size w ((w.alloc (.cells #[.slice ba bs.length bc] 24)).alloc (.cells #[.int .i64 3, .int .i64 a, .int .i64 b, .int .i64 c, .int .i64 d] 63))) := hid (by exact blBy)
    generalize ((w.alloc (.cells #[.slice ba bs.length bc] 24)).alloc (.cells #[.int .i64 3, .int .i64 a, .int .i64 b, .int .i64 c, .int .i64 d] 63)) = V at *
    have xx := Bx.cellF
    have zx := Bx.lt
    have xp := Bp.cellF
    have zp := Bp.lt
    go_wp2_with (first | (go_at_call 49; refine (HA.out _).mono ?_; rintro e w1 ⟨rfl, rfl⟩))
    go_ret
    exact ⟨rfl, HB.out⟩
  subst zd
  by_cases zc : c = 0
  case neg =>
    have qc : (c != 0) = true := by simpa using zc
    obtain rfl : v = false := by rw [HX.out]; simp [zc]
    clear HX zc
    clear h
    go_enter Tryz.func31, Tryz.ntmps31
    go_wp2_with fail
    have Bp : Blk ((w.alloc (.cells #[.slice ba bs.length bc] 24)).alloc (.cells #[.int .i64 3, .int .i64 a, .int .i64 b, .int .i64 c, .int .i64 0] 63)) w.heap.size 24 #[.slice ba bs.length bc] := (Blk.new _ _ _).kept (below_alloc _)
    have Bx : Blk ((w.alloc (.cells #[.slice ba bs.length bc] 24)).alloc (.cells #[.int .i64 3, .int .i64 a, .int .i64 b, .int .i64 c, .int .i64 0] 63)) (w.heap.size + 1) 63 #[.int .i64 3, .int .i64 a, .int .i64 b, .int .i64 c, .int .i64 0] := Blk.newAt (by simp)
    have HB : Hid (Below w.heap.size w ((w.alloc (.cells #[.slice ba bs.length bc] 24)).alloc (.cells #[.int .i64 3, .int .i64 a, .int .i64 b, .int .i64 c, .int .i64 0] 63))) := hid (by exact blBy)
    generalize ((w.alloc (.cells #[.slice ba bs.length bc] 24)).alloc (.cells #[.int .i64 3, .int .i64 a, .int .i64 b, .int .i64 c, .int .i64 0] 63)) = V at *
    have xx := Bx.cellF
    have zx := Bx.lt
    have xp := Bp.cellF
    have zp := Bp.lt
    go_wp2_with (first | (go_at_call 49; refine (HA.out _).mono ?_; rintro e w1 ⟨rfl, rfl⟩))
    go_ret
    exact ⟨rfl, HB.out⟩
  subst zc
  by_cases zb : b = 0
  case neg =>
    have qb : (b != 0) = true := by simpa using zb
    obtain rfl : v = false := by rw [HX.out]; simp [zb]
    clear HX zb
    clear h
    go_enter Tryz.func31, Tryz.ntmps31
    go_wp2_with fail
    have Bp : Blk ((w.alloc (.cells #[.slice ba bs.length bc] 24)).alloc (.cells #[.int .i64 3, .int .i64 a, .int .i64 b, .int .i64 0, .int .i64 0] 63)) w.heap.size 24 #[.slice ba bs.length bc] := (Blk.new _ _ _).kept (below_alloc _)
    have Bx : Blk ((w.alloc (.cells #[.slice ba bs.length bc] 24)).alloc (.cells #[.int .i64 3, .int .i64 a, .int .i64 b, .int .i64 0, .int .i64 0] 63)) (w.heap.size + 1) 63 #[.int .i64 3, .int .i64 a, .int .i64 b, .int .i64 0, .int .i64 0] := Blk.newAt (by simp)
    have HB : Hid (Below w.heap.size w ((w.alloc (.cells #[.slice ba bs.length bc] 24)).alloc (.cells #[.int .i64 3, .int .i64 a, .int .i64 b, .int .i64 0, .int .i64 0] 63))) := hid (by exact blBy)
    generalize ((w.alloc (.cells #[.slice ba bs.length bc] 24)).alloc (.cells #[.int .i64 3, .int .i64 a, .int .i64 b, .int .i64 0, .int .i64 0] 63)) = V at *
    have xx := Bx.cellF
    have zx := Bx.lt
    have xp := Bp.cellF
    have zp := Bp.lt
    go_wp2_with (first | (go_at_call 49; refine (HA.out _).mono ?_; rintro e w1 ⟨rfl, rfl⟩))
    go_ret
    exact ⟨rfl, HB.out⟩
  subst zb
  obtain rfl : v = true := by have := HX.out; simpa using this
  clear HX
  clear h
  go_enter Tryz.func31, Tryz.ntmps31
  go_wp2_with fail
  have Bp : Blk ((w.alloc (.cells #[.slice ba bs.length bc] 24)).alloc (.cells #[.int .i64 3, .int .i64 a, .int .i64 0, .int .i64 0, .int .i64 0] 63)) w.heap.size 24 #[.slice ba bs.length bc] := (Blk.new _ _ _).kept (below_alloc _)
  have Bx : Blk ((w.alloc (.cells #[.slice ba bs.length bc] 24)).alloc (.cells #[.int .i64 3, .int .i64 a, .int .i64 0, .int .i64 0, .int .i64 0] 63)) (w.heap.size + 1) 63 #[.int .i64 3, .int .i64 a, .int .i64 0, .int .i64 0, .int .i64 0] := Blk.newAt (by simp)
  have HB : Hid (Below w.heap.size w ((w.alloc (.cells #[.slice ba bs.length bc] 24)).alloc (.cells #[.int .i64 3, .int .i64 a, .int .i64 0, .int .i64 0, .int .i64 0] 63))) := hid (by exact blBy)
  generalize ((w.alloc (.cells #[.slice ba bs.length bc] 24)).alloc (.cells #[.int .i64 3, .int .i64 a, .int .i64 0, .int .i64 0, .int .i64 0] 63)) = V at *
  have xx := Bx.cellF
  have zx := Bx.lt
  have xp := Bp.cellF
  have zp := Bp.lt
  go_wp2_with (first | (go_at_call 49; refine (HA.out _).mono ?_; rintro e w1 ⟨rfl, rfl⟩))
  go_ret
  exact ⟨rfl, HB.out⟩
theorem nuR_4 (w : World) (bs : List BV) (ba : Option Addr) (bc : Nat) (h : PgR w (.slice ba bs.length bc) bs) (a b c d : Int) (hia : a ≤ 9223372036854775807) : Calls Tryz.prog 31 #[.agg #[.slice ba bs.length bc], .agg #[.int .i64 4, .int .i64 a, .int .i64 b, .int .i64 c, .int .i64 d]] w (BoA w (nuI bs ⟨4, a, b, c, d⟩)) := by
  have HA : Hid (∀ W, Calls Tryz.prog 49 #[.int .i64 4] W fun e w' => e = .returned (.int .i64 1) ∧ w' = W) := hid fun W => arityR 4 W
  have HX : Hid (nuI bs ⟨4, a, b, c, d⟩ = (decide (d = 0) && (decide (c = 0) && (decide (b = 0))))) := hid (by first | rfl | (unfold nuI; simp))
  generalize nuI bs ⟨4, a, b, c, d⟩ = v at *
  by_cases zd : d = 0
  case neg =>
    have qd : (d != 0) = true := by simpa using zd
    obtain rfl : v = false := by rw [HX.out]; simp [zd]
    clear HX zd
    clear h
    go_enter Tryz.func31, Tryz.ntmps31
    go_wp2_with fail
    have Bp : Blk ((w.alloc (.cells #[.slice ba bs.length bc] 24)).alloc (.cells #[.int .i64 4, .int .i64 a, .int .i64 b, .int .i64 c, .int .i64 d] 63)) w.heap.size 24 #[.slice ba bs.length bc] := (Blk.new _ _ _).kept (below_alloc _)
    have Bx : Blk ((w.alloc (.cells #[.slice ba bs.length bc] 24)).alloc (.cells #[.int .i64 4, .int .i64 a, .int .i64 b, .int .i64 c, .int .i64 d] 63)) (w.heap.size + 1) 63 #[.int .i64 4, .int .i64 a, .int .i64 b, .int .i64 c, .int .i64 d] := Blk.newAt (by simp)
    have HB : Hid (Below w.heap.size w ((w.alloc (.cells #[.slice ba bs.length bc] 24)).alloc (.cells #[.int .i64 4, .int .i64 a, .int .i64 b, .int .i64 c, .int .i64 d] 63))) := hid (by exact blBy)
    generalize ((w.alloc (.cells #[.slice ba bs.length bc] 24)).alloc (.cells #[.int .i64 4, .int .i64 a, .int .i64 b, .int .i64 c, .int .i64 d] 63)) = V at *
    have xx := Bx.cellF
    have zx := Bx.lt
    have xp := Bp.cellF
    have zp := Bp.lt
    go_wp2_with (first | (go_at_call 49; refine (HA.out _).mono ?_; rintro e w1 ⟨rfl, rfl⟩))
    go_ret
    exact ⟨rfl, HB.out⟩
  subst zd
  by_cases zc : c = 0
  case neg =>
    have qc : (c != 0) = true := by simpa using zc
    obtain rfl : v = false := by rw [HX.out]; simp [zc]
    clear HX zc
    clear h
    go_enter Tryz.func31, Tryz.ntmps31
    go_wp2_with fail
    have Bp : Blk ((w.alloc (.cells #[.slice ba bs.length bc] 24)).alloc (.cells #[.int .i64 4, .int .i64 a, .int .i64 b, .int .i64 c, .int .i64 0] 63)) w.heap.size 24 #[.slice ba bs.length bc] := (Blk.new _ _ _).kept (below_alloc _)
    have Bx : Blk ((w.alloc (.cells #[.slice ba bs.length bc] 24)).alloc (.cells #[.int .i64 4, .int .i64 a, .int .i64 b, .int .i64 c, .int .i64 0] 63)) (w.heap.size + 1) 63 #[.int .i64 4, .int .i64 a, .int .i64 b, .int .i64 c, .int .i64 0] := Blk.newAt (by simp)
    have HB : Hid (Below w.heap.size w ((w.alloc (.cells #[.slice ba bs.length bc] 24)).alloc (.cells #[.int .i64 4, .int .i64 a, .int .i64 b, .int .i64 c, .int .i64 0] 63))) := hid (by exact blBy)
    generalize ((w.alloc (.cells #[.slice ba bs.length bc] 24)).alloc (.cells #[.int .i64 4, .int .i64 a, .int .i64 b, .int .i64 c, .int .i64 0] 63)) = V at *
    have xx := Bx.cellF
    have zx := Bx.lt
    have xp := Bp.cellF
    have zp := Bp.lt
    go_wp2_with (first | (go_at_call 49; refine (HA.out _).mono ?_; rintro e w1 ⟨rfl, rfl⟩))
    go_ret
    exact ⟨rfl, HB.out⟩
  subst zc
  by_cases zb : b = 0
  case neg =>
    have qb : (b != 0) = true := by simpa using zb
    obtain rfl : v = false := by rw [HX.out]; simp [zb]
    clear HX zb
    clear h
    go_enter Tryz.func31, Tryz.ntmps31
    go_wp2_with fail
    have Bp : Blk ((w.alloc (.cells #[.slice ba bs.length bc] 24)).alloc (.cells #[.int .i64 4, .int .i64 a, .int .i64 b, .int .i64 0, .int .i64 0] 63)) w.heap.size 24 #[.slice ba bs.length bc] := (Blk.new _ _ _).kept (below_alloc _)
    have Bx : Blk ((w.alloc (.cells #[.slice ba bs.length bc] 24)).alloc (.cells #[.int .i64 4, .int .i64 a, .int .i64 b, .int .i64 0, .int .i64 0] 63)) (w.heap.size + 1) 63 #[.int .i64 4, .int .i64 a, .int .i64 b, .int .i64 0, .int .i64 0] := Blk.newAt (by simp)
    have HB : Hid (Below w.heap.size w ((w.alloc (.cells #[.slice ba bs.length bc] 24)).alloc (.cells #[.int .i64 4, .int .i64 a, .int .i64 b, .int .i64 0, .int .i64 0] 63))) := hid (by exact blBy)
    generalize ((w.alloc (.cells #[.slice ba bs.length bc] 24)).alloc (.cells #[.int .i64 4, .int .i64 a, .int .i64 b, .int .i64 0, .int .i64 0] 63)) = V at *
    have xx := Bx.cellF
    have zx := Bx.lt
    have xp := Bp.cellF
    have zp := Bp.lt
    go_wp2_with (first | (go_at_call 49; refine (HA.out _).mono ?_; rintro e w1 ⟨rfl, rfl⟩))
    go_ret
    exact ⟨rfl, HB.out⟩
  subst zb
  obtain rfl : v = true := by have := HX.out; simpa using this
  clear HX
  clear h
  go_enter Tryz.func31, Tryz.ntmps31
  go_wp2_with fail
  have Bp : Blk ((w.alloc (.cells #[.slice ba bs.length bc] 24)).alloc (.cells #[.int .i64 4, .int .i64 a, .int .i64 0, .int .i64 0, .int .i64 0] 63)) w.heap.size 24 #[.slice ba bs.length bc] := (Blk.new _ _ _).kept (below_alloc _)
  have Bx : Blk ((w.alloc (.cells #[.slice ba bs.length bc] 24)).alloc (.cells #[.int .i64 4, .int .i64 a, .int .i64 0, .int .i64 0, .int .i64 0] 63)) (w.heap.size + 1) 63 #[.int .i64 4, .int .i64 a, .int .i64 0, .int .i64 0, .int .i64 0] := Blk.newAt (by simp)
  have HB : Hid (Below w.heap.size w ((w.alloc (.cells #[.slice ba bs.length bc] 24)).alloc (.cells #[.int .i64 4, .int .i64 a, .int .i64 0, .int .i64 0, .int .i64 0] 63))) := hid (by exact blBy)
  generalize ((w.alloc (.cells #[.slice ba bs.length bc] 24)).alloc (.cells #[.int .i64 4, .int .i64 a, .int .i64 0, .int .i64 0, .int .i64 0] 63)) = V at *
  have xx := Bx.cellF
  have zx := Bx.lt
  have xp := Bp.cellF
  have zp := Bp.lt
  go_wp2_with (first | (go_at_call 49; refine (HA.out _).mono ?_; rintro e w1 ⟨rfl, rfl⟩))
  go_ret
  exact ⟨rfl, HB.out⟩
theorem nuR_5 (w : World) (bs : List BV) (ba : Option Addr) (bc : Nat) (h : PgR w (.slice ba bs.length bc) bs) (a b c d : Int) (hia : a ≤ 9223372036854775807) : Calls Tryz.prog 31 #[.agg #[.slice ba bs.length bc], .agg #[.int .i64 5, .int .i64 a, .int .i64 b, .int .i64 c, .int .i64 d]] w (BoA w (nuI bs ⟨5, a, b, c, d⟩)) := by
  have HA : Hid (∀ W, Calls Tryz.prog 49 #[.int .i64 5] W fun e w' => e = .returned (.int .i64 1) ∧ w' = W) := hid fun W => arityR 5 W
  have HX : Hid (nuI bs ⟨5, a, b, c, d⟩ = (decide (d = 0) && (decide (c = 0) && (decide (b = 0) && (sgI a))))) := hid (by first | rfl | (unfold nuI; simp))
  generalize nuI bs ⟨5, a, b, c, d⟩ = v at *
  by_cases zd : d = 0
  case neg =>
    have qd : (d != 0) = true := by simpa using zd
    obtain rfl : v = false := by rw [HX.out]; simp [zd]
    clear HX zd
    clear h
    go_enter Tryz.func31, Tryz.ntmps31
    go_wp2_with fail
    have Bp : Blk ((w.alloc (.cells #[.slice ba bs.length bc] 24)).alloc (.cells #[.int .i64 5, .int .i64 a, .int .i64 b, .int .i64 c, .int .i64 d] 63)) w.heap.size 24 #[.slice ba bs.length bc] := (Blk.new _ _ _).kept (below_alloc _)
    have Bx : Blk ((w.alloc (.cells #[.slice ba bs.length bc] 24)).alloc (.cells #[.int .i64 5, .int .i64 a, .int .i64 b, .int .i64 c, .int .i64 d] 63)) (w.heap.size + 1) 63 #[.int .i64 5, .int .i64 a, .int .i64 b, .int .i64 c, .int .i64 d] := Blk.newAt (by simp)
    have HB : Hid (Below w.heap.size w ((w.alloc (.cells #[.slice ba bs.length bc] 24)).alloc (.cells #[.int .i64 5, .int .i64 a, .int .i64 b, .int .i64 c, .int .i64 d] 63))) := hid (by exact blBy)
    generalize ((w.alloc (.cells #[.slice ba bs.length bc] 24)).alloc (.cells #[.int .i64 5, .int .i64 a, .int .i64 b, .int .i64 c, .int .i64 d] 63)) = V at *
    have xx := Bx.cellF
    have zx := Bx.lt
    have xp := Bp.cellF
    have zp := Bp.lt
    go_wp2_with (first | (go_at_call 49; refine (HA.out _).mono ?_; rintro e w1 ⟨rfl, rfl⟩))
    go_ret
    exact ⟨rfl, HB.out⟩
  subst zd
  by_cases zc : c = 0
  case neg =>
    have qc : (c != 0) = true := by simpa using zc
    obtain rfl : v = false := by rw [HX.out]; simp [zc]
    clear HX zc
    clear h
    go_enter Tryz.func31, Tryz.ntmps31
    go_wp2_with fail
    have Bp : Blk ((w.alloc (.cells #[.slice ba bs.length bc] 24)).alloc (.cells #[.int .i64 5, .int .i64 a, .int .i64 b, .int .i64 c, .int .i64 0] 63)) w.heap.size 24 #[.slice ba bs.length bc] := (Blk.new _ _ _).kept (below_alloc _)
    have Bx : Blk ((w.alloc (.cells #[.slice ba bs.length bc] 24)).alloc (.cells #[.int .i64 5, .int .i64 a, .int .i64 b, .int .i64 c, .int .i64 0] 63)) (w.heap.size + 1) 63 #[.int .i64 5, .int .i64 a, .int .i64 b, .int .i64 c, .int .i64 0] := Blk.newAt (by simp)
    have HB : Hid (Below w.heap.size w ((w.alloc (.cells #[.slice ba bs.length bc] 24)).alloc (.cells #[.int .i64 5, .int .i64 a, .int .i64 b, .int .i64 c, .int .i64 0] 63))) := hid (by exact blBy)
    generalize ((w.alloc (.cells #[.slice ba bs.length bc] 24)).alloc (.cells #[.int .i64 5, .int .i64 a, .int .i64 b, .int .i64 c, .int .i64 0] 63)) = V at *
    have xx := Bx.cellF
    have zx := Bx.lt
    have xp := Bp.cellF
    have zp := Bp.lt
    go_wp2_with (first | (go_at_call 49; refine (HA.out _).mono ?_; rintro e w1 ⟨rfl, rfl⟩))
    go_ret
    exact ⟨rfl, HB.out⟩
  subst zc
  by_cases zb : b = 0
  case neg =>
    have qb : (b != 0) = true := by simpa using zb
    obtain rfl : v = false := by rw [HX.out]; simp [zb]
    clear HX zb
    clear h
    go_enter Tryz.func31, Tryz.ntmps31
    go_wp2_with fail
    have Bp : Blk ((w.alloc (.cells #[.slice ba bs.length bc] 24)).alloc (.cells #[.int .i64 5, .int .i64 a, .int .i64 b, .int .i64 0, .int .i64 0] 63)) w.heap.size 24 #[.slice ba bs.length bc] := (Blk.new _ _ _).kept (below_alloc _)
    have Bx : Blk ((w.alloc (.cells #[.slice ba bs.length bc] 24)).alloc (.cells #[.int .i64 5, .int .i64 a, .int .i64 b, .int .i64 0, .int .i64 0] 63)) (w.heap.size + 1) 63 #[.int .i64 5, .int .i64 a, .int .i64 b, .int .i64 0, .int .i64 0] := Blk.newAt (by simp)
    have HB : Hid (Below w.heap.size w ((w.alloc (.cells #[.slice ba bs.length bc] 24)).alloc (.cells #[.int .i64 5, .int .i64 a, .int .i64 b, .int .i64 0, .int .i64 0] 63))) := hid (by exact blBy)
    generalize ((w.alloc (.cells #[.slice ba bs.length bc] 24)).alloc (.cells #[.int .i64 5, .int .i64 a, .int .i64 b, .int .i64 0, .int .i64 0] 63)) = V at *
    have xx := Bx.cellF
    have zx := Bx.lt
    have xp := Bp.cellF
    have zp := Bp.lt
    go_wp2_with (first | (go_at_call 49; refine (HA.out _).mono ?_; rintro e w1 ⟨rfl, rfl⟩))
    go_ret
    exact ⟨rfl, HB.out⟩
  subst zb
  have H3 := hid (fun W => isScalarR W a)
  cases s3 : sgI a with
  | false =>
    rw [s3] at H3
    obtain rfl : v = false := by rw [HX.out]; simp [s3]
    clear HX s3
    clear h
    go_enter Tryz.func31, Tryz.ntmps31
    go_wp2_with fail
    have Bp : Blk ((w.alloc (.cells #[.slice ba bs.length bc] 24)).alloc (.cells #[.int .i64 5, .int .i64 a, .int .i64 0, .int .i64 0, .int .i64 0] 63)) w.heap.size 24 #[.slice ba bs.length bc] := (Blk.new _ _ _).kept (below_alloc _)
    have Bx : Blk ((w.alloc (.cells #[.slice ba bs.length bc] 24)).alloc (.cells #[.int .i64 5, .int .i64 a, .int .i64 0, .int .i64 0, .int .i64 0] 63)) (w.heap.size + 1) 63 #[.int .i64 5, .int .i64 a, .int .i64 0, .int .i64 0, .int .i64 0] := Blk.newAt (by simp)
    have HB : Hid (Below w.heap.size w ((w.alloc (.cells #[.slice ba bs.length bc] 24)).alloc (.cells #[.int .i64 5, .int .i64 a, .int .i64 0, .int .i64 0, .int .i64 0] 63))) := hid (by exact blBy)
    generalize ((w.alloc (.cells #[.slice ba bs.length bc] 24)).alloc (.cells #[.int .i64 5, .int .i64 a, .int .i64 0, .int .i64 0, .int .i64 0] 63)) = V at *
    have xx := Bx.cellF
    have zx := Bx.lt
    have xp := Bp.cellF
    have zp := Bp.lt
    go_wp2_with (first | (go_at_call 49; refine (HA.out _).mono ?_; rintro e w1 ⟨rfl, rfl⟩) | (go_at_call 50; refine (H3.out _).mono ?_; rintro e w1 ⟨rfl, rfl⟩))
    go_ret
    exact ⟨rfl, HB.out⟩
  | true =>
  rw [s3] at H3
  replace HX := hid (by have := HX.out; rw [s3] at this; exact this)
  clear s3
  obtain rfl : v = true := by have := HX.out; simpa using this
  clear HX
  clear h
  go_enter Tryz.func31, Tryz.ntmps31
  go_wp2_with fail
  have Bp : Blk ((w.alloc (.cells #[.slice ba bs.length bc] 24)).alloc (.cells #[.int .i64 5, .int .i64 a, .int .i64 0, .int .i64 0, .int .i64 0] 63)) w.heap.size 24 #[.slice ba bs.length bc] := (Blk.new _ _ _).kept (below_alloc _)
  have Bx : Blk ((w.alloc (.cells #[.slice ba bs.length bc] 24)).alloc (.cells #[.int .i64 5, .int .i64 a, .int .i64 0, .int .i64 0, .int .i64 0] 63)) (w.heap.size + 1) 63 #[.int .i64 5, .int .i64 a, .int .i64 0, .int .i64 0, .int .i64 0] := Blk.newAt (by simp)
  have HB : Hid (Below w.heap.size w ((w.alloc (.cells #[.slice ba bs.length bc] 24)).alloc (.cells #[.int .i64 5, .int .i64 a, .int .i64 0, .int .i64 0, .int .i64 0] 63))) := hid (by exact blBy)
  generalize ((w.alloc (.cells #[.slice ba bs.length bc] 24)).alloc (.cells #[.int .i64 5, .int .i64 a, .int .i64 0, .int .i64 0, .int .i64 0] 63)) = V at *
  have xx := Bx.cellF
  have zx := Bx.lt
  have xp := Bp.cellF
  have zp := Bp.lt
  go_wp2_with (first | (go_at_call 49; refine (HA.out _).mono ?_; rintro e w1 ⟨rfl, rfl⟩) | (go_at_call 50; refine (H3.out _).mono ?_; rintro e w1 ⟨rfl, rfl⟩))
  go_ret
  exact ⟨rfl, HB.out⟩
theorem nuR_6 (w : World) (bs : List BV) (ba : Option Addr) (bc : Nat) (h : PgR w (.slice ba bs.length bc) bs) (a b c d : Int) (hia : a ≤ 9223372036854775807) : Calls Tryz.prog 31 #[.agg #[.slice ba bs.length bc], .agg #[.int .i64 6, .int .i64 a, .int .i64 b, .int .i64 c, .int .i64 d]] w (BoA w (nuI bs ⟨6, a, b, c, d⟩)) := by
  have HA : Hid (∀ W, Calls Tryz.prog 49 #[.int .i64 6] W fun e w' => e = .returned (.int .i64 1) ∧ w' = W) := hid fun W => arityR 6 W
  have HX : Hid (nuI bs ⟨6, a, b, c, d⟩ = (decide (d = 0) && (decide (c = 0) && (decide (b = 0) && (enI bs a))))) := hid (by first | rfl | (unfold nuI; simp))
  generalize nuI bs ⟨6, a, b, c, d⟩ = v at *
  by_cases zd : d = 0
  case neg =>
    have qd : (d != 0) = true := by simpa using zd
    obtain rfl : v = false := by rw [HX.out]; simp [zd]
    clear HX zd
    clear h
    go_enter Tryz.func31, Tryz.ntmps31
    go_wp2_with fail
    have Bp : Blk ((w.alloc (.cells #[.slice ba bs.length bc] 24)).alloc (.cells #[.int .i64 6, .int .i64 a, .int .i64 b, .int .i64 c, .int .i64 d] 63)) w.heap.size 24 #[.slice ba bs.length bc] := (Blk.new _ _ _).kept (below_alloc _)
    have Bx : Blk ((w.alloc (.cells #[.slice ba bs.length bc] 24)).alloc (.cells #[.int .i64 6, .int .i64 a, .int .i64 b, .int .i64 c, .int .i64 d] 63)) (w.heap.size + 1) 63 #[.int .i64 6, .int .i64 a, .int .i64 b, .int .i64 c, .int .i64 d] := Blk.newAt (by simp)
    have HB : Hid (Below w.heap.size w ((w.alloc (.cells #[.slice ba bs.length bc] 24)).alloc (.cells #[.int .i64 6, .int .i64 a, .int .i64 b, .int .i64 c, .int .i64 d] 63))) := hid (by exact blBy)
    generalize ((w.alloc (.cells #[.slice ba bs.length bc] 24)).alloc (.cells #[.int .i64 6, .int .i64 a, .int .i64 b, .int .i64 c, .int .i64 d] 63)) = V at *
    have xx := Bx.cellF
    have zx := Bx.lt
    have xp := Bp.cellF
    have zp := Bp.lt
    go_wp2_with (first | (go_at_call 49; refine (HA.out _).mono ?_; rintro e w1 ⟨rfl, rfl⟩))
    go_ret
    exact ⟨rfl, HB.out⟩
  subst zd
  by_cases zc : c = 0
  case neg =>
    have qc : (c != 0) = true := by simpa using zc
    obtain rfl : v = false := by rw [HX.out]; simp [zc]
    clear HX zc
    clear h
    go_enter Tryz.func31, Tryz.ntmps31
    go_wp2_with fail
    have Bp : Blk ((w.alloc (.cells #[.slice ba bs.length bc] 24)).alloc (.cells #[.int .i64 6, .int .i64 a, .int .i64 b, .int .i64 c, .int .i64 0] 63)) w.heap.size 24 #[.slice ba bs.length bc] := (Blk.new _ _ _).kept (below_alloc _)
    have Bx : Blk ((w.alloc (.cells #[.slice ba bs.length bc] 24)).alloc (.cells #[.int .i64 6, .int .i64 a, .int .i64 b, .int .i64 c, .int .i64 0] 63)) (w.heap.size + 1) 63 #[.int .i64 6, .int .i64 a, .int .i64 b, .int .i64 c, .int .i64 0] := Blk.newAt (by simp)
    have HB : Hid (Below w.heap.size w ((w.alloc (.cells #[.slice ba bs.length bc] 24)).alloc (.cells #[.int .i64 6, .int .i64 a, .int .i64 b, .int .i64 c, .int .i64 0] 63))) := hid (by exact blBy)
    generalize ((w.alloc (.cells #[.slice ba bs.length bc] 24)).alloc (.cells #[.int .i64 6, .int .i64 a, .int .i64 b, .int .i64 c, .int .i64 0] 63)) = V at *
    have xx := Bx.cellF
    have zx := Bx.lt
    have xp := Bp.cellF
    have zp := Bp.lt
    go_wp2_with (first | (go_at_call 49; refine (HA.out _).mono ?_; rintro e w1 ⟨rfl, rfl⟩))
    go_ret
    exact ⟨rfl, HB.out⟩
  subst zc
  by_cases zb : b = 0
  case neg =>
    have qb : (b != 0) = true := by simpa using zb
    obtain rfl : v = false := by rw [HX.out]; simp [zb]
    clear HX zb
    clear h
    go_enter Tryz.func31, Tryz.ntmps31
    go_wp2_with fail
    have Bp : Blk ((w.alloc (.cells #[.slice ba bs.length bc] 24)).alloc (.cells #[.int .i64 6, .int .i64 a, .int .i64 b, .int .i64 0, .int .i64 0] 63)) w.heap.size 24 #[.slice ba bs.length bc] := (Blk.new _ _ _).kept (below_alloc _)
    have Bx : Blk ((w.alloc (.cells #[.slice ba bs.length bc] 24)).alloc (.cells #[.int .i64 6, .int .i64 a, .int .i64 b, .int .i64 0, .int .i64 0] 63)) (w.heap.size + 1) 63 #[.int .i64 6, .int .i64 a, .int .i64 b, .int .i64 0, .int .i64 0] := Blk.newAt (by simp)
    have HB : Hid (Below w.heap.size w ((w.alloc (.cells #[.slice ba bs.length bc] 24)).alloc (.cells #[.int .i64 6, .int .i64 a, .int .i64 b, .int .i64 0, .int .i64 0] 63))) := hid (by exact blBy)
    generalize ((w.alloc (.cells #[.slice ba bs.length bc] 24)).alloc (.cells #[.int .i64 6, .int .i64 a, .int .i64 b, .int .i64 0, .int .i64 0] 63)) = V at *
    have xx := Bx.cellF
    have zx := Bx.lt
    have xp := Bp.cellF
    have zp := Bp.lt
    go_wp2_with (first | (go_at_call 49; refine (HA.out _).mono ?_; rintro e w1 ⟨rfl, rfl⟩))
    go_ret
    exact ⟨rfl, HB.out⟩
  subst zb
  have H3 := hid (fun W (hW : Below w.heap.size w W) => isEnumR W bs ba bc (h.kept hW) a)
  cases s3 : enI bs a with
  | false =>
    rw [s3] at H3
    obtain rfl : v = false := by rw [HX.out]; simp [s3]
    clear HX s3
    clear h
    go_enter Tryz.func31, Tryz.ntmps31
    go_wp2_with fail
    have Bp : Blk ((w.alloc (.cells #[.slice ba bs.length bc] 24)).alloc (.cells #[.int .i64 6, .int .i64 a, .int .i64 0, .int .i64 0, .int .i64 0] 63)) w.heap.size 24 #[.slice ba bs.length bc] := (Blk.new _ _ _).kept (below_alloc _)
    have Bx : Blk ((w.alloc (.cells #[.slice ba bs.length bc] 24)).alloc (.cells #[.int .i64 6, .int .i64 a, .int .i64 0, .int .i64 0, .int .i64 0] 63)) (w.heap.size + 1) 63 #[.int .i64 6, .int .i64 a, .int .i64 0, .int .i64 0, .int .i64 0] := Blk.newAt (by simp)
    have HB : Hid (Below w.heap.size w ((w.alloc (.cells #[.slice ba bs.length bc] 24)).alloc (.cells #[.int .i64 6, .int .i64 a, .int .i64 0, .int .i64 0, .int .i64 0] 63))) := hid (by exact blBy)
    generalize ((w.alloc (.cells #[.slice ba bs.length bc] 24)).alloc (.cells #[.int .i64 6, .int .i64 a, .int .i64 0, .int .i64 0, .int .i64 0] 63)) = V at *
    have xx := Bx.cellF
    have zx := Bx.lt
    have xp := Bp.cellF
    have zp := Bp.lt
    go_wp2_with (first | (go_at_call 49; refine (HA.out _).mono ?_; rintro e w1 ⟨rfl, rfl⟩) | (go_at_call 51; refine (H3.out _ HB.out).mono ?_; rintro e w1 ⟨rfl, hbx⟩; replace HB := hid (below_trans HB.out hbx); replace Bx := Bx.kept hbx; replace Bp := Bp.kept hbx; clear xx zx xp zp hbx; have xx := Bx.cellF; have zx := Bx.lt; have xp := Bp.cellF; have zp := Bp.lt))
    go_ret
    exact ⟨rfl, HB.out⟩
  | true =>
  rw [s3] at H3
  replace HX := hid (by have := HX.out; rw [s3] at this; exact this)
  clear s3
  obtain rfl : v = true := by have := HX.out; simpa using this
  clear HX
  clear h
  go_enter Tryz.func31, Tryz.ntmps31
  go_wp2_with fail
  have Bp : Blk ((w.alloc (.cells #[.slice ba bs.length bc] 24)).alloc (.cells #[.int .i64 6, .int .i64 a, .int .i64 0, .int .i64 0, .int .i64 0] 63)) w.heap.size 24 #[.slice ba bs.length bc] := (Blk.new _ _ _).kept (below_alloc _)
  have Bx : Blk ((w.alloc (.cells #[.slice ba bs.length bc] 24)).alloc (.cells #[.int .i64 6, .int .i64 a, .int .i64 0, .int .i64 0, .int .i64 0] 63)) (w.heap.size + 1) 63 #[.int .i64 6, .int .i64 a, .int .i64 0, .int .i64 0, .int .i64 0] := Blk.newAt (by simp)
  have HB : Hid (Below w.heap.size w ((w.alloc (.cells #[.slice ba bs.length bc] 24)).alloc (.cells #[.int .i64 6, .int .i64 a, .int .i64 0, .int .i64 0, .int .i64 0] 63))) := hid (by exact blBy)
  generalize ((w.alloc (.cells #[.slice ba bs.length bc] 24)).alloc (.cells #[.int .i64 6, .int .i64 a, .int .i64 0, .int .i64 0, .int .i64 0] 63)) = V at *
  have xx := Bx.cellF
  have zx := Bx.lt
  have xp := Bp.cellF
  have zp := Bp.lt
  go_wp2_with (first | (go_at_call 49; refine (HA.out _).mono ?_; rintro e w1 ⟨rfl, rfl⟩) | (go_at_call 51; refine (H3.out _ HB.out).mono ?_; rintro e w1 ⟨rfl, hbx⟩; replace HB := hid (below_trans HB.out hbx); replace Bx := Bx.kept hbx; replace Bp := Bp.kept hbx; clear xx zx xp zp hbx; have xx := Bx.cellF; have zx := Bx.lt; have xp := Bp.cellF; have zp := Bp.lt))
  go_ret
  exact ⟨rfl, HB.out⟩
end Go.Proofs.YtdhkbdngmejklaaGreatDoor
