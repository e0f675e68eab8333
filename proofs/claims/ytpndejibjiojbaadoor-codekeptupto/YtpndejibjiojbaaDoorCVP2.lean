/-
  The program's questions about tags, blocks of kinds, and places ahead, both ways.
  The document's: are an operation's numbers what they may be? (what is asked)
  The document's: are an operation's numbers what they may be? (a part)
  The document's: are an operation's numbers what they may be? (a part)
  The document's: are an operation's numbers what they may be? (a part)
  The document's: are an operation's numbers what they may be? (a part)
  The document's: are an operation's numbers what they may be? (a part)
  The document's: are an operation's numbers what they may be? (Row, and those without numbers)
  The document's: are an operation's numbers what they may be? (all of them)
  Operations of a region taken one after the other, in few words.
  The program's: is a step one that reads, or writes, at its place? (the moves)
-/
import Derived.Test.YtpndejibjiojbaaDoorCKC
import Derived.Test.YtpndejibjiojbaaDoorCTA
import Derived.Deep.RegionHeld3
import Derived.Maps.RangeWalk
namespace Go.Proofs.YtpndejibjiojbaaDoor
open Go.RowKit
set_option maxRecDepth 1000000
set_option linter.unusedVariables false
set_option linter.unusedSimpArgs false
set_option maxHeartbeats 1000000
theorem isTagP (w : World) (t : Int) : Calls Tryd.prog 54 #[.int .i64 t] w fun e w' => e = .returned (.bool (tgI t)) ∧ w' = w := by
  have h1 : bits .and .i64 t 7 = t % 8 := i64_and7 t
  have HF := hid (fun W => isFieldP W (t / 8))
  have HE : Hid (tgI t = (fdI (t / 8) && decide (t % 8 = 0 ∨ t % 8 = 1 ∨ t % 8 = 2 ∨ t % 8 = 5))) := hid (by
    unfold tgI fdI
    rw [← Bool.decide_and]
    exact decide_eq_decide.2 ⟨fun h => ⟨⟨by omega, h.2.1⟩, h.2.2⟩, fun h => ⟨by omega, h.1.2, h.2⟩⟩)
  generalize tgI t = tv at *
  generalize fdI (t / 8) = fv at *
  generalize hk : t % 8 = k at *
  clear hk
  by_cases k0 : k = 0
  · subst k0
    obtain rfl : tv = fv := by rw [HE.out]; simp
    clear HE
    go_enter Tryd.func54, Tryd.ntmps54
    go_wp2_with (first | (go_at_call 67; refine (HF.out _).mono ?_; rintro e w1 ⟨rfl, rfl⟩))
    go_ret
    exact ⟨rfl, rfl⟩
  by_cases k1 : k = 1
  · subst k1
    obtain rfl : tv = fv := by rw [HE.out]; simp
    clear HE k0
    go_enter Tryd.func54, Tryd.ntmps54
    go_wp2_with (first | (go_at_call 67; refine (HF.out _).mono ?_; rintro e w1 ⟨rfl, rfl⟩))
    go_ret
    exact ⟨rfl, rfl⟩
  by_cases k2 : k = 2
  · subst k2
    obtain rfl : tv = fv := by rw [HE.out]; simp
    clear HE k0 k1
    go_enter Tryd.func54, Tryd.ntmps54
    go_wp2_with (first | (go_at_call 67; refine (HF.out _).mono ?_; rintro e w1 ⟨rfl, rfl⟩))
    go_ret
    exact ⟨rfl, rfl⟩
  by_cases k5 : k = 5
  · subst k5
    obtain rfl : tv = fv := by rw [HE.out]; simp
    clear HE k0 k1 k2
    go_enter Tryd.func54, Tryd.ntmps54
    go_wp2_with (first | (go_at_call 67; refine (HF.out _).mono ?_; rintro e w1 ⟨rfl, rfl⟩))
    go_ret
    exact ⟨rfl, rfl⟩
  · obtain rfl : tv = false := by rw [HE.out]; simp [k0, k1, k2, k5]
    have q0 : (k == 0) = false := by simpa using k0
    have q1 : (k == 1) = false := by simpa using k1
    have q2 : (k == 2) = false := by simpa using k2
    have q5 : (k == 5) = false := by simpa using k5
    clear HE k0 k1 k2 k5 HF
    go_enter Tryd.func54, Tryd.ntmps54
    go_wp2
    go_ret
    exact ⟨rfl, rfl⟩
theorem isOfKindP (w : World) (bs : List BV) (ba : Option Addr) (bc : Nat) (h : PgR w (.slice ba bs.length bc) bs) (hz : ∀ x ∈ bs, x.k.dec.length ≤ 140737488355328 ∧ x.k.enc.length ≤ 140737488355328) (kind k : Int) : Calls Tryd.prog 72 #[.slice ba bs.length bc, .int .i64 kind, .int .i64 k] w (BoA w (kdI kind && bkI bs kind k)) := by
  have HE := hid (fun W hW => isEnumP W bs ba bc (h.kept (w' := W) hW) hz k)
  have HM := hid (fun W hW => isMessageP W bs ba bc (h.kept (w' := W) hW) hz k)
  clear h hz
  by_cases k16 : kind = 16
  · have e : (kdI kind && bkI bs kind k) = enI bs k := by unfold bkI; rw [if_pos k16, k16]; rfl
    rw [e]
    have q16 : (kind == 16) = true := by simp [k16]
    generalize enI bs k = v at *
    clear e k16 HM
    go_enter Tryd.func72, Tryd.ntmps72
    go_wp2_with (first | (go_at_call 66; refine (HE.out _ (by first | exact Below.refl _ _ | exact blBy)).mono ?_; rintro e w1 ⟨rfl, hb⟩))
    go_ret
    exact ⟨rfl, by first | exact hb | exact bl_then (by exact blBy) hb⟩
  have q16 : (kind == 16) = false := by simpa using k16
  by_cases k17 : kind = 17
  · have e : (kdI kind && bkI bs kind k) = msI bs k := by unfold bkI; rw [if_neg k16, if_pos k17, k17]; rfl
    rw [e]
    have q17 : (kind == 17) = true := by simp [k17]
    generalize msI bs k = v at *
    clear e k16 k17 HE
    go_enter Tryd.func72, Tryd.ntmps72
    go_wp2_with (first | (go_at_call 68; refine (HM.out _ (by first | exact Below.refl _ _ | exact blBy)).mono ?_; rintro e w1 ⟨rfl, hb⟩))
    go_ret
    exact ⟨rfl, by first | exact hb | exact bl_then (by exact blBy) hb⟩
  have q17 : (kind == 17) = false := by simpa using k17
  have HS := hid (fun W => isSingleP W kind)
  have e : (kdI kind && bkI bs kind k) = (sgI kind && (k == 0)) := by
    unfold bkI
    rw [if_neg k16, if_neg k17]
    have e1 : kdI kind = sgI kind := by unfold kdI sgI; exact decide_eq_decide.2 ⟨fun h => ⟨h.1, by omega⟩, fun h => ⟨h.1, by omega⟩⟩
    have e2 : decide (k = 0) = (k == 0) := by by_cases h : k = 0 <;> simp [h]
    rw [e1, e2]
  rw [e]
  clear e k16 k17 HE HM
  cases hs : sgI kind with
  | false =>
    rw [hs] at HS
    clear hs
    go_enter Tryd.func72, Tryd.ntmps72
    go_wp2_with (first | (go_at_call 65; refine (HS.out _).mono ?_; rintro e w1 ⟨rfl, rfl⟩))
    go_ret
    exact ⟨ret_bool (by first | rfl | simp), by first | exact Below.refl _ _ | exact blBy⟩
  | true =>
    rw [hs] at HS
    clear hs
    go_enter Tryd.func72, Tryd.ntmps72
    go_wp2_with (first | (go_at_call 65; refine (HS.out _).mono ?_; rintro e w1 ⟨rfl, rfl⟩))
    go_ret
    exact ⟨ret_bool (by first | rfl | simp), by first | exact Below.refl _ _ | exact blBy⟩
/-- A place ahead. -/
def ahI (n i : Nat) (t : Int) : Bool := decide ((i : Int) < t ∧ t < (n : Int))
theorem isDecP (w : World) (pa ps i n : Nat) (sa : Option Addr) (sc : Nat) (tg : Int) (h1 : Blk w pa 3 #[.int .i64 i]) (h2 : Blk w ps 32 #[.slice sa n sc]) (hn : n ≤ 140737488355328) : Calls Tryd.prog 49 #[.int .i64 tg, .pointer (some ⟨pa, 0, none⟩), .pointer (some ⟨ps, 0, none⟩)] w (BoA w (ahI n i tg)) := by
  have x1 := h1.cellF
  have z1 := h1.lt
  have x2 := h2.cellF
  have z2 := h2.lt
  clear h1 h2
  by_cases g1 : (i : Int) < tg
  · have r1 : ((i : Int) < tg) = True := eq_true g1
    by_cases g2 : tg < (n : Int)
    · have r2 : (tg < (n : Int)) = True := eq_true g2
      have e : ahI n i tg = true := decide_eq_true ⟨g1, g2⟩
      rw [e]
      clear g1 g2 e
      go_enter Tryd.func49, Tryd.ntmps49
      go_wp2
      first
        | (go_ret; exact ⟨rfl, by first | exact Below.refl _ _ | exact blBy⟩)
        | (go_quiet (fail); go_wp2; go_ret; exact ⟨rfl, by first | exact below_drewN _ _ | exact blBy⟩)
    · have r2 : (tg < (n : Int)) = False := eq_false g2
      have e : ahI n i tg = false := decide_eq_false (fun h => g2 h.2)
      rw [e]
      clear g1 g2 e
      go_enter Tryd.func49, Tryd.ntmps49
      go_wp2
      first
        | (go_ret; exact ⟨rfl, by first | exact Below.refl _ _ | exact blBy⟩)
        | (go_quiet (fail); go_wp2; go_ret; exact ⟨rfl, by first | exact below_drewN _ _ | exact blBy⟩)
  · have r1 : ((i : Int) < tg) = False := eq_false g1
    have e : ahI n i tg = false := decide_eq_false (fun h => g1 h.1)
    rw [e]
    clear g1 e
    go_enter Tryd.func49, Tryd.ntmps49
    go_wp2
    first
      | (go_ret; exact ⟨rfl, by first | exact Below.refl _ _ | exact blBy⟩)
      | (go_quiet (fail); go_wp2; go_ret; exact ⟨rfl, by first | exact below_drewN _ _ | exact blBy⟩)
theorem isEncP (w : World) (pa ps i n : Nat) (sa : Option Addr) (sc : Nat) (tg : Int) (h1 : Blk w pa 3 #[.int .i64 i]) (h2 : Blk w ps 32 #[.slice sa n sc]) (hn : n ≤ 140737488355328) : Calls Tryd.prog 51 #[.int .i64 tg, .pointer (some ⟨pa, 0, none⟩), .pointer (some ⟨ps, 0, none⟩)] w (BoA w (ahI n i tg)) := by
  have x1 := h1.cellF
  have z1 := h1.lt
  have x2 := h2.cellF
  have z2 := h2.lt
  clear h1 h2
  by_cases g1 : (i : Int) < tg
  · have r1 : ((i : Int) < tg) = True := eq_true g1
    by_cases g2 : tg < (n : Int)
    · have r2 : (tg < (n : Int)) = True := eq_true g2
      have e : ahI n i tg = true := decide_eq_true ⟨g1, g2⟩
      rw [e]
      clear g1 g2 e
      go_enter Tryd.func51, Tryd.ntmps51
      go_wp2
      first
        | (go_ret; exact ⟨rfl, by first | exact Below.refl _ _ | exact blBy⟩)
        | (go_quiet (fail); go_wp2; go_ret; exact ⟨rfl, by first | exact below_drewN _ _ | exact blBy⟩)
    · have r2 : (tg < (n : Int)) = False := eq_false g2
      have e : ahI n i tg = false := decide_eq_false (fun h => g2 h.2)
      rw [e]
      clear g1 g2 e
      go_enter Tryd.func51, Tryd.ntmps51
      go_wp2
      first
        | (go_ret; exact ⟨rfl, by first | exact Below.refl _ _ | exact blBy⟩)
        | (go_quiet (fail); go_wp2; go_ret; exact ⟨rfl, by first | exact below_drewN _ _ | exact blBy⟩)
  · have r1 : ((i : Int) < tg) = False := eq_false g1
    have e : ahI n i tg = false := decide_eq_false (fun h => g1 h.1)
    rw [e]
    clear g1 e
    go_enter Tryd.func51, Tryd.ntmps51
    go_wp2
    first
      | (go_ret; exact ⟨rfl, by first | exact Below.refl _ _ | exact blBy⟩)
      | (go_quiet (fail); go_wp2; go_ret; exact ⟨rfl, by first | exact below_drewN _ _ | exact blBy⟩)
set_option maxHeartbeats 4000000
def nuI (bs : List BV) (s : IN) : Bool := if s.op = 2 then decide (s.d = 0) && (decide (s.c = 0) && (tgI s.a)) else if s.op = 3 then decide (s.d = 0) && (decide (s.c = 0) && (decide (s.b = 0))) else if s.op = 4 then decide (s.d = 0) && (decide (s.c = 0) && (decide (s.b = 0))) else if s.op = 5 then decide (s.d = 0) && (decide (s.c = 0) && (decide (s.b = 0) && (sgI s.a))) else if s.op = 6 then decide (s.d = 0) && (decide (s.c = 0) && (decide (s.b = 0) && (enI bs s.a))) else if s.op = 7 then decide (s.d = 0) && (decide (s.c = 0) && (decide (s.b = 0) && (fdI s.a))) else if s.op = 8 then decide (s.d = 0) && (decide (s.c = 0) && (decide (s.b = 0) && (fdI s.a))) else if s.op = 9 then decide (s.d = 0) && (decide (s.c = 0) && (decide (s.b = 0) && (fdI s.a))) else if s.op = 10 then decide (s.d = 0) && (fdI s.a && (msI bs s.b && (decide (0 ≤ s.c) && (decide (s.c ≤ 2))))) else if s.op = 11 then (decide (s.d = 0)) && (if s.b = 16 then fdI s.a && enI bs (s.c - 1) else fdI s.a && (knum s.b && decide (s.c = 0))) else if s.op = 12 then fdI s.a && (kkey s.b && (kdI s.c && (bkI bs s.c s.d))) else if s.op = 14 then decide (s.d = 0) && (decide (s.c = 0) && (sgI s.a && (fdI s.b))) else if s.op = 15 then decide (s.d = 0) && (decide (s.c = 0) && (sgI s.a && (fdI s.b))) else if s.op = 16 then decide (s.d = 0) && (fdI s.a && (decide (0 ≤ s.c) && (decide (s.c ≤ 16)))) else if s.op = 17 then decide (s.d = 0) && (decide (s.c = 0) && (decide (s.b = 0) && (tgI s.a))) else if s.op = 18 then decide (s.d = 0) && (decide (s.c = 0) && (decide (s.b = 0) && (sgI s.a))) else if s.op = 19 then decide (s.d = 0) && (decide (s.c = 0) && (decide (s.b = 0) && (msI bs s.a))) else if s.op = 20 then decide (s.d = 0) && (tgI s.a && (kdI s.b && (bkI bs s.b s.c))) else if s.op = 21 then decide (s.d = 0) && (decide (s.c = 0) && (tgI s.a && (knum s.b))) else if s.op = 22 then tgI s.a && (kkey s.b && (kdI s.c && (bkI bs s.c s.d))) else if s.op = 25 then decide (s.d = 0) && (decide (s.c = 0) && (tgI s.a && (sgI s.b))) else decide (s.d = 0) && (decide (s.c = 0) && (decide (s.b = 0) && (decide (s.a = 0))))
structure I5 (s : IN) : Prop where
  op : I64 s.op
  a : I64 s.a
  b : I64 s.b
  c : I64 s.c
  d : I64 s.d
variable {P : Program} {ops : Array Oper} {Q : Exit → Act → World → Prop} {md : Region.Mode} {S : World → Prop}
theorem tkI (i : Nat) {oi : Oper} {v : Value} {fuel : Nat} {listed : Array Bool} {a : Act} {w : World} (h : wpAnyH P md ops Q S fuel (listed.setIfInBounds i true) (a.put oi.dst v) w) (hi : ops[i]? = some oi := by rfl)
    (hy : ∀ w, S w → (execOp a.eval oi).run P w = .ok (.value v) w := by (intro w hSw; (try dsimp only at hSw); go_simp; (try with_reducible rfl)))
    (hs : Region.noSelect ops = true := by kernel_rfl) (hf : Region.free md ops listed i = true := by kernel_rfl) (hr : (Region.ready md ops listed).contains i = true := by kernel_rfl)
    (hQ : ∀ c a w, Q (.panic c) (a.put oi.dst v) w → Q (.panic c) a w := by exact fun _ _ _ h => h) (hw : Region.wanted oi (yielded ops a.tmps) = true := by rfl) (hS : S w := by assumption) :
    wpAnyH P md ops Q S (fuel + 1) listed a w := wpAnyH_take hi hs hf hr hQ (Or.inl ⟨hw, hy⟩) hS h
set_option maxHeartbeats 20000000
section
variable {P : Program} {ops : Array Oper} {Q : Exit → Act → World → Prop} {md : Region.Mode} {S : World → Prop}
/-- One that is not wanted. -/
theorem tkU (i : Nat) {oi : Oper} {fuel : Nat} {listed : Array Bool} {a : Act} {w : World} (h : wpAnyH P md ops Q S fuel (listed.setIfInBounds i true) (a.put oi.dst undef) w) (hi : ops[i]? = some oi := by rfl)
    (hs : Region.noSelect ops = true := by kernel_rfl) (hf : Region.free md ops listed i = true := by kernel_rfl) (hr : (Region.ready md ops listed).contains i = true := by kernel_rfl)
    (hQ : ∀ c a w, Q (.panic c) (a.put oi.dst undef) w → Q (.panic c) a w := by exact fun _ _ _ h => h) (hw : Region.wanted oi (yielded ops a.tmps) = false := by kernel_rfl) (hS : S w := by assumption) :
    wpAnyH P md ops Q S (fuel + 1) listed a w := wpAnyH_take hi hs hf hr hQ (Or.inr ⟨hw, rfl⟩) hS h
/-- One that is wanted, held by the kernel. -/
theorem tkJ (i : Nat) {oi : Oper} {v : Value} {fuel : Nat} {listed : Array Bool} {a : Act} {w : World} (h : wpAnyH P md ops Q S fuel (listed.setIfInBounds i true) (a.put oi.dst v) w) (hi : ops[i]? = some oi := by rfl)
    (hy : ∀ w, S w → (execOp a.eval oi).run P w = .ok (.value v) w := by (intro w hSw; (try dsimp only at hSw); go_simp; (try with_reducible rfl)))
    (hs : Region.noSelect ops = true := by kernel_rfl) (hf : Region.free md ops listed i = true := by kernel_rfl) (hr : (Region.ready md ops listed).contains i = true := by kernel_rfl)
    (hQ : ∀ c a w, Q (.panic c) (a.put oi.dst v) w → Q (.panic c) a w := by exact fun _ _ _ h => h) (hw : Region.wanted oi (yielded ops a.tmps) = true := by kernel_rfl) (hS : S w := by assumption) :
    wpAnyH P md ops Q S (fuel + 1) listed a w := wpAnyH_take hi hs hf hr hQ (Or.inl ⟨hw, hy⟩) hS h
end
end Go.Proofs.YtpndejibjiojbaaDoor
