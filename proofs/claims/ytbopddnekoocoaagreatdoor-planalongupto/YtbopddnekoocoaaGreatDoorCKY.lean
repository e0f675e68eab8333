/-
  A valid block's steps, where all is well.
  Rows of a valid block, where all is well.
  Valid, where all is well.
  What is lowered is valid.
  What is lowered is valid: Enc, and all.
-/
import Derived.Test.YtbopddnekoocoaaGreatDoorCKXa
import Derived.Test.YtbopddnekoocoaaGreatDoorKXc
import Derived.Test.YtbopddnekoocoaaGreatDoorCLQ
namespace Go.Proofs.YtbopddnekoocoaaGreatDoor
open Go.RowKit
set_option maxRecDepth 1000000
set_option linter.unusedVariables false
set_option linter.unusedSimpArgs false
set_option maxHeartbeats 1000000
def EnAt (bs : List BV) (k : Nat) : Prop := ∃ h : k < bs.length, bs[k].k.dec.length = 0 ∧ bs[k].k.enc.length = 0
def MsAt (bs : List BV) (k : Nat) : Prop := ∃ h : k < bs.length, 0 < bs[k].k.dec.length ∧ bs[k].k.dec.length ≤ 100000 ∧ bs[k].k.enc.length ≤ 100000
def FdOk (a : Int) : Prop := 1 ≤ a ∧ a ≤ 536870911
/-- A step that reads, at its place. -/
def RdP (bs : List BV) (n i : Nat) (s : IN) : Prop := (s = insV 1 [] ∧ i = 0) ∨ (i ≠ 0 ∧ (s = insV 13 [] ∨ s = insV 4 [0] ∨ (∃ a b m k, s = insV 2 [a, b] ∧ TagOk a m k ∧ (i : Int) < b ∧ b < n) ∨ (∃ a, s = insV 5 [a] ∧ 1 ≤ a ∧ a ≤ 16) ∨ (∃ k : Nat, s = insV 6 [(k : Int)] ∧ EnAt bs k) ∨ (∃ a o, s = insV o [a] ∧ FdOk a ∧ (o = 7 ∨ o = 8 ∨ o = 9)) ∨ (∃ (a c : Int) (k : Nat), s = insV 10 [a, (k : Int), c] ∧ FdOk a ∧ MsAt bs k ∧ (c = 0 ∨ c = 1 ∨ c = 2)) ∨ (∃ a b c, s = insV 11 [a, b, c] ∧ FdOk a ∧ knum b = true ∧ c ≤ 1000 ∧ ((b = 16 ∧ ∃ k : Nat, c = (k : Int) + 1 ∧ EnAt bs k) ∨ (b ≠ 16 ∧ c = 0))) ∨ (∃ a b c d, s = insV 12 [a, b, c, d] ∧ FdOk a ∧ kkey b = true ∧ OfKind bs c d)))
def WrP (bs : List BV) (n i : Nat) (s : IN) : Prop := (s = insV 24 [] ∧ i + 1 = n) ∨ (i + 1 ≠ n ∧ (s = insV 23 [] ∨ (∃ a b c, s = insV 16 [a, b, c] ∧ FdOk a ∧ ((i : Int) < b ∧ b < n) ∧ (c = 0 ∨ (1 ≤ c ∧ c ≤ 16))) ∨ (∃ a m k, s = insV 17 [a] ∧ TagOk a m k) ∨ (∃ a, s = insV 18 [a] ∧ 1 ≤ a ∧ a ≤ 16) ∨ (∃ k : Nat, s = insV 19 [(k : Int)] ∧ MsAt bs k) ∨ (∃ a b c m k, s = insV 20 [a, b, c] ∧ TagOk a m k ∧ OfKind bs b c) ∨ (∃ a b m k, s = insV 21 [a, b] ∧ TagOk a m k ∧ knum b = true) ∨ (∃ a b c d m k, s = insV 22 [a, b, c, d] ∧ TagOk a m k ∧ kkey b = true ∧ OfKind bs c d)))
theorem isReadingT (w : World) (bs : List BV) (ba : Option Addr) (bc : Nat) (hp : PgR w (.slice ba bs.length bc) bs) (n i : Nat) (s : IN) (hs : RdP bs n i s) (caps : Array Value) (hA : ∀ tg : Int, (i : Int) < tg ∧ tg < n → ∀ W, Below w.heap.size w W → Calls Tryz.prog 82 (#[.int .i64 tg] ++ caps) W fun e w' => e = .returned (.bool true) ∧ Below W.heap.size W w') : Calls Tryz.prog 83 #[.slice ba bs.length bc, .agg #[.int .i64 s.op, .int .i64 s.a, .int .i64 s.b, .int .i64 s.c, .int .i64 s.d], .func (.func 82) #[] caps] w fun e w' => e = .returned (.bool true) ∧ Below w.heap.size w w' := by
  rcases hs with ⟨rfl, _⟩ | ⟨_, h⟩
  · exact rdTag w bs ba bc caps
  rcases h with rfl | rfl | ⟨a, b, m, k, rfl, ht, hb⟩ | ⟨a, rfl, ha⟩ | ⟨k, rfl, hk, h1, h2⟩ | ⟨a, o, rfl, ha, ho⟩ | ⟨a, c, k, rfl, ha, ⟨hk, h1, h2⟩, hc⟩ | ⟨a, b, c, rfl, ha, hb, hc, hq⟩ | ⟨a, b, c, d, rfl, ha, hb, hc⟩
  · exact rdKeep w bs ba bc caps
  · exact rdGo w bs ba bc caps
  · exact rdCase w bs ba bc caps a b m k ht (hA b hb)
  · exact rdRead w bs ba bc caps a ha
  · exact rdSym w bs ba bc caps k hp hk h1 h2
  · rcases ho with rfl | rfl | rfl
    · exact rdSet w bs ba bc caps a ha
    · exact rdAdd w bs ba bc caps a ha
    · exact rdClear w bs ba bc caps a ha
  · exact rdMsg w bs ba bc caps a c k hp hk ha h1 h2 hc
  · exact rdRow w bs ba bc caps a b c hp ha hb hq hc
  · exact rdPair w bs ba bc caps a b c d hp ha hb hc
theorem isWritingT (w : World) (bs : List BV) (ba : Option Addr) (bc : Nat) (hp : PgR w (.slice ba bs.length bc) bs) (n i : Nat) (s : IN) (hs : WrP bs n i s) (caps : Array Value) (hA : ∀ tg : Int, (i : Int) < tg ∧ tg < n → ∀ W, Below w.heap.size w W → Calls Tryz.prog 84 (#[.int .i64 tg] ++ caps) W fun e w' => e = .returned (.bool true) ∧ Below W.heap.size W w') : Calls Tryz.prog 85 #[.slice ba bs.length bc, .agg #[.int .i64 s.op, .int .i64 s.a, .int .i64 s.b, .int .i64 s.c, .int .i64 s.d], .func (.func 84) #[] caps] w fun e w' => e = .returned (.bool true) ∧ Below w.heap.size w w' := by
  rcases hs with ⟨rfl, _⟩ | ⟨_, h⟩
  · exact wrEnd w bs ba bc caps
  rcases h with rfl | ⟨a, b, c, rfl, ha, hb, hc⟩ | ⟨a, m, k, rfl, ht⟩ | ⟨a, rfl, ha⟩ | ⟨k, rfl, hk, h1, h2⟩ | ⟨a, b, c, m, k, rfl, ht, ho⟩ | ⟨a, b, m, k, rfl, ht, hb⟩ | ⟨a, b, c, d, m, k, rfl, ht, hb, ho⟩
  · exact wrRest w bs ba bc caps
  · rcases hc with rfl | hc
    · exact wrHas0 w bs ba bc caps a b ha (hA b hb)
    · exact wrHasK w bs ba bc caps a b c ha hc (hA b hb)
  · exact wrPut w bs ba bc caps a m k ht
  · exact wrVal w bs ba bc caps a ha
  · exact wrSub w bs ba bc caps k hp hk h1 h2
  · exact wrEach w bs ba bc caps a b c m k hp ht ho
  · exact wrRun w bs ba bc caps a b m k ht hb
  · exact wrPairs w bs ba bc caps a b c d m k hp ht hb ho
theorem isDecT (w : World) (pa ps i n : Nat) (sa : Option Addr) (sc : Nat) (tg : Int) (h1 : Blk w pa 3 #[.int .i64 i]) (h2 : Blk w ps 25 #[.slice sa n sc]) (hn : n ≤ 100000) (ht : (i : Int) < tg ∧ tg < n) : Calls Tryz.prog 82 #[.int .i64 tg, .pointer (some ⟨pa, 0, none⟩), .pointer (some ⟨ps, 0, none⟩)] w fun e w' => e = .returned (.bool true) ∧ Below w.heap.size w w' := by
  have x1 := h1.cellF
  have z1 := h1.lt
  have x2 := h2.cellF
  have z2 := h2.lt
  have r1 : ((i : Int) < tg) = True := eq_true ht.1
  have r2 : (tg < (n : Int)) = True := eq_true ht.2
  clear h1 h2
  go_enter Tryz.func82, Tryz.ntmps82
  go_wp2
  first
    | (go_ret; exact ⟨rfl, by exact blBy⟩)
    | (go_quiet (fail); go_wp2; go_ret; exact ⟨rfl, by first | exact below_drewN _ _ | exact blBy⟩)
theorem isEncT (w : World) (pa ps i n : Nat) (sa : Option Addr) (sc : Nat) (tg : Int) (h1 : Blk w pa 3 #[.int .i64 i]) (h2 : Blk w ps 25 #[.slice sa n sc]) (hn : n ≤ 100000) (ht : (i : Int) < tg ∧ tg < n) : Calls Tryz.prog 84 #[.int .i64 tg, .pointer (some ⟨pa, 0, none⟩), .pointer (some ⟨ps, 0, none⟩)] w fun e w' => e = .returned (.bool true) ∧ Below w.heap.size w w' := by
  have x1 := h1.cellF
  have z1 := h1.lt
  have x2 := h2.cellF
  have z2 := h2.lt
  have r1 : ((i : Int) < tg) = True := eq_true ht.1
  have r2 : (tg < (n : Int)) = True := eq_true ht.2
  clear h1 h2
  go_enter Tryz.func84, Tryz.ntmps84
  go_wp2
  first
    | (go_ret; exact ⟨rfl, by exact blBy⟩)
    | (go_quiet (fail); go_wp2; go_ret; exact ⟨rfl, by first | exact below_drewN _ _ | exact blBy⟩)
theorem isDecL (w : World) (bs : List BV) (ba : Option Addr) (bc : Nat) (hp : PgR w (.slice ba bs.length bc) bs) (l : List IN) (la : Option Addr) (lc : Nat) (hl : RowS w AnyZ 5 (.slice la l.length lc) l.length (l.flatMap cIN)) (hn : l.length ≤ 100000) (hP : ∀ i (h : i < l.length), RdP bs l.length i l[i]) (h0 : 0 < l.length) (hL : ∃ h : l.length - 1 < l.length, l[l.length - 1].op = 4) : Calls Tryz.prog 51 #[.slice ba bs.length bc, .slice la l.length lc] w fun e w' => e = .returned (.bool true) ∧ Below w.heap.size w w' := by
  have HR := hid hl
  have HG := hid hp
  have HP := hid hP
  have HN := hid hn
  have n0 : (0 : Int) < (l.length : Int) := by omega
  have n63 : (l.length : Int) ≤ 100000 := by omega
  clear hl hp hP
  go_enter Tryz.func51, Tryz.ntmps51
  go_wp2_with fail
  go_loopw [10] (fun r wr => ∃ j : Nat, r = .int .i64 j ∧ j ≤ l.length ∧ Hid (Blk wr w.heap.size 25 #[.slice la l.length lc]) ∧ Hid (Below w.heap.size w wr)) (fun r wr => l.length - numAt wr r)
  case atStart => exact ⟨0, rfl, by omega, hid (Blk.new _ _ _), hid (by exact blBy)⟩
  case round =>
    obtain ⟨j, rfl, hj, Bl, hb⟩ := hrel
    have xl := Bl.out.cellF
    have zl := Bl.out.lt
    by_cases hlt : j < l.length
    · have h2 : (j : Int) < (l.length : Int) := by omega
      obtain ⟨pb, po, epb, hc⟩ := rowAt (g := cIN) (fun _ => rfl) (HR.out.kept hb.out) (i := j) (x := l[j]) (by simp [hlt])
      subst epb
      have c0 := hc 0 _ rfl
      have c1 := hc 1 _ rfl
      have c2 := hc 2 _ rfl
      have c3 := hc 3 _ rfl
      have c4 := hc 4 _ rfl
      clear hc
      simp only [Nat.add_zero] at c0
      have hpb : pb < wr.heap.size := World.block_lt_of_cell? _ _ c0
      have HPJ := hid (HP.out j hlt)
      generalize l[j] = s at *
      obtain ⟨cc, kq1, kq2⟩ : ∃ cc : Bool, (s.op == 1) = cc ∧ ((j : Int) == 0) = cc := by
        rcases HPJ.out with ⟨e, e0⟩ | ⟨e0, h⟩
        · exact ⟨true, by rw [e]; rfl, by rw [e0]; rfl⟩
        · refine ⟨false, ?_, by rw [beq_eq_false_iff_ne]; omega⟩
          rcases h with e | e | ⟨a, b, m, k, e, _⟩ | ⟨a, e, _⟩ | ⟨k, e, _⟩ | ⟨a, o, e, _, ho⟩ | ⟨a, c, k, e, _⟩ | ⟨a, b, c, e, _⟩ | ⟨a, b, c, d, e, _⟩
          all_goals rw [e]
          all_goals first | rfl | (rcases ho with rfl | rfl | rfl <;> rfl)
      have HCA : Hid (∀ W tg, ((j : Int) < tg ∧ tg < l.length) → Below wr.heap.size ((wr.alloc (.cells #[.int .i64 j] 3)).alloc (.cells #[.int .i64 s.op, .int .i64 s.a, .int .i64 s.b, .int .i64 s.c, .int .i64 s.d] 59)) W → Blk W wr.heap.size 3 #[.int .i64 j] → Blk W w.heap.size 25 #[.slice (some ⟨pb, po, none⟩) l.length lc] → Calls Tryz.prog 82 (#[.int .i64 tg] ++ #[.pointer (some ⟨wr.heap.size, 0, none⟩), .pointer (some ⟨w.heap.size, 0, none⟩)]) W fun e w' => e = .returned (.bool true) ∧ Below W.heap.size W w') := hid fun W tg ht _ q1 q2 => isDecT W wr.heap.size w.heap.size j l.length _ lc tg q1 q2 HN.out ht
      have Bj : Blk ((wr.alloc (.cells #[.int .i64 j] 3)).alloc (.cells #[.int .i64 s.op, .int .i64 s.a, .int .i64 s.b, .int .i64 s.c, .int .i64 s.d] 59)) wr.heap.size 3 #[.int .i64 j] := (Blk.new _ _ _).kept (below_alloc _)
      have Bl2 : Blk ((wr.alloc (.cells #[.int .i64 j] 3)).alloc (.cells #[.int .i64 s.op, .int .i64 s.a, .int .i64 s.b, .int .i64 s.c, .int .i64 s.d] 59)) w.heap.size 25 #[.slice (some ⟨pb, po, none⟩) l.length lc] := (Bl.out.kept (below_alloc _)).kept (below_alloc _)
      have HC := hid (isReadingT _ bs ba bc (HG.out.kept (show Below w.heap.size w ((wr.alloc (.cells #[.int .i64 j] 3)).alloc (.cells #[.int .i64 s.op, .int .i64 s.a, .int .i64 s.b, .int .i64 s.c, .int .i64 s.d] 59)) from bl_alloc (bl_alloc hb.out _) _)) l.length j s HPJ.out #[.pointer (some ⟨wr.heap.size, 0, none⟩), .pointer (some ⟨w.heap.size, 0, none⟩)] (fun tg ht W hW => HCA.out W tg ht (hW.mono (by simp; omega)) (Bj.kept hW) (Bl2.kept hW)))
      replace Bl2 := hid Bl2
      clear Bj HCA
      cases cc <;>
      · go_wp2_with fail
        refine HC.out.mono ?_
        rintro e w1 ⟨rfl, hb1⟩
        have Bl3 := hid (Bl2.out.kept hb1)
        have HB1 := hid (bl_then (bl_alloc (bl_alloc hb.out _) _) hb1)
        go_wp2
        exact ⟨⟨j + 1, by simp, by omega, Bl3, HB1⟩, by simp [numAt]; omega⟩
    · have h2 : ¬ (j : Int) < (l.length : Int) := by omega
      obtain ⟨hl1, hop⟩ := hL
      obtain ⟨n2, en2⟩ : ∃ n2, n2 = l.length - 1 := ⟨_, rfl⟩
      have k4 : (l.length : Int) - 1 = (n2 : Int) := by omega
      have k5 : (n2 : Int) < (l.length : Int) := by omega
      obtain ⟨pb, po, epb, hc⟩ := rowAt (g := cIN) (fun _ => rfl) (HR.out.kept hb.out) (i := n2) (x := l[l.length - 1]) (by rw [en2]; simp [hl1])
      subst epb
      have c0 := hc 0 _ rfl
      clear hc en2
      simp only [Nat.add_zero] at c0
      rw [hop] at c0
      have hpb : pb < wr.heap.size := World.block_lt_of_cell? _ _ c0
      have w64 : IntKind.i64.wrap (n2 : Int) = (n2 : Int) := wraps_i64 _ (by omega) (by omega)
      clear hop
      go_wp2
      first
        | (go_ret; exact ⟨rfl, hb.out⟩)
        | (go_quiet (fail); go_wp2; go_ret; exact ⟨rfl, by first | exact bl_drewN hb.out _ | exact hb.out⟩)
theorem isEncL (w : World) (bs : List BV) (ba : Option Addr) (bc : Nat) (hp : PgR w (.slice ba bs.length bc) bs) (l : List IN) (la : Option Addr) (lc : Nat) (hl : RowS w AnyZ 5 (.slice la l.length lc) l.length (l.flatMap cIN)) (hn : l.length ≤ 100000) (hP : ∀ i (h : i < l.length), WrP bs l.length i l[i]) (h0 : 0 < l.length) : Calls Tryz.prog 52 #[.slice ba bs.length bc, .slice la l.length lc] w fun e w' => e = .returned (.bool true) ∧ Below w.heap.size w w' := by
  have HR := hid hl
  have HG := hid hp
  have HP := hid hP
  have HN := hid hn
  have n0 : (0 : Int) < (l.length : Int) := by omega
  have n63 : (l.length : Int) ≤ 100000 := by omega
  clear hl hp hP
  go_enter Tryz.func52, Tryz.ntmps52
  go_wp2_with fail
  go_loopw [10] (fun r wr => ∃ j : Nat, r = .int .i64 j ∧ j ≤ l.length ∧ Hid (Blk wr w.heap.size 25 #[.slice la l.length lc]) ∧ Hid (Below w.heap.size w wr)) (fun r wr => l.length - numAt wr r)
  case atStart => exact ⟨0, rfl, by omega, hid (Blk.new _ _ _), hid (by exact blBy)⟩
  case round =>
    obtain ⟨j, rfl, hj, Bl, hb⟩ := hrel
    have xl := Bl.out.cellF
    have zl := Bl.out.lt
    by_cases hlt : j < l.length
    · have h2 : (j : Int) < (l.length : Int) := by omega
      obtain ⟨pb, po, epb, hc⟩ := rowAt (g := cIN) (fun _ => rfl) (HR.out.kept hb.out) (i := j) (x := l[j]) (by simp [hlt])
      subst epb
      have c0 := hc 0 _ rfl
      have c1 := hc 1 _ rfl
      have c2 := hc 2 _ rfl
      have c3 := hc 3 _ rfl
      have c4 := hc 4 _ rfl
      clear hc
      simp only [Nat.add_zero] at c0
      have hpb : pb < wr.heap.size := World.block_lt_of_cell? _ _ c0
      have HPJ := hid (HP.out j hlt)
      generalize l[j] = s at *
      obtain ⟨cc, kq1, kq2⟩ : ∃ cc : Bool, (s.op == 24) = cc ∧ ((j : Int) == (l.length : Int) - 1) = cc := by
        rcases HPJ.out with ⟨e, e0⟩ | ⟨e0, h⟩
        · exact ⟨true, by rw [e]; rfl, by rw [beq_iff_eq]; omega⟩
        · refine ⟨false, ?_, by rw [beq_eq_false_iff_ne]; omega⟩
          rcases h with e | ⟨a, b, c, e, _⟩ | ⟨a, m, k, e, _⟩ | ⟨a, e, _⟩ | ⟨k, e, _⟩ | ⟨a, b, c, m, k, e, _⟩ | ⟨a, b, m, k, e, _⟩ | ⟨a, b, c, d, m, k, e, _⟩
          all_goals rw [e]
          all_goals rfl
      have HCA : Hid (∀ W tg, ((j : Int) < tg ∧ tg < l.length) → Below wr.heap.size ((wr.alloc (.cells #[.int .i64 j] 3)).alloc (.cells #[.int .i64 s.op, .int .i64 s.a, .int .i64 s.b, .int .i64 s.c, .int .i64 s.d] 59)) W → Blk W wr.heap.size 3 #[.int .i64 j] → Blk W w.heap.size 25 #[.slice (some ⟨pb, po, none⟩) l.length lc] → Calls Tryz.prog 84 (#[.int .i64 tg] ++ #[.pointer (some ⟨wr.heap.size, 0, none⟩), .pointer (some ⟨w.heap.size, 0, none⟩)]) W fun e w' => e = .returned (.bool true) ∧ Below W.heap.size W w') := hid fun W tg ht _ q1 q2 => isEncT W wr.heap.size w.heap.size j l.length _ lc tg q1 q2 HN.out ht
      have Bj : Blk ((wr.alloc (.cells #[.int .i64 j] 3)).alloc (.cells #[.int .i64 s.op, .int .i64 s.a, .int .i64 s.b, .int .i64 s.c, .int .i64 s.d] 59)) wr.heap.size 3 #[.int .i64 j] := (Blk.new _ _ _).kept (below_alloc _)
      have Bl2 : Blk ((wr.alloc (.cells #[.int .i64 j] 3)).alloc (.cells #[.int .i64 s.op, .int .i64 s.a, .int .i64 s.b, .int .i64 s.c, .int .i64 s.d] 59)) w.heap.size 25 #[.slice (some ⟨pb, po, none⟩) l.length lc] := (Bl.out.kept (below_alloc _)).kept (below_alloc _)
      have HC := hid (isWritingT _ bs ba bc (HG.out.kept (show Below w.heap.size w ((wr.alloc (.cells #[.int .i64 j] 3)).alloc (.cells #[.int .i64 s.op, .int .i64 s.a, .int .i64 s.b, .int .i64 s.c, .int .i64 s.d] 59)) from bl_alloc (bl_alloc hb.out _) _)) l.length j s HPJ.out #[.pointer (some ⟨wr.heap.size, 0, none⟩), .pointer (some ⟨w.heap.size, 0, none⟩)] (fun tg ht W hW => HCA.out W tg ht (hW.mono (by simp; omega)) (Bj.kept hW) (Bl2.kept hW)))
      replace Bl2 := hid Bl2
      clear Bj HCA
      cases cc <;>
      · go_wp2_with fail
        refine HC.out.mono ?_
        rintro e w1 ⟨rfl, hb1⟩
        have Bl3 := hid (Bl2.out.kept hb1)
        have HB1 := hid (bl_then (bl_alloc (bl_alloc hb.out _) _) hb1)
        go_wp2
        exact ⟨⟨j + 1, by simp, by omega, Bl3, HB1⟩, by simp [numAt]; omega⟩
    · have h2 : ¬ (j : Int) < (l.length : Int) := by omega
      go_wp2
      go_ret
      exact ⟨rfl, hb.out⟩
theorem doRiseP (w : World) (l : List LN) (la : Option Addr) (lc : Nat) (hl : RowS w AnyZ 2 (.slice la l.length lc) l.length (l.flatMap cLN)) (hn : l.length ≤ 100000) (hp : ∀ i j, i < j → ∀ (hj : j < l.length) (hi : i < l.length), l[i].tag < l[j].tag) : Calls Tryz.prog 48 #[.slice la l.length lc] w fun e w' => e = .returned (.bool true) ∧ Below w.heap.size w w' := by
  have HR := hid hl
  have HP := hid hp
  have n63 : (l.length : Int) ≤ 100000 := by omega
  clear hl hp
  go_enter Tryz.func48, Tryz.ntmps48
  go_wp2
  go_loopw [6] (fun r wr => ∃ j : Nat, r = .int .i64 j ∧ j ≤ l.length ∧ Hid (Below w.heap.size w wr)) (fun r wr => l.length - numAt wr r)
  case atStart => exact ⟨0, rfl, by omega, hid (Below.refl _ _)⟩
  case round =>
    obtain ⟨j, rfl, hj, hb⟩ := hrel
    by_cases hlt : j < l.length
    · have h2 : (j : Int) < (l.length : Int) := by omega
      by_cases h0 : j = 0
      · subst h0
        go_wp2
        first
          | exact ⟨⟨1, by simp, by omega, hb⟩, by simp [numAt]; omega⟩
          | (go_quiet (fail); go_wp2; exact ⟨⟨1, by simp, by omega, hid (bl_drewN hb.out _)⟩, by simp [numAt]; omega⟩)
      · obtain ⟨i, ei⟩ : ∃ i : Nat, i = j - 1 := ⟨_, rfl⟩
        have j4b : (j : Int) - 1 = (i : Int) := by omega
        have j4c : (i : Int) < (l.length : Int) := by omega
        have j4d : (0 < j) = True := eq_true (by omega)
        have j4e : ((0 : Int) < (j : Int)) = True := eq_true (by omega)
        have hil : i < l.length := by omega
        have HOR : Hid (l[i].tag < l[j].tag) := hid (HP.out i j (by omega) hlt hil)
        obtain ⟨g4, go4, eg, hc⟩ := rowAt (g := cLN) (fun _ => rfl) (HR.out.kept hb.out) (i := i) (x := l[i]) (by simp [hil])
        obtain ⟨g2, go2, eg2, hd⟩ := rowAt (g := cLN) (fun _ => rfl) (HR.out.kept hb.out) (i := j) (x := l[j]) (by simp [hlt])
        subst eg
        cases eg2
        have c0 := hc 0 _ rfl
        have c1 := hd 0 _ rfl
        clear hc hd ei
        simp only [Nat.add_zero] at c0 c1
        have hgb : g4 < wr.heap.size := World.block_lt_of_cell? _ _ c0
        generalize l[i] = a at *
        generalize l[j] = b at *
        have f1 : (b.tag ≤ a.tag) = False := eq_false (by have := HOR.out; omega)
        have f2 : a.tag < b.tag := HOR.out
        have f3 : IntKind.i64.wrap (i : Int) = (i : Int) := wraps_i64 _ (by omega) (by omega)
        go_wp2
        first
          | exact ⟨⟨j + 1, by simp, by omega, hb⟩, by simp [numAt]; omega⟩
          | (go_quiet (fail); go_wp2; exact ⟨⟨j + 1, by simp, by omega, hid (bl_drewN hb.out _)⟩, by simp [numAt]; omega⟩)
    · have h2 : ¬ (j : Int) < (l.length : Int) := by omega
      go_wp2
      go_ret
      exact ⟨rfl, hb.out⟩
theorem isNoneT (w : World) (x : LN) (h : 0 ≤ x.tag ∧ x.tag ≤ 2147483647 ∧ x.pl = 0) : Calls Tryz.prog 80 #[.agg #[.int .i64 x.tag, .int .i64 x.pl]] w fun e w' => e = .returned (.bool false) ∧ Below w.heap.size w w' := by
  obtain ⟨t, p⟩ := x
  dsimp only at h ⊢
  obtain ⟨h1, h2, rfl⟩ := h
  have heq : ∀ W, (Op.equalIn 10000 61 (.agg #[.int .i64 t, .int .i64 0]) (.agg #[.int .i64 t, .int .i64 0])).run Tryz.prog W = .ok true W := fun W => by
    have := eqLN ⟨t, 0⟩ ⟨t, 0⟩ W
    rw [(lnB_iff _ _).2 rfl] at this
    exact this
  have hgd := gdLN
  have r1 : (t < 0) = False := eq_false (by omega)
  have r2 : (2147483647 < t) = False := eq_false (by omega)
  go_enter Tryz.func80, Tryz.ntmps80
  go_wp2
  go_ret
  exact ⟨rfl, by exact blBy⟩
theorem idxLine (w : World) (l : List LN) (la : Option Addr) (lc : Nat) (hl : RowS w AnyZ 2 (.slice la l.length lc) l.length (l.flatMap cLN)) (hn : l.length ≤ 100000) (fn : FuncId) (caps : Array Value) (hcf : ∀ (args : Array Value) (W : World), (callFunc fn args).run Tryz.prog W = .ok (.enter fn args) W) (hc : ∀ x ∈ l, ∀ W, Below w.heap.size w W → Calls Tryz.prog fn (#[.agg #[.int .i64 x.tag, .int .i64 x.pl]] ++ caps) W fun e w' => e = .returned (.bool false) ∧ Below W.heap.size W w') : Calls Tryz.prog 123 #[.slice la l.length lc, .func (.func fn) #[] caps] w fun e w' => e = .returned (.int .i64 (-1)) ∧ Below w.heap.size w w' := by
  have HR := hid hl
  have HC := hid hc
  have n63 : (l.length : Int) ≤ 100000 := by omega
  clear hl hc
  go_enter Tryz.func123, Tryz.ntmps123
  go_wp2
  go_loopw [8] (fun r wr => ∃ j : Nat, r = .int .i64 j ∧ j ≤ l.length ∧ Hid (Below w.heap.size w wr)) (fun r wr => l.length - numAt wr r)
  case atStart => exact ⟨0, rfl, by omega, hid (Below.refl _ _)⟩
  case round =>
    obtain ⟨j, rfl, hj, hb⟩ := hrel
    by_cases hlt : j < l.length
    · have h2 : (j : Int) < (l.length : Int) := by omega
      obtain ⟨pb, po, epb, hcc⟩ := rowAt (g := cLN) (fun _ => rfl) (HR.out.kept hb.out) (i := j) (x := l[j]) (by simp [hlt])
      subst epb
      have c0 := hcc 0 _ rfl
      have c1 := hcc 1 _ rfl
      clear hcc
      simp only [Nat.add_zero] at c0
      have hpb : pb < wr.heap.size := World.block_lt_of_cell? _ _ c0
      have HCJ := hid (HC.out _ (List.getElem_mem hlt) wr hb.out)
      generalize l[j] = x at *
      go_wp2_with fail
      refine HCJ.out.mono ?_
      rintro e w1 ⟨rfl, hb1⟩
      have HB1 := hid (bl_then hb.out hb1)
      go_wp2
      exact ⟨⟨j + 1, by simp, by omega, HB1⟩, by simp [numAt]; omega⟩
    · have h2 : ¬ (j : Int) < (l.length : Int) := by omega
      go_wp2
      go_ret
      exact ⟨rfl, hb.out⟩
theorem conLine (w : World) (l : List LN) (la : Option Addr) (lc : Nat) (hl : RowS w AnyZ 2 (.slice la l.length lc) l.length (l.flatMap cLN)) (hn : l.length ≤ 100000) (fn : FuncId) (caps : Array Value) (hcf : ∀ (args : Array Value) (W : World), (callFunc fn args).run Tryz.prog W = .ok (.enter fn args) W) (hc : ∀ x ∈ l, ∀ W, Below w.heap.size w W → Calls Tryz.prog fn (#[.agg #[.int .i64 x.tag, .int .i64 x.pl]] ++ caps) W fun e w' => e = .returned (.bool false) ∧ Below W.heap.size W w') : Calls Tryz.prog 81 #[.slice la l.length lc, .func (.func fn) #[] caps] w fun e w' => e = .returned (.bool false) ∧ Below w.heap.size w w' := by
  have HI := hid (idxLine w l la lc hl hn fn caps hcf hc)
  clear hl hc
  go_enter Tryz.func81, Tryz.ntmps81
  go_wp2_with fail
  refine HI.out.mono ?_
  rintro e w1 ⟨rfl, hb1⟩
  go_wp2
  go_ret
  exact ⟨rfl, hb1⟩
theorem idxBlock (w : World) (l : List BV) (la : Option Addr) (lc : Nat) (hl : PgR w (.slice la l.length lc) l) (hn : l.length ≤ 100000) (fn : FuncId) (caps : Array Value) (hcf : ∀ (args : Array Value) (W : World), (callFunc fn args).run Tryz.prog W = .ok (.enter fn args) W) (hc : ∀ (j : Nat) (hj : j < l.length) W, Below w.heap.size w W → ∀ da ea ra dc ec rc, BkR W l[j].k (.slice da l[j].k.dec.length dc) (.slice ea l[j].k.enc.length ec) (.slice ra l[j].k.rows.length rc) → Calls Tryz.prog fn (#[.agg #[.slice da l[j].k.dec.length dc, .slice ea l[j].k.enc.length ec, .slice ra l[j].k.rows.length rc]] ++ caps) W fun e w' => e = .returned (.bool false) ∧ Below W.heap.size W w') : Calls Tryz.prog 47 #[.slice la l.length lc, .func (.func fn) #[] caps] w fun e w' => e = .returned (.int .i64 (-1)) ∧ Below w.heap.size w w' := by
  have HR := hid hl
  have HC := hid hc
  have n63 : (l.length : Int) ≤ 100000 := by omega
  clear hl hc
  go_enter Tryz.func47, Tryz.ntmps47
  go_wp2
  go_loopw [8] (fun r wr => ∃ j : Nat, r = .int .i64 j ∧ j ≤ l.length ∧ Hid (Below w.heap.size w wr)) (fun r wr => l.length - numAt wr r)
  case atStart => exact ⟨0, rfl, by omega, hid (Below.refl _ _)⟩
  case round =>
    obtain ⟨j, rfl, hj, hb⟩ := hrel
    by_cases hlt : j < l.length
    · have h2 : (j : Int) < (l.length : Int) := by omega
      obtain ⟨pb, po, da, dc, ea, ec, ra, rc, epb, hpb, c0, c1, c2, hbk⟩ := pg_at (HR.out.kept hb.out) hlt
      subst epb
      have HCJ := hid (HC.out j hlt wr hb.out da ea ra dc ec rc hbk)
      clear hbk
      generalize l[j] = x at *
      go_wp2_with fail
      refine HCJ.out.mono ?_
      rintro e w1 ⟨rfl, hb1⟩
      have HB1 := hid (bl_then hb.out hb1)
      go_wp2
      exact ⟨⟨j + 1, by simp, by omega, HB1⟩, by simp [numAt]; omega⟩
    · have h2 : ¬ (j : Int) < (l.length : Int) := by omega
      go_wp2
      go_ret
      exact ⟨rfl, hb.out⟩
theorem conBlock (w : World) (l : List BV) (la : Option Addr) (lc : Nat) (hl : PgR w (.slice la l.length lc) l) (hn : l.length ≤ 100000) (fn : FuncId) (caps : Array Value) (hcf : ∀ (args : Array Value) (W : World), (callFunc fn args).run Tryz.prog W = .ok (.enter fn args) W) (hc : ∀ (j : Nat) (hj : j < l.length) W, Below w.heap.size w W → ∀ da ea ra dc ec rc, BkR W l[j].k (.slice da l[j].k.dec.length dc) (.slice ea l[j].k.enc.length ec) (.slice ra l[j].k.rows.length rc) → Calls Tryz.prog fn (#[.agg #[.slice da l[j].k.dec.length dc, .slice ea l[j].k.enc.length ec, .slice ra l[j].k.rows.length rc]] ++ caps) W fun e w' => e = .returned (.bool false) ∧ Below W.heap.size W w') : Calls Tryz.prog 27 #[.slice la l.length lc, .func (.func fn) #[] caps] w fun e w' => e = .returned (.bool false) ∧ Below w.heap.size w w' := by
  have HI := hid (idxBlock w l la lc hl hn fn caps hcf hc)
  clear hl hc
  go_enter Tryz.func27, Tryz.ntmps27
  go_wp2_with fail
  refine HI.out.mono ?_
  rintro e w1 ⟨rfl, hb1⟩
  go_wp2
  go_ret
  exact ⟨rfl, hb1⟩
theorem cfNone (args : Array Value) (W : World) : (callFunc 80 args).run Tryz.prog W = .ok (.enter 80 args) W := cf_enter Tryz.func80 (by kernel_rfl) (by kernel_rfl) args W
theorem areSymbolsT (w : World) (l : List LN) (la : Option Addr) (lc : Nat) (hl : RowS w AnyZ 2 (.slice la l.length lc) l.length (l.flatMap cLN)) (hn : 0 < l.length ∧ l.length ≤ 128) (hp : ∀ x ∈ l, 0 ≤ x.tag ∧ x.tag ≤ 2147483647 ∧ x.pl = 0) : Calls Tryz.prog 50 #[.slice la l.length lc] w fun e w' => e = .returned (.bool true) ∧ Below w.heap.size w w' := by
  have HC : Hid (∀ W, Below w.heap.size w W → Calls Tryz.prog 81 #[.slice la l.length lc, .func (.func 80) #[] #[]] W fun e w' => e = .returned (.bool false) ∧ Below W.heap.size W w') := hid fun W hW => conLine W l la lc (hl.kept hW) (by omega) _ _ cfNone (fun x hx W' _ => isNoneT W' x (hp x hx))
  have r1 : (0 : Int) < (l.length : Int) := by omega
  have r2 : ((l.length : Int) ≤ 128) = True := eq_true (by omega)
  have r3 : (0 < l.length) = True := eq_true hn.1
  clear hl hp hn
  go_enter Tryz.func50, Tryz.ntmps50
  go_wp2_with fail
  refine (HC.out _ (by first | exact Below.refl _ _ | exact blBy)).mono ?_
  rintro e w1 ⟨rfl, hb1⟩
  go_wp2
  go_ret
  exact ⟨rfl, hb1⟩
theorem cfTarget (args : Array Value) (W : World) : (callFunc 86 args).run Tryz.prog W = .ok (.enter 86 args) W := cf_enter Tryz.func86 (by kernel_rfl) (by kernel_rfl) args W
theorem areTargetsT (w : World) (la : Option Addr) (lc : Nat) (l : List IN) (da : Option Addr) (dc : Nat) (hr : RowS w AnyZ 2 (.slice la 0 lc) 0 []) (hl : RowS w AnyZ 5 (.slice da l.length dc) l.length (l.flatMap cIN)) (hn : l.length ≤ 100000) (hp : ∀ x ∈ l, x.op ≠ 3) : Calls Tryz.prog 53 #[.slice la 0 lc, .slice da l.length dc] w fun e w' => e = .returned (.bool true) ∧ Below w.heap.size w w' := by
  have HR := hid hl
  have HP := hid hp
  have n63 : (l.length : Int) ≤ 100000 := by omega
  have HC : Hid (∀ W caps, Below w.heap.size w W → Calls Tryz.prog 81 #[.slice la 0 lc, .func (.func 86) #[] caps] W fun e w' => e = .returned (.bool false) ∧ Below W.heap.size W w') := hid fun W caps hW => conLine W [] la lc (hr.kept hW) (by simp) _ caps cfTarget (fun x hx => by simp at hx)
  clear hr hl hp
  go_enter Tryz.func53, Tryz.ntmps53
  go_wp2_with fail
  go_loopw [11] (fun r wr => ∃ j : Nat, r = .int .i64 j ∧ j ≤ l.length ∧ Hid (Blk wr (w.heap.size + 1) 3 #[.int .i64 0]) ∧ Hid (Below w.heap.size w wr)) (fun r wr => l.length - numAt wr r)
  case atStart => exact ⟨0, rfl, by omega, hid (Blk.newAt (by simp)), hid (by exact blBy)⟩
  case round =>
    obtain ⟨j, rfl, hj, Bl, hb⟩ := hrel
    by_cases hlt : j < l.length
    · have h2 : (j : Int) < (l.length : Int) := by omega
      obtain ⟨pb, po, epb, hc⟩ := rowAt (g := cIN) (fun _ => rfl) (HR.out.kept hb.out) (i := j) (x := l[j]) (by simp [hlt])
      subst epb
      have c0 := hc 0 _ rfl
      have c1 := hc 1 _ rfl
      have c2 := hc 2 _ rfl
      have c3 := hc 3 _ rfl
      have c4 := hc 4 _ rfl
      clear hc
      simp only [Nat.add_zero] at c0
      have hpb : pb < wr.heap.size := World.block_lt_of_cell? _ _ c0
      have hne := HP.out _ (List.getElem_mem hlt)
      generalize l[j] = s at *
      have k3 : (s.op == 3) = false := by simpa using hne
      clear hne
      go_wp2
      exact ⟨⟨j + 1, by simp, by omega, hid (Bl.out.kept (below_alloc _)), hid (bl_alloc hb.out _)⟩, by simp [numAt]; omega⟩
    · have h2 : ¬ (j : Int) < (l.length : Int) := by omega
      have xl := Bl.out.cellF
      have zl := Bl.out.lt
      go_wp2_with fail
      first
        | (refine (HC.out _ _ hb.out).mono ?_
           rintro e w1 ⟨rfl, hb1⟩
           go_wp2
           go_ret
           exact ⟨rfl, bl_then hb.out hb1⟩)
/-- A valid block. -/
structure VB (bs : List BV) (K : BK) : Prop where
  rise : ∀ i j, i < j → ∀ (hj : j < K.rows.length) (hi : i < K.rows.length), K.rows[i].tag < K.rows[j].tag
  len : K.dec.length ≤ 100000 ∧ K.enc.length ≤ 100000 ∧ K.rows.length ≤ 100000
  sort : (K.dec = [] ∧ K.enc = [] ∧ (0 < K.rows.length ∧ K.rows.length ≤ 128) ∧ ∀ x ∈ K.rows, 0 ≤ x.tag ∧ x.tag ≤ 2147483647 ∧ x.pl = 0) ∨ (K.rows = [] ∧ 0 < K.dec.length ∧ 0 < K.enc.length ∧ (∀ i (h : i < K.dec.length), RdP bs K.dec.length i K.dec[i]) ∧ (∃ h : K.dec.length - 1 < K.dec.length, K.dec[K.dec.length - 1].op = 4) ∧ (∀ x ∈ K.dec, x.op ≠ 3) ∧ ∀ i (h : i < K.enc.length), WrP bs K.enc.length i K.enc[i])
theorem hasStepsT (w : World) (da ea ra : Option Addr) (n1 dc n2 ec n3 rc : Nat) (h1 : n1 ≤ 100000) (h2 : n2 ≤ 100000) : Calls Tryz.prog 49 #[.agg #[.slice da n1 dc, .slice ea n2 ec, .slice ra n3 rc]] w fun e w' => e = .returned (.bool (decide (0 < n1 + n2))) ∧ Below w.heap.size w w' := by
  have r4 : (n1 : Int) + (n2 : Int) ≤ 9223372036854775807 := by omega
  have r5 : (n1 : Int) ≤ 100000 := by omega
  have r6 : (n2 : Int) ≤ 100000 := by omega
  go_enter Tryz.func49, Tryz.ntmps49
  go_wp2
  go_ret
  exact ⟨ret_bool (by first | rfl | (by_cases h : 0 < n1 + n2 <;> simp [h] <;> omega)), by exact blBy⟩
theorem isValidT (w : World) (bs : List BV) (ba : Option Addr) (bc : Nat) (hp : PgR w (.slice ba bs.length bc) bs) (K : BK) (hv : VB bs K) (da ea ra : Option Addr) (dc ec rc : Nat) (hk : BkR w K (.slice da K.dec.length dc) (.slice ea K.enc.length ec) (.slice ra K.rows.length rc)) : Calls Tryz.prog 29 #[.slice ba bs.length bc, .agg #[.slice da K.dec.length dc, .slice ea K.enc.length ec, .slice ra K.rows.length rc]] w fun e w' => e = .returned (.bool true) ∧ Below w.heap.size w w' := by
  have HRI := hid (fun W hW => doRiseP W K.rows ra rc (hk.hr.kept (w' := W) hW) hv.len.2.2 hv.rise)
  rcases hv.sort with ⟨e1, e2, hn, hx⟩ | ⟨e1, h1, h2, h3, h4, h5, h6⟩
  · have HAS := hid (fun W hW => areSymbolsT W K.rows ra rc (hk.hr.kept (w' := W) hW) hn hx)
    obtain ⟨dec, enc, rows⟩ := K
    dsimp only at e1 e2 hn hk HRI HAS ⊢
    subst e1 e2
    have r1 : (rows.length : Int) ≤ 128 := by omega
    clear hk hv hp hx
    dsimp only [List.length_nil] at *
    go_enter Tryz.func29, Tryz.ntmps29
    go_wp2_with fail
    refine (HRI.out _ (by exact blBy)).mono ?_
    rintro e w1 ⟨rfl, hb1⟩
    have Bb : Blk w1 w.heap.size 28 #[.slice da 0 dc, .slice ea 0 ec, .slice ra rows.length rc] := (Blk.new _ _ _).kept hb1
    replace hb1 : Hid (Below w.heap.size w w1) := hid (bl_then (by exact blBy) hb1)
    have xb := Bb.cellF
    have zb := Bb.lt
    have HHS := hid (hasStepsT w1 da ea ra 0 dc 0 ec rows.length rc (by omega) (by omega))
    go_wp2_with fail
    refine HHS.out.mono ?_
    rintro e w2 ⟨rfl, hb2⟩
    replace Bb := Bb.kept hb2
    replace hb1 : Hid (Below w.heap.size w w2) := hid (bl_then hb1.out hb2)
    clear xb zb HHS
    have xb := Bb.cellF
    have zb := Bb.lt
    have dd : decide (0 < 0 + 0) = false := rfl
    go_wp2_with fail
    refine (HAS.out _ hb1.out).mono ?_
    rintro e w3 ⟨rfl, hb3⟩
    replace hb3 := hid (bl_then hb1.out hb3)
    go_wp2
    go_ret
    exact ⟨rfl, hb3.out⟩
  · have HD := hid (fun W hW => isDecL W bs ba bc (hp.kept hW) K.dec da dc (hk.hd.kept (w' := W) hW) hv.len.1 h3 h1 h4)
    have HE := hid (fun W hW => isEncL W bs ba bc (hp.kept hW) K.enc ea ec (hk.he.kept (w' := W) hW) hv.len.2.1 h6 h2)
    obtain ⟨dec, enc, rows⟩ := K
    dsimp only at e1 h1 h2 h5 hk HRI HD HE ⊢
    subst e1
    have HTA := hid (fun W hW => areTargetsT W ra rc dec da dc (hk.hr.kept (w' := W) hW) (hk.hd.kept hW) hv.len.1 h5)
    have HHS := hid (fun W => hasStepsT W da ea ra dec.length dc enc.length ec 0 rc hv.len.1 hv.len.2.1)
    have HDE : Hid (decide (0 < dec.length + enc.length) = true) := hid (decide_eq_true (by omega))
    rw [HDE.out] at HHS
    clear hk hv hp h3 h4 h5 h6 h1 h2
    dsimp only [List.length_nil] at *
    go_enter Tryz.func29, Tryz.ntmps29
    go_wp2_with fail
    refine (HRI.out _ (by exact blBy)).mono ?_
    rintro e w1 ⟨rfl, hb1⟩
    have Bb : Blk w1 w.heap.size 28 #[.slice da dec.length dc, .slice ea enc.length ec, .slice ra 0 rc] := (Blk.new _ _ _).kept hb1
    replace hb1 : Hid (Below w.heap.size w w1) := hid (bl_then (by exact blBy) hb1)
    have xb := Bb.cellF
    have zb := Bb.lt
    go_wp2_with fail
    refine (HHS.out _).mono ?_
    rintro e w2 ⟨rfl, hb2⟩
    replace Bb := Bb.kept hb2
    have HB : Hid (Below w.heap.size w w2) := hid (bl_then hb1.out hb2)
    clear xb zb hb1 HRI
    have e0 := Bb.cell 0 _ rfl
    have e1 := Bb.cell 1 _ rfl
    have e2 := Bb.cell 2 _ rfl
    simp only [List.getElem_toArray, List.getElem_cons_succ, List.getElem_cons_zero] at e0 e1 e2
    have zz := Bb.lt
    clear Bb
    go_wp2_with (first | (go_at_call 51; refine (HD.out _ (below_trans HB.out (by first | exact Below.refl _ _ | exact below_drew1 _ | exact below_drewN _ _))).mono ?_; rintro e w3 ⟨rfl, hbx⟩; replace e0 := cell_below e0 (below_trans (by first | exact Below.refl _ _ | exact below_drew1 _ | exact below_drewN _ _) hbx); replace e1 := cell_below e1 (below_trans (by first | exact Below.refl _ _ | exact below_drew1 _ | exact below_drewN _ _) hbx); replace e2 := cell_below e2 (below_trans (by first | exact Below.refl _ _ | exact below_drew1 _ | exact below_drewN _ _) hbx); replace HB := hid (below_trans HB.out (below_trans (by first | exact Below.refl _ _ | exact below_drew1 _ | exact below_drewN _ _) hbx)); clear hbx) | (go_at_call 52; refine (HE.out _ (below_trans HB.out (by first | exact Below.refl _ _ | exact below_drew1 _ | exact below_drewN _ _))).mono ?_; rintro e w3 ⟨rfl, hbx⟩; replace e0 := cell_below e0 (below_trans (by first | exact Below.refl _ _ | exact below_drew1 _ | exact below_drewN _ _) hbx); replace e1 := cell_below e1 (below_trans (by first | exact Below.refl _ _ | exact below_drew1 _ | exact below_drewN _ _) hbx); replace e2 := cell_below e2 (below_trans (by first | exact Below.refl _ _ | exact below_drew1 _ | exact below_drewN _ _) hbx); replace HB := hid (below_trans HB.out (below_trans (by first | exact Below.refl _ _ | exact below_drew1 _ | exact below_drewN _ _) hbx)); clear hbx) | (go_at_call 53; refine (HTA.out _ (below_trans HB.out (by first | exact Below.refl _ _ | exact below_drew1 _ | exact below_drewN _ _))).mono ?_; rintro e w3 ⟨rfl, hbx⟩; replace e0 := cell_below e0 (below_trans (by first | exact Below.refl _ _ | exact below_drew1 _ | exact below_drewN _ _) hbx); replace e1 := cell_below e1 (below_trans (by first | exact Below.refl _ _ | exact below_drew1 _ | exact below_drewN _ _) hbx); replace e2 := cell_below e2 (below_trans (by first | exact Below.refl _ _ | exact below_drew1 _ | exact below_drewN _ _) hbx); replace HB := hid (below_trans HB.out (below_trans (by first | exact Below.refl _ _ | exact below_drew1 _ | exact below_drewN _ _) hbx)); clear hbx))
    go_ret
    exact ⟨rfl, HB.out⟩
theorem valid1T (w : World) (bs : List BV) (ba : Option Addr) (bc p : Nat) (hp : PgR w (.slice ba bs.length bc) bs) (hB : Blk w p 67 #[.slice ba bs.length bc]) (K : BK) (hv : VB bs K) (da ea ra : Option Addr) (dc ec rc : Nat) (hk : BkR w K (.slice da K.dec.length dc) (.slice ea K.enc.length ec) (.slice ra K.rows.length rc)) : Calls Tryz.prog 28 #[.agg #[.slice da K.dec.length dc, .slice ea K.enc.length ec, .slice ra K.rows.length rc], .pointer (some ⟨p, 0, none⟩)] w fun e w' => e = .returned (.bool false) ∧ Below w.heap.size w w' := by
  have HC := hid (fun W hW => isValidT W bs ba bc (hp.kept hW) K hv da ea ra dc ec rc (hk.kept (w' := W) hW))
  have xp := hB.cellF
  have zp := hB.lt
  clear hp hv hk
  generalize K.dec.length = n1 at *
  generalize K.enc.length = n2 at *
  generalize K.rows.length = n3 at *
  go_enter Tryz.func28, Tryz.ntmps28
  go_wp2_with fail
  refine (HC.out _ (by exact blBy)).mono ?_
  rintro e w1 ⟨rfl, hb1⟩
  replace hb1 : Hid (Below w.heap.size w w1) := hid (bl_then (by exact blBy) hb1)
  go_wp2
  go_ret
  exact ⟨rfl, hb1.out⟩
theorem cfValid (args : Array Value) (W : World) : (callFunc 28 args).run Tryz.prog W = .ok (.enter 28 args) W := cf_enter Tryz.func28 (by kernel_rfl) (by kernel_rfl) args W
theorem validT (w : World) (bs : List BV) (ba : Option Addr) (bc : Nat) (hp : PgR w (.slice ba bs.length bc) bs) (hn : bs.length ≤ 128) (hv : ∀ x ∈ bs, VB bs x.k) : Calls Tryz.prog 14 #[.agg #[.slice ba bs.length bc]] w fun e w' => e = .returned (.bool true) ∧ Below w.heap.size w w' := by
  have HC : Hid (∀ W p, Below w.heap.size w W → Blk W p 67 #[.slice ba bs.length bc] → Calls Tryz.prog 27 #[.slice ba bs.length bc, .func (.func 28) #[] #[.pointer (some ⟨p, 0, none⟩)]] W fun e w' => e = .returned (.bool false) ∧ Below W.heap.size W w') := hid fun W p hW hB => conBlock W bs ba bc (hp.kept hW) (by omega) _ _ cfValid (fun j hj W' hW' da ea ra dc ec rc hbk => valid1T W' bs ba bc p ((hp.kept hW).kept hW') (hB.kept hW') _ (hv _ (List.getElem_mem hj)) da ea ra dc ec rc hbk)
  have r1 : ((128 : Int) < (bs.length : Int)) = False := eq_false (by omega)
  have r2 : (bs.length : Int) ≤ 128 := by omega
  clear hp hv
  go_enter Tryz.func14, Tryz.ntmps14
  go_wp2_with fail
  refine (HC.out _ _ (by exact blBy) (Blk.newAt (by simp))).mono ?_
  rintro e w1 ⟨rfl, hb1⟩
  replace hb1 : Hid (Below w.heap.size w w1) := hid (bl_then (by exact blBy) hb1)
  go_wp2
  go_ret
  exact ⟨rfl, hb1.out⟩
/-- What is known of a good table's field, and of the blocks that it names. -/
structure FGood (bs : List BV) (f : FT) : Prop where
  ok : FOk f
  k16 : f.kind = 16 → EnAt bs f.ref.toNat
  k17 : f.kind = 17 → MsAt bs f.ref.toNat
  k0 : f.kind ≠ 16 → f.kind ≠ 17 → f.ref = 0
  key : f.lab = 5 → kkey f.key = true
  l3 : f.lab = 3 → knum f.kind = true
theorem FGood.of {bs : List BV} {f : FT} (h : FGood bs f) : OfKind bs f.kind f.ref := by
  refine ⟨h.ok.kind.1, h.ok.kind.2, f.ref.toNat, by have := h.ok.ref; omega, fun q => ?_, fun q => ?_, fun q1 q2 => h.k0 q1 q2⟩
  · exact h.k16 q
  · exact h.k17 q
theorem wireV_k (f : FT) (hf : FOk f) : wireV f = 0 ∨ wireV f = 1 ∨ wireV f = 2 ∨ wireV f = 5 := by
  unfold wireV kwire
  have := hf.kind
  split
  · omega
  · split
    · omega
    · split
      · omega
      · split
        · omega
        · split <;> omega
theorem tagF (f : FT) (hf : FOk f) : TagOk (tagV f.num (wireV f)) f.num (wireV f) := ⟨rfl, hf.num, wireV_k f hf⟩
theorem tag2 (f : FT) (hf : FOk f) : TagOk (tagV f.num 2) f.num 2 := ⟨rfl, hf.num, by omega⟩
/-- A step that hangs on no place. -/
def RdB (bs : List BV) (s : IN) : Prop := (s = insV 13 [] ∨ s = insV 4 [0] ∨ (∃ a, s = insV 5 [a] ∧ 1 ≤ a ∧ a ≤ 16) ∨ (∃ k : Nat, s = insV 6 [(k : Int)] ∧ EnAt bs k) ∨ (∃ a o, s = insV o [a] ∧ FdOk a ∧ (o = 7 ∨ o = 8 ∨ o = 9)) ∨ (∃ (a c : Int) (k : Nat), s = insV 10 [a, (k : Int), c] ∧ FdOk a ∧ MsAt bs k ∧ (c = 0 ∨ c = 1 ∨ c = 2)) ∨ (∃ a b c, s = insV 11 [a, b, c] ∧ FdOk a ∧ knum b = true ∧ c ≤ 1000 ∧ ((b = 16 ∧ ∃ k : Nat, c = (k : Int) + 1 ∧ EnAt bs k) ∨ (b ≠ 16 ∧ c = 0))) ∨ (∃ a b c d, s = insV 12 [a, b, c, d] ∧ FdOk a ∧ kkey b = true ∧ OfKind bs c d))
theorem RdB.at {bs : List BV} {s : IN} (h : RdB bs s) (n i : Nat) (hi : i ≠ 0) : RdP bs n i s := by
  refine .inr ⟨hi, ?_⟩
  rcases h with h | h | h | h | h | h | h | h
  · exact .inl h
  · exact .inr (.inl h)
  · exact .inr (.inr (.inr (.inl h)))
  · exact .inr (.inr (.inr (.inr (.inl h))))
  · exact .inr (.inr (.inr (.inr (.inr (.inl h)))))
  · exact .inr (.inr (.inr (.inr (.inr (.inr (.inl h))))))
  · exact .inr (.inr (.inr (.inr (.inr (.inr (.inr (.inl h)))))))
  · exact .inr (.inr (.inr (.inr (.inr (.inr (.inr (.inr h)))))))
theorem RdP.mono {bs : List BV} {n n' i : Nat} {s : IN} (h : RdP bs n i s) (hn : n ≤ n') : RdP bs n' i s := by
  rcases h with h | ⟨h0, h⟩
  · exact .inl h
  refine .inr ⟨h0, ?_⟩
  rcases h with h | h | ⟨a, b, m, k, e, t, q1, q2⟩ | h
  · exact .inl h
  · exact .inr (.inl h)
  · exact .inr (.inr (.inl ⟨a, b, m, k, e, t, q1, by omega⟩))
  · exact .inr (.inr (.inr h))
theorem clrL_rd (bs : List BV) (fs : List FT) (hfs : ∀ f ∈ fs, FGood bs f) (f : FT) : ∀ s ∈ clrL fs f, RdB bs s := by
  intro s hs
  unfold clrL at hs
  split at hs
  · simp only [List.mem_map, List.mem_filter] at hs
    obtain ⟨o, ⟨ho, _⟩, rfl⟩ := hs
    exact .inr (.inr (.inr (.inr (.inl ⟨o.num, 9, rfl, (hfs o ho).ok.num, by omega⟩))))
  · simp at hs
theorem valL_rd (bs : List BV) (fs : List FT) (hfs : ∀ f ∈ fs, FGood bs f) (f : FT) (hf : FGood bs f) : ∀ s ∈ valL fs f, RdB bs s := by
  intro s hs
  have hr : f.ref = (f.ref.toNat : Int) := by have := hf.ok.ref; omega
  unfold valL at hs
  split at hs
  · rename_i h5
    simp at hs
    subst hs
    exact .inr (.inr (.inr (.inr (.inr (.inr (.inr ⟨_, _, _, _, rfl, hf.ok.num, hf.key h5, hf.of⟩))))))
  · split at hs
    · rename_i h17
      rcases List.mem_append.1 hs with h | h
      · exact clrL_rd bs fs hfs f s h
      · simp at h
        subst h
        refine .inr (.inr (.inr (.inr (.inr (.inl ⟨f.num, becV f.lab, f.ref.toNat, by rw [← hr], hf.ok.num, hf.k17 h17, ?_⟩)))))
        unfold becV
        split
        · omega
        · split <;> omega
    · rename_i h17
      rcases List.mem_append.1 hs with h | h
      · rcases List.mem_append.1 h with h | h
        · rcases List.mem_append.1 h with h | h
          · simp at h
            subst h
            exact .inr (.inr (.inl ⟨f.kind, rfl, hf.ok.kind.1, by have := hf.ok.kind.2; omega⟩))
          · split at h
            · rename_i h16
              simp at h
              subst h
              exact .inr (.inr (.inr (.inl ⟨f.ref.toNat, by rw [← hr], hf.k16 h16⟩)))
            · simp at h
        · exact clrL_rd bs fs hfs f s h
      · simp at h
        subst h
        refine .inr (.inr (.inr (.inr (.inl ⟨f.num, putV f.lab, rfl, hf.ok.num, ?_⟩))))
        unfold putV
        split <;> omega
theorem rowL_rd (bs : List BV) (f : FT) (hf : FGood bs f) (hn : knum f.kind = true) : ∀ s ∈ rowL f, RdB bs s := by
  intro s hs
  have hr := hf.ok.ref
  unfold rowL at hs
  simp at hs
  subst hs
  refine .inr (.inr (.inr (.inr (.inr (.inr (.inl ⟨f.num, f.kind, _, rfl, hf.ok.num, hn, ?_, ?_⟩))))))
  · split <;> omega
  · by_cases h : f.kind = 16
    · exact .inl ⟨h, f.ref.toNat, by rw [if_pos h]; omega, hf.k16 h⟩
    · exact .inr ⟨h, by rw [if_neg h]⟩
/-- All steps up to here are fine, their places at most the next one. -/
def RdL (bs : List BV) (l : List IN) : Prop := 0 < l.length ∧ ∀ i (h : i < l.length), RdP bs (l.length + 1) i l[i]
theorem caseL_rd (bs : List BV) (acc body : List IN) (t m k : Int) (ht : TagOk t m k) (ha : RdL bs acc) (hb : ∀ s ∈ body, RdB bs s) : RdL bs (acc ++ caseL acc.length t body) := by
  have hlen : (acc ++ caseL acc.length t body).length = acc.length + body.length + 2 := by rw [List.length_append, caseL_len]; omega
  refine ⟨by omega, fun i h => ?_⟩
  rw [hlen] at h ⊢
  by_cases h1 : i < acc.length
  · rw [List.getElem_append_left h1]
    exact (ha.2 i h1).mono (by omega)
  · rw [List.getElem_append_right (by omega)]
    have h0 : i ≠ 0 := by have := ha.1; omega
    unfold caseL
    obtain ⟨q, hq⟩ : ∃ q, i - acc.length = q := ⟨_, rfl⟩
    simp only [hq]
    cases q with
    | zero =>
      refine .inr ⟨h0, .inr (.inr (.inl ⟨t, ((acc.length + 1 + body.length + 1 : Nat) : Int), m, k, by simp, ht, by omega, by omega⟩))⟩
    | succ q =>
      simp only [List.getElem_cons_succ]
      by_cases h2 : q < body.length
      · rw [List.getElem_append_left h2]
        exact (hb _ (List.getElem_mem h2)).at _ _ h0
      · rw [List.getElem_append_right (by omega)]
        have : q - body.length = 0 := by omega
        simp only [this, List.getElem_cons_zero]
        exact RdB.at (.inr (.inl rfl)) _ _ h0
theorem decF_rd (bs : List BV) (fs : List FT) (hfs : ∀ f ∈ fs, FGood bs f) : ∀ (l : List FT), (∀ f ∈ l, FGood bs f) → ∀ acc, RdL bs acc → RdL bs (l.foldl (decS fs) acc)
  | [], _, acc, h => h
  | f :: l, hl, acc, h => by
    rw [List.foldl_cons]
    refine decF_rd bs fs hfs l (fun g hg => hl g (by simp [hg])) _ ?_
    have hf := hl f (by simp)
    have h1 := caseL_rd bs acc _ _ _ _ (tagF f hf.ok) h (valL_rd bs fs hfs f hf)
    unfold decS case2 case1
    split
    · rename_i hr
      have hn : knum f.kind = true := by
        unfold rowsV at hr
        rw [Bool.and_eq_true] at hr
        exact hr.2
      exact caseL_rd bs _ _ _ _ _ (tag2 f hf.ok) h1 (rowL_rd bs f hf hn)
    · exact h1
theorem decL_rd (bs : List BV) (fs : List FT) (hfs : ∀ f ∈ fs, FGood bs f) : ∀ i (h : i < (decL fs).length), RdP bs (decL fs).length i (decL fs)[i] := by
  have h0 : RdL bs [insV 1 []] := ⟨by simp, fun i h => by
    have : i = 0 := by simpa using h
    subst this
    exact .inl ⟨rfl, rfl⟩⟩
  have h1 := decF_rd bs fs hfs fs hfs _ h0
  intro i h
  unfold decL at h ⊢
  generalize fs.foldl (decS fs) [insV 1 []] = acc at *
  have hl : (acc ++ [insV 13 [], insV 4 [0]]).length = acc.length + 2 := by simp
  rw [hl] at h ⊢
  by_cases h2 : i < acc.length
  · rw [List.getElem_append_left h2]
    exact (h1.2 i h2).mono (by omega)
  · rw [List.getElem_append_right (by omega)]
    have hi : i ≠ 0 := by have := h1.1; omega
    have : i - acc.length = 0 ∨ i - acc.length = 1 := by omega
    rcases this with e | e
    · simp only [e, List.getElem_cons_zero]
      exact RdB.at (.inl rfl) _ _ hi
    · simp only [e, List.getElem_cons_succ, List.getElem_cons_zero]
      exact RdB.at (.inr (.inl rfl)) _ _ hi
/-- A step that writes, its places at most m. -/
def WrS (bs : List BV) (m i : Nat) (s : IN) : Prop := (s = insV 23 [] ∨ (∃ a b c, s = insV 16 [a, b, c] ∧ FdOk a ∧ ((i : Int) < b ∧ b ≤ m) ∧ (c = 0 ∨ (1 ≤ c ∧ c ≤ 16))) ∨ (∃ a m k, s = insV 17 [a] ∧ TagOk a m k) ∨ (∃ a, s = insV 18 [a] ∧ 1 ≤ a ∧ a ≤ 16) ∨ (∃ k : Nat, s = insV 19 [(k : Int)] ∧ MsAt bs k) ∨ (∃ a b c m k, s = insV 20 [a, b, c] ∧ TagOk a m k ∧ OfKind bs b c) ∨ (∃ a b m k, s = insV 21 [a, b] ∧ TagOk a m k ∧ knum b = true) ∨ (∃ a b c d m k, s = insV 22 [a, b, c, d] ∧ TagOk a m k ∧ kkey b = true ∧ OfKind bs c d))
theorem WrS.at {bs : List BV} {m i n : Nat} {s : IN} (h : WrS bs m i s) (hn : m < n) (hi : i + 1 ≠ n) : WrP bs n i s := by
  refine .inr ⟨hi, ?_⟩
  rcases h with h | ⟨a, b, c, e, f, ⟨q1, q2⟩, q3⟩ | h
  · exact .inl h
  · exact .inr (.inl ⟨a, b, c, e, f, ⟨q1, by omega⟩, q3⟩)
  · exact .inr (.inr h)
theorem WrS.mono {bs : List BV} {m m' i : Nat} {s : IN} (h : WrS bs m i s) (hm : m ≤ m') : WrS bs m' i s := by
  rcases h with h | ⟨a, b, c, e, f, ⟨q1, q2⟩, q3⟩ | h
  · exact .inl h
  · exact .inr (.inl ⟨a, b, c, e, f, ⟨q1, by omega⟩, q3⟩)
  · exact .inr (.inr h)
theorem wrtL_wr (bs : List BV) (f : FT) (hf : FGood bs f) (m i : Nat) : ∀ s ∈ wrtL f, WrS bs m i s := by
  intro s hs
  have hr : f.ref = (f.ref.toNat : Int) := by have := hf.ok.ref; omega
  have ht := tagF f hf.ok
  unfold wrtL at hs
  split at hs
  · rename_i h5
    simp at hs
    subst hs
    exact .inr (.inr (.inr (.inr (.inr (.inr (.inr ⟨_, _, _, _, _, _, rfl, ht, hf.key h5, hf.of⟩))))))
  · split at hs
    · rename_i h3
      simp at hs
      subst hs
      exact .inr (.inr (.inr (.inr (.inr (.inr (.inl ⟨_, _, _, _, rfl, tag2 f hf.ok, hf.l3 h3⟩))))))
    · split at hs
      · simp at hs
        subst hs
        exact .inr (.inr (.inr (.inr (.inr (.inl ⟨_, _, _, _, _, rfl, ht, hf.of⟩)))))
      · simp only [List.mem_cons, List.not_mem_nil, or_false] at hs
        rcases hs with rfl | rfl
        · exact .inr (.inr (.inl ⟨_, _, _, rfl, ht⟩))
        · split
          · rename_i h17
            exact .inr (.inr (.inr (.inr (.inl ⟨f.ref.toNat, by rw [← hr], hf.k17 h17⟩))))
          · rename_i h17
            exact .inr (.inr (.inr (.inl ⟨f.kind, rfl, hf.ok.kind.1, by have := hf.ok.kind.2; omega⟩)))
def WrL (bs : List BV) (l : List IN) : Prop := ∀ i (h : i < l.length), WrS bs l.length i l[i]
theorem encS_wr (bs : List BV) (acc : List IN) (f : FT) (hf : FGood bs f) (h0 : f.lab = 0 → f.kind ≠ 17) (ha : WrL bs acc) : WrL bs (encS acc f) := by
  intro i h
  have hlen : (encS acc f).length = acc.length + 1 + (wrtL f).length := by unfold encS; simp; omega
  rw [hlen] at h ⊢
  have hE : encS acc f = acc ++ (insV 16 [f.num, ((acc.length + 1 + (wrtL f).length : Nat) : Int), if f.lab = 0 then f.kind else 0] :: wrtL f) := rfl
  simp only [hE]
  by_cases h1 : i < acc.length
  · rw [List.getElem_append_left h1]
    exact (ha i h1).mono (by omega)
  · rw [List.getElem_append_right (by omega)]
    obtain ⟨q, hq⟩ : ∃ q, i - acc.length = q := ⟨_, rfl⟩
    simp only [hq]
    cases q with
    | zero =>
      simp only [List.getElem_cons_zero]
      refine .inr (.inl ⟨f.num, _, _, rfl, hf.ok.num, ⟨by omega, by omega⟩, ?_⟩)
      by_cases hl : f.lab = 0
      · rw [if_pos hl]
        have := hf.ok.kind
        have := h0 hl
        omega
      · rw [if_neg hl]
        exact .inl rfl
    | succ q =>
      simp only [List.getElem_cons_succ]
      exact wrtL_wr bs f hf _ _ _ (List.getElem_mem _)
theorem encF_wr (bs : List BV) : ∀ (l : List FT), (∀ f ∈ l, FGood bs f ∧ (f.lab = 0 → f.kind ≠ 17)) → ∀ acc, WrL bs acc → WrL bs (l.foldl encS acc)
  | [], _, acc, h => h
  | f :: l, hl, acc, h => by
    rw [List.foldl_cons]
    exact encF_wr bs l (fun g hg => hl g (by simp [hg])) _ (encS_wr bs acc f (hl f (by simp)).1 (hl f (by simp)).2 h)
theorem encL_wr (bs : List BV) (fs : List FT) (hfs : ∀ f ∈ fs, FGood bs f ∧ (f.lab = 0 → f.kind ≠ 17)) : ∀ i (h : i < (encL fs).length), WrP bs (encL fs).length i (encL fs)[i] := by
  have h1 := encF_wr bs fs hfs [] (fun i h => by simp at h)
  intro i h
  unfold encL at h ⊢
  generalize fs.foldl encS [] = acc at *
  have hl : (acc ++ [insV 23 [], insV 24 []]).length = acc.length + 2 := by simp
  rw [hl] at h ⊢
  by_cases h2 : i < acc.length
  · rw [List.getElem_append_left h2]
    exact (h1 i h2).at (by omega) (by omega)
  · rw [List.getElem_append_right (by omega)]
    have : i - acc.length = 0 ∨ i - acc.length = 1 := by omega
    rcases this with e | e
    · simp only [e, List.getElem_cons_zero]
      exact WrS.at (m := 0) (.inl rfl) (by omega) (by omega)
    · simp only [e, List.getElem_cons_succ, List.getElem_cons_zero]
      exact .inl ⟨rfl, by omega⟩
theorem RdP.op3 {bs : List BV} {n i : Nat} {s : IN} (h : RdP bs n i s) : s.op ≠ 3 := by
  rcases h with ⟨e, _⟩ | ⟨_, h⟩
  · rw [e]; simp [insV]
  · rcases h with e | e | ⟨a, b, m, k, e, _⟩ | ⟨a, e, _⟩ | ⟨k, e, _⟩ | ⟨a, o, e, _, ho⟩ | ⟨a, c, k, e, _⟩ | ⟨a, b, c, e, _⟩ | ⟨a, b, c, d, e, _⟩
    all_goals rw [e]
    all_goals first | (simp [insV]; done) | (simp only [insV]; omega)
/-- The blocks of a good table, in whatever memory. -/
theorem lowVB {l : List TV} (hg : goodB l = true) {bs : List BV} (hb : bs.map BV.k = l.map (fun x => loBK x.t)) : ∀ x ∈ bs, VB bs x.k := by
  have hlen : bs.length = l.length := by have := congrArg List.length hb; simpa using this
  have hat : ∀ k (h : k < l.length) (h' : k < bs.length), bs[k].k = loBK l[k].t := fun k h h' => by
    have := List.getElem_of_eq hb (i := k) (by simpa using h')
    simpa using this
  have hsz : ∀ k (h : k < l.length), (loBK l[k].t).dec.length ≤ 100000 ∧ (loBK l[k].t).enc.length ≤ 100000 ∧ (loBK l[k].t).rows.length ≤ 100000 := fun k h => by
    have := lowBK_len l (k : Int)
    rw [lowBK_at hg h] at this
    exact this
  intro x hx
  obtain ⟨k, hk, rfl⟩ := List.getElem_of_mem hx
  have hkl : k < l.length := by omega
  rw [hat k hkl hk]
  cases he : l[k].t.enum with
  | true =>
    obtain ⟨h1, h2⟩ := goodP_enum hg hkl he
    have e2 : loBK l[k].t = ⟨[], [], rowsL l[k].t.ss⟩ := by unfold loBK; rw [if_pos he]
    have hl : (rowsL l[k].t.ss).length = l[k].t.ss.length := by rw [(rowsL_perm _).length_eq, List.length_map]
    have hst := goodP_at hg hkl
    unfold stepB typB at hst
    rw [he] at hst
    simp only [Bool.and_eq_true, if_true] at hst
    have hsy := hst.2.2.2.2
    rw [symB_is h1] at hsy
    simp only [Bool.and_eq_true, decide_eq_true_eq, List.all_eq_true] at hsy
    have hel : ∀ y ∈ rowsL l[k].t.ss, 0 ≤ y.tag ∧ y.tag ≤ 2147483647 ∧ y.pl = 0 := by
      intro y hy
      rw [(rowsL_perm _).mem_iff] at hy
      simp at hy
      obtain ⟨s, hs, rfl⟩ := hy
      exact ⟨(hsy.2.2.1 s hs).1, (hsy.2.2.1 s hs).2, rfl⟩
    have hnd : (l[k].t.ss.map SY.num).Nodup := by
      have hdf := hsy.2.2.2.2.2
      have hnd := (dfB_iff _ (fun x hx => by obtain ⟨y, _, rfl⟩ := List.mem_map.1 hx; trivial)).1 hdf
      rw [List.nodup_iff_pairwise_ne] at hnd ⊢
      exact (List.pairwise_map.1 hnd).imp (fun h e => h (by rw [e]))
    rw [e2]
    refine ⟨?_, by rw [← e2]; exact hsz k hkl, .inl ⟨rfl, rfl, ⟨by show 0 < (rowsL l[k].t.ss).length; omega, by show (rowsL l[k].t.ss).length ≤ 128; omega⟩, hel⟩⟩
    intro i j hij hj hi
    have hle := List.pairwise_iff_getElem.1 (rowsL_sort l[k].t.ss) i j hi hj hij
    have hnd2 : ((rowsL l[k].t.ss).map LN.tag).Nodup := by
      have e3 : (l[k].t.ss.map (fun s => (⟨s.num, 0⟩ : LN))).map LN.tag = l[k].t.ss.map SY.num := by rw [List.map_map]; rfl
      exact ((rowsL_perm l[k].t.ss).map LN.tag).nodup_iff.2 (by rw [e3]; exact hnd)
    have hne : (rowsL l[k].t.ss)[i].tag ≠ (rowsL l[k].t.ss)[j].tag := by
      have := List.pairwise_iff_getElem.1 hnd2 i j (by simpa using hi) (by simpa using hj) hij
      simpa using this
    show (rowsL l[k].t.ss)[i].tag < (rowsL l[k].t.ss)[j].tag
    have hle' : (rowsL l[k].t.ss)[i].tag ≤ (rowsL l[k].t.ss)[j].tag := hle
    omega
  | false =>
    obtain ⟨h1, h2, h3⟩ := goodP_msg hg hkl he
    have e2 : loBK l[k].t = ⟨decL l[k].t.fs, encL l[k].t.fs, []⟩ := by unfold loBK; rw [if_neg (by rw [he]; simp)]
    have hst := goodP_at hg hkl
    unfold stepB typB msgB at hst
    rw [he] at hst
    simp only [Bool.and_eq_true, decide_eq_true_eq] at hst
    have hms := hst.2.2.2
    simp only [Bool.false_eq_true, if_false, Bool.and_eq_true, decide_eq_true_eq, List.all_eq_true] at hms
    have hfg : ∀ f ∈ l[k].t.fs, FGood bs f ∧ (f.lab = 0 → f.kind ≠ 17) := by
      intro f hf
      have hfb := hms.2.2.1 f hf
      unfold fldB at hfb
      simp only [Bool.and_eq_true, decide_eq_true_eq] at hfb
      obtain ⟨hkd, hrf, hlb, hon, hky⟩ := hfb
      have hrr : f.kind = 16 ∨ f.kind = 17 → ∃ h : f.ref.toNat < l.length, l[f.ref.toNat].t.enum = decide (f.kind = 16) := by
        intro q
        unfold refB at hrf
        rw [if_pos q] at hrf
        cases hz : l[f.ref.toNat]? with
        | none => rw [hz] at hrf; cases hrf
        | some x =>
          rw [hz] at hrf
          simp only [Bool.and_eq_true, decide_eq_true_eq, beq_iff_eq] at hrf
          obtain ⟨hlt, hx⟩ := List.getElem?_eq_some_iff.1 hz
          exact ⟨hlt, by rw [hx]; exact hrf.2⟩
      refine ⟨⟨h3 f hf, fun q => ?_, fun q => ?_, fun q1 q2 => ?_, fun q => ?_, fun q => ?_⟩, fun q => ?_⟩
      · obtain ⟨h, en⟩ := hrr (.inl q)
        rw [decide_eq_true q] at en
        refine ⟨by omega, ?_⟩
        rw [hat _ h (by omega)]
        unfold loBK
        rw [if_pos en]
        exact ⟨rfl, rfl⟩
      · obtain ⟨h, en⟩ := hrr (.inr q)
        rw [decide_eq_false (by omega)] at en
        refine ⟨by omega, ?_⟩
        rw [hat _ h (by omega)]
        have hs := hsz _ h
        refine ⟨?_, hs.1, hs.2.1⟩
        unfold loBK
        rw [if_neg (by rw [en]; simp)]
        obtain ⟨r, er⟩ := decL_shape l[f.ref.toNat].t.fs
        rw [er]
        simp
      · unfold refB at hrf
        rw [if_neg (by omega), decide_eq_true_eq] at hrf
        exact hrf
      · unfold keyB at hky
        rw [if_pos q] at hky
        exact hky
      · unfold labB at hlb
        rw [if_neg (by omega), if_pos q] at hlb
        exact hlb
      · unfold labB at hlb
        rw [if_pos q, decide_eq_true_eq] at hlb
        exact hlb
    have hrd := decL_rd bs l[k].t.fs (fun f hf => (hfg f hf).1)
    have hwr := encL_wr bs l[k].t.fs hfg
    obtain ⟨r, er⟩ := decL_shape l[k].t.fs
    rw [e2]
    refine ⟨fun i j _ hj => by simp at hj, by rw [← e2]; exact hsz k hkl, .inr ⟨rfl, ?_, ?_, hrd, ?_, ?_, hwr⟩⟩
    · show 0 < (decL l[k].t.fs).length
      rw [er]; simp
    · show 0 < (encL l[k].t.fs).length
      unfold encL; simp
    · show ∃ h : (decL l[k].t.fs).length - 1 < (decL l[k].t.fs).length, (decL l[k].t.fs)[(decL l[k].t.fs).length - 1].op = 4
      refine ⟨by rw [er]; simp, ?_⟩
      simp only [er]
      simp [insV]
    · intro y hy
      obtain ⟨i, hi, rfl⟩ := List.getElem_of_mem hy
      exact (hrd i hi).op3
end Go.Proofs.YtbopddnekoocoaaGreatDoor
