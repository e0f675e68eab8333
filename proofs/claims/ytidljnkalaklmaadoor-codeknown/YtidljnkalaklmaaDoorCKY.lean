/-
  A valid block's steps, where all is well.
  Rows of a valid block, where all is well.
  Valid, where all is well.
  code: chapter 16's examples, the programs.
-/
import Derived.Test.YtidljnkalaklmaaDoorCC11
import Derived.Test.YtidljnkalaklmaaDoorKXb
import Derived.Test.YtidljnkalaklmaaDoorKXc
namespace Go.Proofs.YtidljnkalaklmaaDoor
open Go.RowKit
set_option maxRecDepth 1000000
set_option linter.unusedVariables false
set_option linter.unusedSimpArgs false
set_option maxHeartbeats 1000000
def EnAt (bs : List BV) (k : Nat) : Prop := ∃ h : k < bs.length, bs[k].k.dec.length = 0 ∧ bs[k].k.enc.length = 0
def MsAt (bs : List BV) (k : Nat) : Prop := ∃ h : k < bs.length, 0 < bs[k].k.dec.length ∧ bs[k].k.dec.length ≤ 100000 ∧ bs[k].k.enc.length ≤ 100000
def FdOk (a : Int) : Prop := 1 ≤ a ∧ a ≤ 536870911
/-- A step that reads, at its place. -/
def RdP (bs : List BV) (n i : Nat) (s : IN) : Prop := (s = insV 1 [] ∧ i = 0) ∨ (i ≠ 0 ∧ (s = insV 13 [] ∨ s = insV 4 [0] ∨ (∃ a b m k, s = insV 2 [a, b] ∧ TagOk a m k ∧ (i : Int) < b ∧ b < n) ∨ (∃ a, s = insV 5 [a] ∧ 1 ≤ a ∧ a ≤ 16) ∨ (∃ k : Nat, s = insV 6 [(k : Int)] ∧ EnAt bs k) ∨ (∃ a o, s = insV o [a] ∧ FdOk a ∧ (o = 7 ∨ o = 8 ∨ o = 9)) ∨ (∃ (a c : Int) (k : Nat), s = insV 10 [a, (k : Int), c] ∧ FdOk a ∧ MsAt bs k ∧ (c = 0 ∨ c = 1 ∨ c = 2)) ∨ (∃ a b c, s = insV 11 [a, b, c] ∧ FdOk a ∧ knum b = true ∧ c ≤ 1000 ∧ ((b = 16 ∧ ∃ k : Nat, c = (k : Int) + 1 ∧ EnAt bs k) ∨ (b ≠ 16 ∧ c = 0))) ∨ (∃ a b c d, s = insV 12 [a, b, c, d] ∧ FdOk a ∧ kkey b = true ∧ OfKind bs c d)))
def WrP (bs : List BV) (n i : Nat) (s : IN) : Prop := (s = insV 24 [] ∧ i + 1 = n) ∨ (i + 1 ≠ n ∧ (s = insV 23 [] ∨ (∃ a b c, s = insV 16 [a, b, c] ∧ FdOk a ∧ ((i : Int) < b ∧ b < n) ∧ (c = 0 ∨ (1 ≤ c ∧ c ≤ 16))) ∨ (∃ a m k, s = insV 17 [a] ∧ TagOk a m k) ∨ (∃ a, s = insV 18 [a] ∧ 1 ≤ a ∧ a ≤ 16) ∨ (∃ k : Nat, s = insV 19 [(k : Int)] ∧ MsAt bs k) ∨ (∃ a b c m k, s = insV 20 [a, b, c] ∧ TagOk a m k ∧ OfKind bs b c) ∨ (∃ a b m k, s = insV 21 [a, b] ∧ TagOk a m k ∧ knum b = true) ∨ (∃ a b c d m k, s = insV 22 [a, b, c, d] ∧ TagOk a m k ∧ kkey b = true ∧ OfKind bs c d)))
theorem isReadingT (w : World) (bs : List BV) (ba : Option Addr) (bc : Nat) (hp : PgR w (.slice ba bs.length bc) bs) (n i : Nat) (s : IN) (hs : RdP bs n i s) (caps : Array Value) (hA : ∀ tg : Int, (i : Int) < tg ∧ tg < n → ∀ W, Below w.heap.size w W → Calls Tryd.prog 51 (#[.int .i64 tg] ++ caps) W fun e w' => e = .returned (.bool true) ∧ Below W.heap.size W w') : Calls Tryd.prog 52 #[.slice ba bs.length bc, .agg #[.int .i64 s.op, .int .i64 s.a, .int .i64 s.b, .int .i64 s.c, .int .i64 s.d], .func (.func 51) #[] caps] w fun e w' => e = .returned (.bool true) ∧ Below w.heap.size w w' := by
  rcases hs with ⟨rfl, _⟩ | ⟨_, h⟩
  · exact rdTag w bs ba bc caps
  rcases h with rfl | rfl | ⟨a, b, m, k, rfl, ht, hb⟩ | ⟨a, rfl, ha⟩ | ⟨k, rfl, hk, h1, h2⟩ | ⟨a, o, rfl, ha, ho⟩ | ⟨a, c, k, rfl, ha, ⟨hk, h1, h2⟩, hc⟩ | ⟨a, b, c, rfl, ha, hb, hc, hq⟩ | ⟨a, b, c, d, rfl, ha, hb, hc⟩
  · exact rdKeep w bs ba bc caps
  · exact rdGo w bs ba bc caps
  · exact rdCase w bs ba bc caps a b m k ht (hA b hb)
  · exact rdRead w bs ba bc caps a ha
  · exact rdSym w bs ba bc caps k hp hk h1 h2
  · rcases ho with rfl | rfl | rfl
    · exact rdSet w bs ba bc caps a ha
    · exact rdAdd w bs ba bc caps a ha
    · exact rdClear w bs ba bc caps a ha
  · exact rdMsg w bs ba bc caps a c k hp hk ha h1 h2 hc
  · exact rdRow w bs ba bc caps a b c hp ha hb hq hc
  · exact rdPair w bs ba bc caps a b c d hp ha hb hc
theorem isWritingT (w : World) (bs : List BV) (ba : Option Addr) (bc : Nat) (hp : PgR w (.slice ba bs.length bc) bs) (n i : Nat) (s : IN) (hs : WrP bs n i s) (caps : Array Value) (hA : ∀ tg : Int, (i : Int) < tg ∧ tg < n → ∀ W, Below w.heap.size w W → Calls Tryd.prog 53 (#[.int .i64 tg] ++ caps) W fun e w' => e = .returned (.bool true) ∧ Below W.heap.size W w') : Calls Tryd.prog 54 #[.slice ba bs.length bc, .agg #[.int .i64 s.op, .int .i64 s.a, .int .i64 s.b, .int .i64 s.c, .int .i64 s.d], .func (.func 53) #[] caps] w fun e w' => e = .returned (.bool true) ∧ Below w.heap.size w w' := by
  rcases hs with ⟨rfl, _⟩ | ⟨_, h⟩
  · exact wrEnd w bs ba bc caps
  rcases h with rfl | ⟨a, b, c, rfl, ha, hb, hc⟩ | ⟨a, m, k, rfl, ht⟩ | ⟨a, rfl, ha⟩ | ⟨k, rfl, hk, h1, h2⟩ | ⟨a, b, c, m, k, rfl, ht, ho⟩ | ⟨a, b, m, k, rfl, ht, hb⟩ | ⟨a, b, c, d, m, k, rfl, ht, hb, ho⟩
  · exact wrRest w bs ba bc caps
  · rcases hc with rfl | hc
    · exact wrHas0 w bs ba bc caps a b ha (hA b hb)
    · exact wrHasK w bs ba bc caps a b c ha hc (hA b hb)
  · exact wrPut w bs ba bc caps a m k ht
  · exact wrVal w bs ba bc caps a ha
  · exact wrSub w bs ba bc caps k hp hk h1 h2
  · exact wrEach w bs ba bc caps a b c m k hp ht ho
  · exact wrRun w bs ba bc caps a b m k ht hb
  · exact wrPairs w bs ba bc caps a b c d m k hp ht hb ho
theorem isDecT (w : World) (pa ps i n : Nat) (sa : Option Addr) (sc : Nat) (tg : Int) (h1 : Blk w pa 3 #[.int .i64 i]) (h2 : Blk w ps 36 #[.slice sa n sc]) (hn : n ≤ 100000) (ht : (i : Int) < tg ∧ tg < n) : Calls Tryd.prog 51 #[.int .i64 tg, .pointer (some ⟨pa, 0, none⟩), .pointer (some ⟨ps, 0, none⟩)] w fun e w' => e = .returned (.bool true) ∧ Below w.heap.size w w' := by
  have x1 := h1.cellF
  have z1 := h1.lt
  have x2 := h2.cellF
  have z2 := h2.lt
  have r1 : ((i : Int) < tg) = True := eq_true ht.1
  have r2 : (tg < (n : Int)) = True := eq_true ht.2
  clear h1 h2
  go_enter Tryd.func51, Tryd.ntmps51
  go_wp2
  first
    | (go_ret; exact ⟨rfl, by exact blBy⟩)
    | (go_quiet (fail); go_wp2; go_ret; exact ⟨rfl, by first | exact below_drewN _ _ | exact blBy⟩)
theorem isEncT (w : World) (pa ps i n : Nat) (sa : Option Addr) (sc : Nat) (tg : Int) (h1 : Blk w pa 3 #[.int .i64 i]) (h2 : Blk w ps 36 #[.slice sa n sc]) (hn : n ≤ 100000) (ht : (i : Int) < tg ∧ tg < n) : Calls Tryd.prog 53 #[.int .i64 tg, .pointer (some ⟨pa, 0, none⟩), .pointer (some ⟨ps, 0, none⟩)] w fun e w' => e = .returned (.bool true) ∧ Below w.heap.size w w' := by
  have x1 := h1.cellF
  have z1 := h1.lt
  have x2 := h2.cellF
  have z2 := h2.lt
  have r1 : ((i : Int) < tg) = True := eq_true ht.1
  have r2 : (tg < (n : Int)) = True := eq_true ht.2
  clear h1 h2
  go_enter Tryd.func53, Tryd.ntmps53
  go_wp2
  first
    | (go_ret; exact ⟨rfl, by exact blBy⟩)
    | (go_quiet (fail); go_wp2; go_ret; exact ⟨rfl, by first | exact below_drewN _ _ | exact blBy⟩)
theorem isDecL (w : World) (bs : List BV) (ba : Option Addr) (bc : Nat) (hp : PgR w (.slice ba bs.length bc) bs) (l : List IN) (la : Option Addr) (lc : Nat) (hl : RowS w AnyZ 5 (.slice la l.length lc) l.length (l.flatMap cIN)) (hn : l.length ≤ 100000) (hP : ∀ i (h : i < l.length), RdP bs l.length i l[i]) (h0 : 0 < l.length) (hL : ∃ h : l.length - 1 < l.length, l[l.length - 1].op = 4) : Calls Tryd.prog 35 #[.slice ba bs.length bc, .slice la l.length lc] w fun e w' => e = .returned (.bool true) ∧ Below w.heap.size w w' := by
  have HR := hid hl
  have HG := hid hp
  have HP := hid hP
  have HN := hid hn
  have n0 : (0 : Int) < (l.length : Int) := by omega
  have n63 : (l.length : Int) ≤ 100000 := by omega
  clear hl hp hP
  go_enter Tryd.func35, Tryd.ntmps35
  go_wp2_with fail
  go_loopw [10] (fun r wr => ∃ j : Nat, r = .int .i64 j ∧ j ≤ l.length ∧ Hid (Blk wr w.heap.size 36 #[.slice la l.length lc]) ∧ Hid (Below w.heap.size w wr)) (fun r wr => l.length - numAt wr r)
  case atStart => exact ⟨0, rfl, by omega, hid (Blk.new _ _ _), hid (by exact blBy)⟩
  case round =>
    obtain ⟨j, rfl, hj, Bl, hb⟩ := hrel
    have xl := Bl.out.cellF
    have zl := Bl.out.lt
    by_cases hlt : j < l.length
    · have h2 : (j : Int) < (l.length : Int) := by omega
      obtain ⟨pb, po, epb, hc⟩ := rowAt (g := cIN) (fun _ => rfl) (HR.out.kept hb.out) (i := j) (x := l[j]) (by simp [hlt])
      subst epb
      have c0 := hc 0 _ rfl
      have c1 := hc 1 _ rfl
      have c2 := hc 2 _ rfl
      have c3 := hc 3 _ rfl
      have c4 := hc 4 _ rfl
      clear hc
      simp only [Nat.add_zero] at c0
      have hpb : pb < wr.heap.size := World.block_lt_of_cell? _ _ c0
      have HPJ := hid (HP.out j hlt)
      generalize l[j] = s at *
      obtain ⟨cc, kq1, kq2⟩ : ∃ cc : Bool, (s.op == 1) = cc ∧ ((j : Int) == 0) = cc := by
        rcases HPJ.out with ⟨e, e0⟩ | ⟨e0, h⟩
        · exact ⟨true, by rw [e]; rfl, by rw [e0]; rfl⟩
        · refine ⟨false, ?_, by rw [beq_eq_false_iff_ne]; omega⟩
          rcases h with e | e | ⟨a, b, m, k, e, _⟩ | ⟨a, e, _⟩ | ⟨k, e, _⟩ | ⟨a, o, e, _, ho⟩ | ⟨a, c, k, e, _⟩ | ⟨a, b, c, e, _⟩ | ⟨a, b, c, d, e, _⟩
          all_goals rw [e]
          all_goals first | rfl | (rcases ho with rfl | rfl | rfl <;> rfl)
      have HCA : Hid (∀ W tg, ((j : Int) < tg ∧ tg < l.length) → Below wr.heap.size ((wr.alloc (.cells #[.int .i64 j] 3)).alloc (.cells #[.int .i64 s.op, .int .i64 s.a, .int .i64 s.b, .int .i64 s.c, .int .i64 s.d] 42)) W → Blk W wr.heap.size 3 #[.int .i64 j] → Blk W w.heap.size 36 #[.slice (some ⟨pb, po, none⟩) l.length lc] → Calls Tryd.prog 51 (#[.int .i64 tg] ++ #[.pointer (some ⟨wr.heap.size, 0, none⟩), .pointer (some ⟨w.heap.size, 0, none⟩)]) W fun e w' => e = .returned (.bool true) ∧ Below W.heap.size W w') := hid fun W tg ht _ q1 q2 => isDecT W wr.heap.size w.heap.size j l.length _ lc tg q1 q2 HN.out ht
      have Bj : Blk ((wr.alloc (.cells #[.int .i64 j] 3)).alloc (.cells #[.int .i64 s.op, .int .i64 s.a, .int .i64 s.b, .int .i64 s.c, .int .i64 s.d] 42)) wr.heap.size 3 #[.int .i64 j] := (Blk.new _ _ _).kept (below_alloc _)
      have Bl2 : Blk ((wr.alloc (.cells #[.int .i64 j] 3)).alloc (.cells #[.int .i64 s.op, .int .i64 s.a, .int .i64 s.b, .int .i64 s.c, .int .i64 s.d] 42)) w.heap.size 36 #[.slice (some ⟨pb, po, none⟩) l.length lc] := (Bl.out.kept (below_alloc _)).kept (below_alloc _)
      have HC := hid (isReadingT _ bs ba bc (HG.out.kept (show Below w.heap.size w ((wr.alloc (.cells #[.int .i64 j] 3)).alloc (.cells #[.int .i64 s.op, .int .i64 s.a, .int .i64 s.b, .int .i64 s.c, .int .i64 s.d] 42)) from bl_alloc (bl_alloc hb.out _) _)) l.length j s HPJ.out #[.pointer (some ⟨wr.heap.size, 0, none⟩), .pointer (some ⟨w.heap.size, 0, none⟩)] (fun tg ht W hW => HCA.out W tg ht (hW.mono (by simp; omega)) (Bj.kept hW) (Bl2.kept hW)))
      replace Bl2 := hid Bl2
      clear Bj HCA
      cases cc <;>
      · go_wp2_with fail
        refine HC.out.mono ?_
        rintro e w1 ⟨rfl, hb1⟩
        have Bl3 := hid (Bl2.out.kept hb1)
        have HB1 := hid (bl_then (bl_alloc (bl_alloc hb.out _) _) hb1)
        go_wp2
        exact ⟨⟨j + 1, by simp, by omega, Bl3, HB1⟩, by simp [numAt]; omega⟩
    · have h2 : ¬ (j : Int) < (l.length : Int) := by omega
      obtain ⟨hl1, hop⟩ := hL
      obtain ⟨n2, en2⟩ : ∃ n2, n2 = l.length - 1 := ⟨_, rfl⟩
      have k4 : (l.length : Int) - 1 = (n2 : Int) := by omega
      have k5 : (n2 : Int) < (l.length : Int) := by omega
      obtain ⟨pb, po, epb, hc⟩ := rowAt (g := cIN) (fun _ => rfl) (HR.out.kept hb.out) (i := n2) (x := l[l.length - 1]) (by rw [en2]; simp [hl1])
      subst epb
      have c0 := hc 0 _ rfl
      clear hc en2
      simp only [Nat.add_zero] at c0
      rw [hop] at c0
      have hpb : pb < wr.heap.size := World.block_lt_of_cell? _ _ c0
      have w64 : IntKind.i64.wrap (n2 : Int) = (n2 : Int) := wraps_i64 _ (by omega) (by omega)
      clear hop
      go_wp2
      first
        | (go_ret; exact ⟨rfl, hb.out⟩)
        | (go_quiet (fail); go_wp2; go_ret; exact ⟨rfl, by first | exact bl_drewN hb.out _ | exact hb.out⟩)
theorem isEncL (w : World) (bs : List BV) (ba : Option Addr) (bc : Nat) (hp : PgR w (.slice ba bs.length bc) bs) (l : List IN) (la : Option Addr) (lc : Nat) (hl : RowS w AnyZ 5 (.slice la l.length lc) l.length (l.flatMap cIN)) (hn : l.length ≤ 100000) (hP : ∀ i (h : i < l.length), WrP bs l.length i l[i]) (h0 : 0 < l.length) : Calls Tryd.prog 36 #[.slice ba bs.length bc, .slice la l.length lc] w fun e w' => e = .returned (.bool true) ∧ Below w.heap.size w w' := by
  have HR := hid hl
  have HG := hid hp
  have HP := hid hP
  have HN := hid hn
  have n0 : (0 : Int) < (l.length : Int) := by omega
  have n63 : (l.length : Int) ≤ 100000 := by omega
  clear hl hp hP
  go_enter Tryd.func36, Tryd.ntmps36
  go_wp2_with fail
  go_loopw [10] (fun r wr => ∃ j : Nat, r = .int .i64 j ∧ j ≤ l.length ∧ Hid (Blk wr w.heap.size 36 #[.slice la l.length lc]) ∧ Hid (Below w.heap.size w wr)) (fun r wr => l.length - numAt wr r)
  case atStart => exact ⟨0, rfl, by omega, hid (Blk.new _ _ _), hid (by exact blBy)⟩
  case round =>
    obtain ⟨j, rfl, hj, Bl, hb⟩ := hrel
    have xl := Bl.out.cellF
    have zl := Bl.out.lt
    by_cases hlt : j < l.length
    · have h2 : (j : Int) < (l.length : Int) := by omega
      obtain ⟨pb, po, epb, hc⟩ := rowAt (g := cIN) (fun _ => rfl) (HR.out.kept hb.out) (i := j) (x := l[j]) (by simp [hlt])
      subst epb
      have c0 := hc 0 _ rfl
      have c1 := hc 1 _ rfl
      have c2 := hc 2 _ rfl
      have c3 := hc 3 _ rfl
      have c4 := hc 4 _ rfl
      clear hc
      simp only [Nat.add_zero] at c0
      have hpb : pb < wr.heap.size := World.block_lt_of_cell? _ _ c0
      have HPJ := hid (HP.out j hlt)
      generalize l[j] = s at *
      obtain ⟨cc, kq1, kq2⟩ : ∃ cc : Bool, (s.op == 24) = cc ∧ ((j : Int) == (l.length : Int) - 1) = cc := by
        rcases HPJ.out with ⟨e, e0⟩ | ⟨e0, h⟩
        · exact ⟨true, by rw [e]; rfl, by rw [beq_iff_eq]; omega⟩
        · refine ⟨false, ?_, by rw [beq_eq_false_iff_ne]; omega⟩
          rcases h with e | ⟨a, b, c, e, _⟩ | ⟨a, m, k, e, _⟩ | ⟨a, e, _⟩ | ⟨k, e, _⟩ | ⟨a, b, c, m, k, e, _⟩ | ⟨a, b, m, k, e, _⟩ | ⟨a, b, c, d, m, k, e, _⟩
          all_goals rw [e]
          all_goals rfl
      have HCA : Hid (∀ W tg, ((j : Int) < tg ∧ tg < l.length) → Below wr.heap.size ((wr.alloc (.cells #[.int .i64 j] 3)).alloc (.cells #[.int .i64 s.op, .int .i64 s.a, .int .i64 s.b, .int .i64 s.c, .int .i64 s.d] 42)) W → Blk W wr.heap.size 3 #[.int .i64 j] → Blk W w.heap.size 36 #[.slice (some ⟨pb, po, none⟩) l.length lc] → Calls Tryd.prog 53 (#[.int .i64 tg] ++ #[.pointer (some ⟨wr.heap.size, 0, none⟩), .pointer (some ⟨w.heap.size, 0, none⟩)]) W fun e w' => e = .returned (.bool true) ∧ Below W.heap.size W w') := hid fun W tg ht _ q1 q2 => isEncT W wr.heap.size w.heap.size j l.length _ lc tg q1 q2 HN.out ht
      have Bj : Blk ((wr.alloc (.cells #[.int .i64 j] 3)).alloc (.cells #[.int .i64 s.op, .int .i64 s.a, .int .i64 s.b, .int .i64 s.c, .int .i64 s.d] 42)) wr.heap.size 3 #[.int .i64 j] := (Blk.new _ _ _).kept (below_alloc _)
      have Bl2 : Blk ((wr.alloc (.cells #[.int .i64 j] 3)).alloc (.cells #[.int .i64 s.op, .int .i64 s.a, .int .i64 s.b, .int .i64 s.c, .int .i64 s.d] 42)) w.heap.size 36 #[.slice (some ⟨pb, po, none⟩) l.length lc] := (Bl.out.kept (below_alloc _)).kept (below_alloc _)
      have HC := hid (isWritingT _ bs ba bc (HG.out.kept (show Below w.heap.size w ((wr.alloc (.cells #[.int .i64 j] 3)).alloc (.cells #[.int .i64 s.op, .int .i64 s.a, .int .i64 s.b, .int .i64 s.c, .int .i64 s.d] 42)) from bl_alloc (bl_alloc hb.out _) _)) l.length j s HPJ.out #[.pointer (some ⟨wr.heap.size, 0, none⟩), .pointer (some ⟨w.heap.size, 0, none⟩)] (fun tg ht W hW => HCA.out W tg ht (hW.mono (by simp; omega)) (Bj.kept hW) (Bl2.kept hW)))
      replace Bl2 := hid Bl2
      clear Bj HCA
      cases cc <;>
      · go_wp2_with fail
        refine HC.out.mono ?_
        rintro e w1 ⟨rfl, hb1⟩
        have Bl3 := hid (Bl2.out.kept hb1)
        have HB1 := hid (bl_then (bl_alloc (bl_alloc hb.out _) _) hb1)
        go_wp2
        exact ⟨⟨j + 1, by simp, by omega, Bl3, HB1⟩, by simp [numAt]; omega⟩
    · have h2 : ¬ (j : Int) < (l.length : Int) := by omega
      go_wp2
      go_ret
      exact ⟨rfl, hb.out⟩
theorem doRiseP (w : World) (l : List LN) (la : Option Addr) (lc : Nat) (hl : RowS w AnyZ 2 (.slice la l.length lc) l.length (l.flatMap cLN)) (hn : l.length ≤ 100000) (hp : ∀ i j, i < j → ∀ (hj : j < l.length) (hi : i < l.length), l[i].tag < l[j].tag) : Calls Tryd.prog 32 #[.slice la l.length lc] w fun e w' => e = .returned (.bool true) ∧ Below w.heap.size w w' := by
  have HR := hid hl
  have HP := hid hp
  have n63 : (l.length : Int) ≤ 100000 := by omega
  clear hl hp
  go_enter Tryd.func32, Tryd.ntmps32
  go_wp2
  go_loopw [6] (fun r wr => ∃ j : Nat, r = .int .i64 j ∧ j ≤ l.length ∧ Hid (Below w.heap.size w wr)) (fun r wr => l.length - numAt wr r)
  case atStart => exact ⟨0, rfl, by omega, hid (Below.refl _ _)⟩
  case round =>
    obtain ⟨j, rfl, hj, hb⟩ := hrel
    by_cases hlt : j < l.length
    · have h2 : (j : Int) < (l.length : Int) := by omega
      by_cases h0 : j = 0
      · subst h0
        go_wp2
        first
          | exact ⟨⟨1, by simp, by omega, hb⟩, by simp [numAt]; omega⟩
          | (go_quiet (fail); go_wp2; exact ⟨⟨1, by simp, by omega, hid (bl_drewN hb.out _)⟩, by simp [numAt]; omega⟩)
      · obtain ⟨i, ei⟩ : ∃ i : Nat, i = j - 1 := ⟨_, rfl⟩
        have j4b : (j : Int) - 1 = (i : Int) := by omega
        have j4c : (i : Int) < (l.length : Int) := by omega
        have j4d : (0 < j) = True := eq_true (by omega)
        have j4e : ((0 : Int) < (j : Int)) = True := eq_true (by omega)
        have hil : i < l.length := by omega
        have HOR : Hid (l[i].tag < l[j].tag) := hid (HP.out i j (by omega) hlt hil)
        obtain ⟨g4, go4, eg, hc⟩ := rowAt (g := cLN) (fun _ => rfl) (HR.out.kept hb.out) (i := i) (x := l[i]) (by simp [hil])
        obtain ⟨g2, go2, eg2, hd⟩ := rowAt (g := cLN) (fun _ => rfl) (HR.out.kept hb.out) (i := j) (x := l[j]) (by simp [hlt])
        subst eg
        cases eg2
        have c0 := hc 0 _ rfl
        have c1 := hd 0 _ rfl
        clear hc hd ei
        simp only [Nat.add_zero] at c0 c1
        have hgb : g4 < wr.heap.size := World.block_lt_of_cell? _ _ c0
        generalize l[i] = a at *
        generalize l[j] = b at *
        have f1 : (b.tag ≤ a.tag) = False := eq_false (by have := HOR.out; omega)
        have f2 : a.tag < b.tag := HOR.out
        have f3 : IntKind.i64.wrap (i : Int) = (i : Int) := wraps_i64 _ (by omega) (by omega)
        go_wp2
        first
          | exact ⟨⟨j + 1, by simp, by omega, hb⟩, by simp [numAt]; omega⟩
          | (go_quiet (fail); go_wp2; exact ⟨⟨j + 1, by simp, by omega, hid (bl_drewN hb.out _)⟩, by simp [numAt]; omega⟩)
    · have h2 : ¬ (j : Int) < (l.length : Int) := by omega
      go_wp2
      go_ret
      exact ⟨rfl, hb.out⟩
theorem isNoneT (w : World) (x : LN) (h : 0 ≤ x.tag ∧ x.tag ≤ 2147483647 ∧ x.pl = 0) : Calls Tryd.prog 49 #[.agg #[.int .i64 x.tag, .int .i64 x.pl]] w fun e w' => e = .returned (.bool false) ∧ Below w.heap.size w w' := by
  obtain ⟨t, p⟩ := x
  dsimp only at h ⊢
  obtain ⟨h1, h2, rfl⟩ := h
  have heq : ∀ W, (Op.equalIn 10000 34 (.agg #[.int .i64 t, .int .i64 0]) (.agg #[.int .i64 t, .int .i64 0])).run Tryd.prog W = .ok true W := fun W => by
    have := eqLN ⟨t, 0⟩ ⟨t, 0⟩ W
    rw [(lnB_iff _ _).2 rfl] at this
    exact this
  have hgd := gdLN
  have r1 : (t < 0) = False := eq_false (by omega)
  have r2 : (2147483647 < t) = False := eq_false (by omega)
  go_enter Tryd.func49, Tryd.ntmps49
  go_wp2
  go_ret
  exact ⟨rfl, by exact blBy⟩
theorem idxLine (w : World) (l : List LN) (la : Option Addr) (lc : Nat) (hl : RowS w AnyZ 2 (.slice la l.length lc) l.length (l.flatMap cLN)) (hn : l.length ≤ 100000) (fn : FuncId) (caps : Array Value) (hcf : ∀ (args : Array Value) (W : World), (callFunc fn args).run Tryd.prog W = .ok (.enter fn args) W) (hc : ∀ x ∈ l, ∀ W, Below w.heap.size w W → Calls Tryd.prog fn (#[.agg #[.int .i64 x.tag, .int .i64 x.pl]] ++ caps) W fun e w' => e = .returned (.bool false) ∧ Below W.heap.size W w') : Calls Tryd.prog 65 #[.slice la l.length lc, .func (.func fn) #[] caps] w fun e w' => e = .returned (.int .i64 (-1)) ∧ Below w.heap.size w w' := by
  have HR := hid hl
  have HC := hid hc
  have n63 : (l.length : Int) ≤ 100000 := by omega
  clear hl hc
  go_enter Tryd.func65, Tryd.ntmps65
  go_wp2
  go_loopw [8] (fun r wr => ∃ j : Nat, r = .int .i64 j ∧ j ≤ l.length ∧ Hid (Below w.heap.size w wr)) (fun r wr => l.length - numAt wr r)
  case atStart => exact ⟨0, rfl, by omega, hid (Below.refl _ _)⟩
  case round =>
    obtain ⟨j, rfl, hj, hb⟩ := hrel
    by_cases hlt : j < l.length
    · have h2 : (j : Int) < (l.length : Int) := by omega
      obtain ⟨pb, po, epb, hcc⟩ := rowAt (g := cLN) (fun _ => rfl) (HR.out.kept hb.out) (i := j) (x := l[j]) (by simp [hlt])
      subst epb
      have c0 := hcc 0 _ rfl
      have c1 := hcc 1 _ rfl
      clear hcc
      simp only [Nat.add_zero] at c0
      have hpb : pb < wr.heap.size := World.block_lt_of_cell? _ _ c0
      have HCJ := hid (HC.out _ (List.getElem_mem hlt) wr hb.out)
      generalize l[j] = x at *
      go_wp2_with fail
      refine HCJ.out.mono ?_
      rintro e w1 ⟨rfl, hb1⟩
      have HB1 := hid (bl_then hb.out hb1)
      go_wp2
      exact ⟨⟨j + 1, by simp, by omega, HB1⟩, by simp [numAt]; omega⟩
    · have h2 : ¬ (j : Int) < (l.length : Int) := by omega
      go_wp2
      go_ret
      exact ⟨rfl, hb.out⟩
theorem conLine (w : World) (l : List LN) (la : Option Addr) (lc : Nat) (hl : RowS w AnyZ 2 (.slice la l.length lc) l.length (l.flatMap cLN)) (hn : l.length ≤ 100000) (fn : FuncId) (caps : Array Value) (hcf : ∀ (args : Array Value) (W : World), (callFunc fn args).run Tryd.prog W = .ok (.enter fn args) W) (hc : ∀ x ∈ l, ∀ W, Below w.heap.size w W → Calls Tryd.prog fn (#[.agg #[.int .i64 x.tag, .int .i64 x.pl]] ++ caps) W fun e w' => e = .returned (.bool false) ∧ Below W.heap.size W w') : Calls Tryd.prog 50 #[.slice la l.length lc, .func (.func fn) #[] caps] w fun e w' => e = .returned (.bool false) ∧ Below w.heap.size w w' := by
  have HI := hid (idxLine w l la lc hl hn fn caps hcf hc)
  clear hl hc
  go_enter Tryd.func50, Tryd.ntmps50
  go_wp2_with fail
  refine HI.out.mono ?_
  rintro e w1 ⟨rfl, hb1⟩
  go_wp2
  go_ret
  exact ⟨rfl, hb1⟩
theorem idxBlock (w : World) (l : List BV) (la : Option Addr) (lc : Nat) (hl : PgR w (.slice la l.length lc) l) (hn : l.length ≤ 100000) (fn : FuncId) (caps : Array Value) (hcf : ∀ (args : Array Value) (W : World), (callFunc fn args).run Tryd.prog W = .ok (.enter fn args) W) (hc : ∀ (j : Nat) (hj : j < l.length) W, Below w.heap.size w W → ∀ da ea ra dc ec rc, BkR W l[j].k (.slice da l[j].k.dec.length dc) (.slice ea l[j].k.enc.length ec) (.slice ra l[j].k.rows.length rc) → Calls Tryd.prog fn (#[.agg #[.slice da l[j].k.dec.length dc, .slice ea l[j].k.enc.length ec, .slice ra l[j].k.rows.length rc]] ++ caps) W fun e w' => e = .returned (.bool false) ∧ Below W.heap.size W w') : Calls Tryd.prog 31 #[.slice la l.length lc, .func (.func fn) #[] caps] w fun e w' => e = .returned (.int .i64 (-1)) ∧ Below w.heap.size w w' := by
  have HR := hid hl
  have HC := hid hc
  have n63 : (l.length : Int) ≤ 100000 := by omega
  clear hl hc
  go_enter Tryd.func31, Tryd.ntmps31
  go_wp2
  go_loopw [8] (fun r wr => ∃ j : Nat, r = .int .i64 j ∧ j ≤ l.length ∧ Hid (Below w.heap.size w wr)) (fun r wr => l.length - numAt wr r)
  case atStart => exact ⟨0, rfl, by omega, hid (Below.refl _ _)⟩
  case round =>
    obtain ⟨j, rfl, hj, hb⟩ := hrel
    by_cases hlt : j < l.length
    · have h2 : (j : Int) < (l.length : Int) := by omega
      obtain ⟨pb, po, da, dc, ea, ec, ra, rc, epb, hpb, c0, c1, c2, hbk⟩ := pg_at (HR.out.kept hb.out) hlt
      subst epb
      have HCJ := hid (HC.out j hlt wr hb.out da ea ra dc ec rc hbk)
      clear hbk
      generalize l[j] = x at *
      go_wp2_with fail
      refine HCJ.out.mono ?_
      rintro e w1 ⟨rfl, hb1⟩
      have HB1 := hid (bl_then hb.out hb1)
      go_wp2
      exact ⟨⟨j + 1, by simp, by omega, HB1⟩, by simp [numAt]; omega⟩
    · have h2 : ¬ (j : Int) < (l.length : Int) := by omega
      go_wp2
      go_ret
      exact ⟨rfl, hb.out⟩
theorem conBlock (w : World) (l : List BV) (la : Option Addr) (lc : Nat) (hl : PgR w (.slice la l.length lc) l) (hn : l.length ≤ 100000) (fn : FuncId) (caps : Array Value) (hcf : ∀ (args : Array Value) (W : World), (callFunc fn args).run Tryd.prog W = .ok (.enter fn args) W) (hc : ∀ (j : Nat) (hj : j < l.length) W, Below w.heap.size w W → ∀ da ea ra dc ec rc, BkR W l[j].k (.slice da l[j].k.dec.length dc) (.slice ea l[j].k.enc.length ec) (.slice ra l[j].k.rows.length rc) → Calls Tryd.prog fn (#[.agg #[.slice da l[j].k.dec.length dc, .slice ea l[j].k.enc.length ec, .slice ra l[j].k.rows.length rc]] ++ caps) W fun e w' => e = .returned (.bool false) ∧ Below W.heap.size W w') : Calls Tryd.prog 18 #[.slice la l.length lc, .func (.func fn) #[] caps] w fun e w' => e = .returned (.bool false) ∧ Below w.heap.size w w' := by
  have HI := hid (idxBlock w l la lc hl hn fn caps hcf hc)
  clear hl hc
  go_enter Tryd.func18, Tryd.ntmps18
  go_wp2_with fail
  refine HI.out.mono ?_
  rintro e w1 ⟨rfl, hb1⟩
  go_wp2
  go_ret
  exact ⟨rfl, hb1⟩
theorem cfNone (args : Array Value) (W : World) : (callFunc 49 args).run Tryd.prog W = .ok (.enter 49 args) W := cf_enter Tryd.func49 (by kernel_rfl) (by kernel_rfl) args W
theorem areSymbolsT (w : World) (l : List LN) (la : Option Addr) (lc : Nat) (hl : RowS w AnyZ 2 (.slice la l.length lc) l.length (l.flatMap cLN)) (hn : 0 < l.length ∧ l.length ≤ 128) (hp : ∀ x ∈ l, 0 ≤ x.tag ∧ x.tag ≤ 2147483647 ∧ x.pl = 0) : Calls Tryd.prog 34 #[.slice la l.length lc] w fun e w' => e = .returned (.bool true) ∧ Below w.heap.size w w' := by
  have HC : Hid (∀ W, Below w.heap.size w W → Calls Tryd.prog 50 #[.slice la l.length lc, .func (.func 49) #[] #[]] W fun e w' => e = .returned (.bool false) ∧ Below W.heap.size W w') := hid fun W hW => conLine W l la lc (hl.kept hW) (by omega) _ _ cfNone (fun x hx W' _ => isNoneT W' x (hp x hx))
  have r1 : (0 : Int) < (l.length : Int) := by omega
  have r2 : ((l.length : Int) ≤ 128) = True := eq_true (by omega)
  have r3 : (0 < l.length) = True := eq_true hn.1
  clear hl hp hn
  go_enter Tryd.func34, Tryd.ntmps34
  go_wp2_with fail
  refine (HC.out _ (by first | exact Below.refl _ _ | exact blBy)).mono ?_
  rintro e w1 ⟨rfl, hb1⟩
  go_wp2
  go_ret
  exact ⟨rfl, hb1⟩
theorem cfTarget (args : Array Value) (W : World) : (callFunc 55 args).run Tryd.prog W = .ok (.enter 55 args) W := cf_enter Tryd.func55 (by kernel_rfl) (by kernel_rfl) args W
theorem areTargetsT (w : World) (la : Option Addr) (lc : Nat) (l : List IN) (da : Option Addr) (dc : Nat) (hr : RowS w AnyZ 2 (.slice la 0 lc) 0 []) (hl : RowS w AnyZ 5 (.slice da l.length dc) l.length (l.flatMap cIN)) (hn : l.length ≤ 100000) (hp : ∀ x ∈ l, x.op ≠ 3) : Calls Tryd.prog 37 #[.slice la 0 lc, .slice da l.length dc] w fun e w' => e = .returned (.bool true) ∧ Below w.heap.size w w' := by
  have HR := hid hl
  have HP := hid hp
  have n63 : (l.length : Int) ≤ 100000 := by omega
  have HC : Hid (∀ W caps, Below w.heap.size w W → Calls Tryd.prog 50 #[.slice la 0 lc, .func (.func 55) #[] caps] W fun e w' => e = .returned (.bool false) ∧ Below W.heap.size W w') := hid fun W caps hW => conLine W [] la lc (hr.kept hW) (by simp) _ caps cfTarget (fun x hx => by simp at hx)
  clear hr hl hp
  go_enter Tryd.func37, Tryd.ntmps37
  go_wp2_with fail
  go_loopw [11] (fun r wr => ∃ j : Nat, r = .int .i64 j ∧ j ≤ l.length ∧ Hid (Blk wr (w.heap.size + 1) 3 #[.int .i64 0]) ∧ Hid (Below w.heap.size w wr)) (fun r wr => l.length - numAt wr r)
  case atStart => exact ⟨0, rfl, by omega, hid (Blk.newAt (by simp)), hid (by exact blBy)⟩
  case round =>
    obtain ⟨j, rfl, hj, Bl, hb⟩ := hrel
    by_cases hlt : j < l.length
    · have h2 : (j : Int) < (l.length : Int) := by omega
      obtain ⟨pb, po, epb, hc⟩ := rowAt (g := cIN) (fun _ => rfl) (HR.out.kept hb.out) (i := j) (x := l[j]) (by simp [hlt])
      subst epb
      have c0 := hc 0 _ rfl
      have c1 := hc 1 _ rfl
      have c2 := hc 2 _ rfl
      have c3 := hc 3 _ rfl
      have c4 := hc 4 _ rfl
      clear hc
      simp only [Nat.add_zero] at c0
      have hpb : pb < wr.heap.size := World.block_lt_of_cell? _ _ c0
      have hne := HP.out _ (List.getElem_mem hlt)
      generalize l[j] = s at *
      have k3 : (s.op == 3) = false := by simpa using hne
      clear hne
      go_wp2
      exact ⟨⟨j + 1, by simp, by omega, hid (Bl.out.kept (below_alloc _)), hid (bl_alloc hb.out _)⟩, by simp [numAt]; omega⟩
    · have h2 : ¬ (j : Int) < (l.length : Int) := by omega
      have xl := Bl.out.cellF
      have zl := Bl.out.lt
      go_wp2_with fail
      first
        | (refine (HC.out _ _ hb.out).mono ?_
           rintro e w1 ⟨rfl, hb1⟩
           go_wp2
           go_ret
           exact ⟨rfl, bl_then hb.out hb1⟩)
/-- A valid block. -/
structure VB (bs : List BV) (K : BK) : Prop where
  rise : ∀ i j, i < j → ∀ (hj : j < K.rows.length) (hi : i < K.rows.length), K.rows[i].tag < K.rows[j].tag
  len : K.dec.length ≤ 100000 ∧ K.enc.length ≤ 100000 ∧ K.rows.length ≤ 100000
  sort : (K.dec = [] ∧ K.enc = [] ∧ (0 < K.rows.length ∧ K.rows.length ≤ 128) ∧ ∀ x ∈ K.rows, 0 ≤ x.tag ∧ x.tag ≤ 2147483647 ∧ x.pl = 0) ∨ (K.rows = [] ∧ 0 < K.dec.length ∧ 0 < K.enc.length ∧ (∀ i (h : i < K.dec.length), RdP bs K.dec.length i K.dec[i]) ∧ (∃ h : K.dec.length - 1 < K.dec.length, K.dec[K.dec.length - 1].op = 4) ∧ (∀ x ∈ K.dec, x.op ≠ 3) ∧ ∀ i (h : i < K.enc.length), WrP bs K.enc.length i K.enc[i])
theorem hasStepsT (w : World) (da ea ra : Option Addr) (n1 dc n2 ec n3 rc : Nat) (h1 : n1 ≤ 100000) (h2 : n2 ≤ 100000) : Calls Tryd.prog 33 #[.agg #[.slice da n1 dc, .slice ea n2 ec, .slice ra n3 rc]] w fun e w' => e = .returned (.bool (decide (0 < n1 + n2))) ∧ Below w.heap.size w w' := by
  have r4 : (n1 : Int) + (n2 : Int) ≤ 9223372036854775807 := by omega
  have r5 : (n1 : Int) ≤ 100000 := by omega
  have r6 : (n2 : Int) ≤ 100000 := by omega
  go_enter Tryd.func33, Tryd.ntmps33
  go_wp2
  go_ret
  exact ⟨ret_bool (by first | rfl | (by_cases h : 0 < n1 + n2 <;> simp [h] <;> omega)), by exact blBy⟩
theorem isValidT (w : World) (bs : List BV) (ba : Option Addr) (bc : Nat) (hp : PgR w (.slice ba bs.length bc) bs) (K : BK) (hv : VB bs K) (da ea ra : Option Addr) (dc ec rc : Nat) (hk : BkR w K (.slice da K.dec.length dc) (.slice ea K.enc.length ec) (.slice ra K.rows.length rc)) : Calls Tryd.prog 20 #[.slice ba bs.length bc, .agg #[.slice da K.dec.length dc, .slice ea K.enc.length ec, .slice ra K.rows.length rc]] w fun e w' => e = .returned (.bool true) ∧ Below w.heap.size w w' := by
  have HRI := hid (fun W hW => doRiseP W K.rows ra rc (hk.hr.kept (w' := W) hW) hv.len.2.2 hv.rise)
  rcases hv.sort with ⟨e1, e2, hn, hx⟩ | ⟨e1, h1, h2, h3, h4, h5, h6⟩
  · have HAS := hid (fun W hW => areSymbolsT W K.rows ra rc (hk.hr.kept (w' := W) hW) hn hx)
    obtain ⟨dec, enc, rows⟩ := K
    dsimp only at e1 e2 hn hk HRI HAS ⊢
    subst e1 e2
    have r1 : (rows.length : Int) ≤ 128 := by omega
    clear hk hv hp hx
    dsimp only [List.length_nil] at *
    go_enter Tryd.func20, Tryd.ntmps20
    go_wp2_with fail
    refine (HRI.out _ (by exact blBy)).mono ?_
    rintro e w1 ⟨rfl, hb1⟩
    have Bb : Blk w1 w.heap.size 38 #[.slice da 0 dc, .slice ea 0 ec, .slice ra rows.length rc] := (Blk.new _ _ _).kept hb1
    replace hb1 : Hid (Below w.heap.size w w1) := hid (bl_then (by exact blBy) hb1)
    have xb := Bb.cellF
    have zb := Bb.lt
    have HHS := hid (hasStepsT w1 da ea ra 0 dc 0 ec rows.length rc (by omega) (by omega))
    go_wp2_with fail
    refine HHS.out.mono ?_
    rintro e w2 ⟨rfl, hb2⟩
    replace Bb := Bb.kept hb2
    replace hb1 : Hid (Below w.heap.size w w2) := hid (bl_then hb1.out hb2)
    clear xb zb HHS
    have xb := Bb.cellF
    have zb := Bb.lt
    have dd : decide (0 < 0 + 0) = false := rfl
    go_wp2_with fail
    refine (HAS.out _ hb1.out).mono ?_
    rintro e w3 ⟨rfl, hb3⟩
    replace hb3 := hid (bl_then hb1.out hb3)
    go_wp2
    go_ret
    exact ⟨rfl, hb3.out⟩
  · have HD := hid (fun W hW => isDecL W bs ba bc (hp.kept hW) K.dec da dc (hk.hd.kept (w' := W) hW) hv.len.1 h3 h1 h4)
    have HE := hid (fun W hW => isEncL W bs ba bc (hp.kept hW) K.enc ea ec (hk.he.kept (w' := W) hW) hv.len.2.1 h6 h2)
    obtain ⟨dec, enc, rows⟩ := K
    dsimp only at e1 h1 h2 h5 hk HRI HD HE ⊢
    subst e1
    have HTA := hid (fun W hW => areTargetsT W ra rc dec da dc (hk.hr.kept (w' := W) hW) (hk.hd.kept hW) hv.len.1 h5)
    have HHS := hid (fun W => hasStepsT W da ea ra dec.length dc enc.length ec 0 rc hv.len.1 hv.len.2.1)
    have HDE : Hid (decide (0 < dec.length + enc.length) = true) := hid (decide_eq_true (by omega))
    rw [HDE.out] at HHS
    clear hk hv hp h3 h4 h5 h6 h1 h2
    dsimp only [List.length_nil] at *
    go_enter Tryd.func20, Tryd.ntmps20
    go_wp2_with fail
    refine (HRI.out _ (by exact blBy)).mono ?_
    rintro e w1 ⟨rfl, hb1⟩
    have Bb : Blk w1 w.heap.size 38 #[.slice da dec.length dc, .slice ea enc.length ec, .slice ra 0 rc] := (Blk.new _ _ _).kept hb1
    replace hb1 : Hid (Below w.heap.size w w1) := hid (bl_then (by exact blBy) hb1)
    have xb := Bb.cellF
    have zb := Bb.lt
    go_wp2_with fail
    refine (HHS.out _).mono ?_
    rintro e w2 ⟨rfl, hb2⟩
    replace Bb := Bb.kept hb2
    have HB : Hid (Below w.heap.size w w2) := hid (bl_then hb1.out hb2)
    clear xb zb hb1 HRI
    have e0 := Bb.cell 0 _ rfl
    have e1 := Bb.cell 1 _ rfl
    have e2 := Bb.cell 2 _ rfl
    simp only [List.getElem_toArray, List.getElem_cons_succ, List.getElem_cons_zero] at e0 e1 e2
    have zz := Bb.lt
    clear Bb
    go_wp2_with (first | (go_at_call 35; refine (HD.out _ (below_trans HB.out (by first | exact Below.refl _ _ | exact below_drew1 _ | exact below_drewN _ _))).mono ?_; rintro e w3 ⟨rfl, hbx⟩; replace e0 := cell_below e0 (below_trans (by first | exact Below.refl _ _ | exact below_drew1 _ | exact below_drewN _ _) hbx); replace e1 := cell_below e1 (below_trans (by first | exact Below.refl _ _ | exact below_drew1 _ | exact below_drewN _ _) hbx); replace e2 := cell_below e2 (below_trans (by first | exact Below.refl _ _ | exact below_drew1 _ | exact below_drewN _ _) hbx); replace HB := hid (below_trans HB.out (below_trans (by first | exact Below.refl _ _ | exact below_drew1 _ | exact below_drewN _ _) hbx)); clear hbx) | (go_at_call 36; refine (HE.out _ (below_trans HB.out (by first | exact Below.refl _ _ | exact below_drew1 _ | exact below_drewN _ _))).mono ?_; rintro e w3 ⟨rfl, hbx⟩; replace e0 := cell_below e0 (below_trans (by first | exact Below.refl _ _ | exact below_drew1 _ | exact below_drewN _ _) hbx); replace e1 := cell_below e1 (below_trans (by first | exact Below.refl _ _ | exact below_drew1 _ | exact below_drewN _ _) hbx); replace e2 := cell_below e2 (below_trans (by first | exact Below.refl _ _ | exact below_drew1 _ | exact below_drewN _ _) hbx); replace HB := hid (below_trans HB.out (below_trans (by first | exact Below.refl _ _ | exact below_drew1 _ | exact below_drewN _ _) hbx)); clear hbx) | (go_at_call 37; refine (HTA.out _ (below_trans HB.out (by first | exact Below.refl _ _ | exact below_drew1 _ | exact below_drewN _ _))).mono ?_; rintro e w3 ⟨rfl, hbx⟩; replace e0 := cell_below e0 (below_trans (by first | exact Below.refl _ _ | exact below_drew1 _ | exact below_drewN _ _) hbx); replace e1 := cell_below e1 (below_trans (by first | exact Below.refl _ _ | exact below_drew1 _ | exact below_drewN _ _) hbx); replace e2 := cell_below e2 (below_trans (by first | exact Below.refl _ _ | exact below_drew1 _ | exact below_drewN _ _) hbx); replace HB := hid (below_trans HB.out (below_trans (by first | exact Below.refl _ _ | exact below_drew1 _ | exact below_drewN _ _) hbx)); clear hbx))
    go_ret
    exact ⟨rfl, HB.out⟩
theorem valid1T (w : World) (bs : List BV) (ba : Option Addr) (bc p : Nat) (hp : PgR w (.slice ba bs.length bc) bs) (hB : Blk w p 53 #[.slice ba bs.length bc]) (K : BK) (hv : VB bs K) (da ea ra : Option Addr) (dc ec rc : Nat) (hk : BkR w K (.slice da K.dec.length dc) (.slice ea K.enc.length ec) (.slice ra K.rows.length rc)) : Calls Tryd.prog 19 #[.agg #[.slice da K.dec.length dc, .slice ea K.enc.length ec, .slice ra K.rows.length rc], .pointer (some ⟨p, 0, none⟩)] w fun e w' => e = .returned (.bool false) ∧ Below w.heap.size w w' := by
  have HC := hid (fun W hW => isValidT W bs ba bc (hp.kept hW) K hv da ea ra dc ec rc (hk.kept (w' := W) hW))
  have xp := hB.cellF
  have zp := hB.lt
  clear hp hv hk
  generalize K.dec.length = n1 at *
  generalize K.enc.length = n2 at *
  generalize K.rows.length = n3 at *
  go_enter Tryd.func19, Tryd.ntmps19
  go_wp2_with fail
  refine (HC.out _ (by exact blBy)).mono ?_
  rintro e w1 ⟨rfl, hb1⟩
  replace hb1 : Hid (Below w.heap.size w w1) := hid (bl_then (by exact blBy) hb1)
  go_wp2
  go_ret
  exact ⟨rfl, hb1.out⟩
theorem cfValid (args : Array Value) (W : World) : (callFunc 19 args).run Tryd.prog W = .ok (.enter 19 args) W := cf_enter Tryd.func19 (by kernel_rfl) (by kernel_rfl) args W
theorem validT (w : World) (bs : List BV) (ba : Option Addr) (bc : Nat) (hp : PgR w (.slice ba bs.length bc) bs) (hn : bs.length ≤ 128) (hv : ∀ x ∈ bs, VB bs x.k) : Calls Tryd.prog 11 #[.agg #[.slice ba bs.length bc]] w fun e w' => e = .returned (.bool true) ∧ Below w.heap.size w w' := by
  have HC : Hid (∀ W p, Below w.heap.size w W → Blk W p 53 #[.slice ba bs.length bc] → Calls Tryd.prog 18 #[.slice ba bs.length bc, .func (.func 19) #[] #[.pointer (some ⟨p, 0, none⟩)]] W fun e w' => e = .returned (.bool false) ∧ Below W.heap.size W w') := hid fun W p hW hB => conBlock W bs ba bc (hp.kept hW) (by omega) _ _ cfValid (fun j hj W' hW' da ea ra dc ec rc hbk => valid1T W' bs ba bc p ((hp.kept hW).kept hW') (hB.kept hW') _ (hv _ (List.getElem_mem hj)) da ea ra dc ec rc hbk)
  have r1 : ((128 : Int) < (bs.length : Int)) = False := eq_false (by omega)
  have r2 : (bs.length : Int) ≤ 128 := by omega
  clear hp hv
  go_enter Tryd.func11, Tryd.ntmps11
  go_wp2_with fail
  refine (HC.out _ _ (by exact blBy) (Blk.newAt (by simp))).mono ?_
  rintro e w1 ⟨rfl, hb1⟩
  replace hb1 : Hid (Below w.heap.size w w1) := hid (bl_then (by exact blBy) hb1)
  go_wp2
  go_ret
  exact ⟨rfl, hb1.out⟩
set_option maxHeartbeats 2000000
def oneK : BK := ⟨[], [], [⟨0, 0⟩]⟩
def lowK : BK := ⟨[insV 1 [], insV 2 [8, 5], insV 5 [2], insV 7 [1], insV 4 [0], insV 2 [16, 9], insV 5 [4], insV 8 [2], insV 4 [0], insV 2 [18, 12], insV 11 [2, 4, 0], insV 4 [0], insV 2 [26, 15], insV 10 [3, 1, 0], insV 4 [0], insV 13 [], insV 4 [0]], [insV 16 [1, 3, 2], insV 17 [8], insV 18 [2], insV 16 [2, 5, 0], insV 21 [18, 4], insV 16 [3, 8, 0], insV 17 [26], insV 19 [1], insV 23 [], insV 24 []], []⟩
def twoV (d0 e0 r0 d1 e1 r1 : Value) : List BV := [⟨oneK, d0, e0, r0⟩, ⟨lowK, d1, e1, r1⟩]
theorem vbOne (bs : List BV) : VB bs oneK := ⟨fun i j h hj hi => by simp [oneK] at hj; omega, by decide, .inl ⟨rfl, rfl, by decide, by decide⟩⟩
theorem msTwo (d0 e0 r0 d1 e1 r1 : Value) : MsAt (twoV d0 e0 r0 d1 e1 r1) 1 := ⟨(show 1 < 2 by decide), (show 0 < lowK.dec.length by decide), (show lowK.dec.length ≤ 100000 by decide), (show lowK.enc.length ≤ 100000 by decide)⟩
theorem lowRd (d0 e0 r0 d1 e1 r1 : Value) : ∀ i (h : i < lowK.dec.length), RdP (twoV d0 e0 r0 d1 e1 r1) lowK.dec.length i lowK.dec[i] := by
  intro i h
  have h17 : i < 17 := h
  match i, h17, h with
  | 0, _, h => exact .inl ⟨rfl, rfl⟩
  | 1, _, h => exact .inr ⟨by decide, .inr (.inr (.inl ⟨8, 5, 1, 0, rfl, ⟨rfl, by decide, by decide⟩, by decide, by decide⟩))⟩
  | 2, _, h => exact .inr ⟨by decide, .inr (.inr (.inr (.inl ⟨2, rfl, by decide, by decide⟩)))⟩
  | 3, _, h => exact .inr ⟨by decide, .inr (.inr (.inr (.inr (.inr (.inl ⟨1, 7, rfl, by unfold FdOk; decide, by decide⟩)))))⟩
  | 4, _, h => exact .inr ⟨by decide, .inr (.inl rfl)⟩
  | 5, _, h => exact .inr ⟨by decide, .inr (.inr (.inl ⟨16, 9, 2, 0, rfl, ⟨rfl, by decide, by decide⟩, by decide, by decide⟩))⟩
  | 6, _, h => exact .inr ⟨by decide, .inr (.inr (.inr (.inl ⟨4, rfl, by decide, by decide⟩)))⟩
  | 7, _, h => exact .inr ⟨by decide, .inr (.inr (.inr (.inr (.inr (.inl ⟨2, 8, rfl, by unfold FdOk; decide, by decide⟩)))))⟩
  | 8, _, h => exact .inr ⟨by decide, .inr (.inl rfl)⟩
  | 9, _, h => exact .inr ⟨by decide, .inr (.inr (.inl ⟨18, 12, 2, 2, rfl, ⟨rfl, by decide, by decide⟩, by decide, by decide⟩))⟩
  | 10, _, h => exact .inr ⟨by decide, .inr (.inr (.inr (.inr (.inr (.inr (.inr (.inl ⟨2, 4, 0, rfl, by unfold FdOk; decide, by decide, by decide, .inr ⟨by decide, rfl⟩⟩)))))))⟩
  | 11, _, h => exact .inr ⟨by decide, .inr (.inl rfl)⟩
  | 12, _, h => exact .inr ⟨by decide, .inr (.inr (.inl ⟨26, 15, 3, 2, rfl, ⟨rfl, by decide, by decide⟩, by decide, by decide⟩))⟩
  | 13, _, h => exact .inr ⟨by decide, .inr (.inr (.inr (.inr (.inr (.inr (.inl ⟨3, 0, 1, rfl, by unfold FdOk; decide, msTwo _ _ _ _ _ _, by decide⟩))))))⟩
  | 14, _, h => exact .inr ⟨by decide, .inr (.inl rfl)⟩
  | 15, _, h => exact .inr ⟨by decide, .inl rfl⟩
  | 16, _, h => exact .inr ⟨by decide, .inr (.inl rfl)⟩
  | n + 17, h17, _ => exact absurd h17 (by omega)
theorem lowWr (d0 e0 r0 d1 e1 r1 : Value) : ∀ i (h : i < lowK.enc.length), WrP (twoV d0 e0 r0 d1 e1 r1) lowK.enc.length i lowK.enc[i] := by
  intro i h
  have h10 : i < 10 := h
  match i, h10, h with
  | 0, _, h => exact .inr ⟨by decide, .inr (.inl ⟨1, 3, 2, rfl, by unfold FdOk; decide, by decide, by decide⟩)⟩
  | 1, _, h => exact .inr ⟨by decide, .inr (.inr (.inl ⟨8, 1, 0, rfl, ⟨rfl, by decide, by decide⟩⟩))⟩
  | 2, _, h => exact .inr ⟨by decide, .inr (.inr (.inr (.inl ⟨2, rfl, by decide, by decide⟩)))⟩
  | 3, _, h => exact .inr ⟨by decide, .inr (.inl ⟨2, 5, 0, rfl, by unfold FdOk; decide, by decide, by decide⟩)⟩
  | 4, _, h => exact .inr ⟨by decide, .inr (.inr (.inr (.inr (.inr (.inr (.inl ⟨18, 4, 2, 2, rfl, ⟨rfl, by decide, by decide⟩, by decide⟩))))))⟩
  | 5, _, h => exact .inr ⟨by decide, .inr (.inl ⟨3, 8, 0, rfl, by unfold FdOk; decide, by decide, by decide⟩)⟩
  | 6, _, h => exact .inr ⟨by decide, .inr (.inr (.inl ⟨26, 3, 2, rfl, ⟨rfl, by decide, by decide⟩⟩))⟩
  | 7, _, h => exact .inr ⟨by decide, .inr (.inr (.inr (.inr (.inl ⟨1, rfl, msTwo _ _ _ _ _ _⟩))))⟩
  | 8, _, h => exact .inr ⟨by decide, .inl rfl⟩
  | 9, _, h => exact .inl ⟨rfl, rfl⟩
  | n + 10, h10, _ => exact absurd h10 (by omega)
theorem vbLow (d0 e0 r0 d1 e1 r1 : Value) : VB (twoV d0 e0 r0 d1 e1 r1) lowK := ⟨fun i j h hj hi => absurd hj (Nat.not_lt_zero _), (show lowK.dec.length ≤ 100000 ∧ lowK.enc.length ≤ 100000 ∧ lowK.rows.length ≤ 100000 by decide), .inr ⟨rfl, (show 0 < lowK.dec.length by decide), (show 0 < lowK.enc.length by decide), lowRd d0 e0 r0 d1 e1 r1, ⟨(show lowK.dec.length - 1 < lowK.dec.length by decide), rfl⟩, (show ∀ x ∈ lowK.dec, x.op ≠ 3 by decide), lowWr d0 e0 r0 d1 e1 r1⟩⟩
theorem vbTwo (d0 e0 r0 d1 e1 r1 : Value) : ∀ x ∈ twoV d0 e0 r0 d1 e1 r1, VB (twoV d0 e0 r0 d1 e1 r1) x.k := by
  intro x hx
  unfold twoV at hx
  simp only [List.mem_cons, List.not_mem_nil, or_false] at hx
  rcases hx with rfl | rfl
  · exact vbOne _
  · exact vbLow d0 e0 r0 d1 e1 r1
theorem bwOne : BkW oneK := ⟨fun s hs => (by cases hs), fun s hs => (by cases hs), (by decide)⟩
theorem inw {l : List IN} (h : ∀ s ∈ l, (1 ≤ s.op ∧ s.op ≤ 25) ∧ ∀ x ∈ insN s, 0 ≤ x ∧ x ≤ 9223372036854775807) : ∀ s ∈ l, InW s := fun s hs => ⟨(h s hs).1, (h s hs).2⟩
theorem bwLow : BkW lowK := ⟨inw (by decide), inw (by decide), fun r hr => (by cases hr)⟩
/-- Few digits. -/
def itS (n : Int) : List Int := if 0 ≤ n ∧ n < 10 then [48 + n] else if 0 ≤ n ∧ n < 100 then [48 + n / 10, 48 + n % 10] else []
def smP (n : Int) : Prop := 0 ≤ n ∧ n < 100
theorem itS_ok : ItP itS := by
  refine ⟨fun n c hc => ?_, fun n => ?_⟩
  · unfold itS at hc
    split at hc
    · simp only [List.mem_cons, List.not_mem_nil, or_false] at hc
      omega
    · split at hc
      · simp only [List.mem_cons, List.not_mem_nil, or_false] at hc
        omega
      · cases hc
  · unfold itS
    split
    · exact (by decide : 1 ≤ 20)
    · split
      · exact (by decide : 2 ≤ 20)
      · exact Nat.zero_le _
theorem itoaS (W0 : World) (n : Int) (h : smP n) : ItoaOk itS W0 n := by
  unfold smP at h
  obtain ⟨i, rfl⟩ : ∃ i : Nat, n = (i : Int) := ⟨n.toNat, by omega⟩
  have hi : i < 100 := by omega
  refine (Tryd.strconv_Itoa_small i hi W0).mono ?_
  rintro e w' ⟨rfl, rfl⟩
  refine ⟨?_, Below.refl _ _⟩
  congr 2
  unfold itS strOfNums
  by_cases h1 : i < 10
  · rw [if_pos (by omega), Lib.decDigits_one h1]
    simp only [List.map_cons, List.map_nil]
    have : (48 + (i : Int)).toNat = 48 + i := by omega
    rw [this]
  · rw [if_neg (by omega), if_pos (by omega), Lib.decDigits_two h1 hi]
    simp only [List.map_cons, List.map_nil]
    have e1 : (48 + (i : Int) / 10).toNat = 48 + i / 10 := by omega
    have e2 : (48 + (i : Int) % 10).toNat = 48 + i % 10 := by omega
    rw [e1, e2]
theorem bpOne : BkP smP oneK := ⟨fun j hj => absurd hj (Nat.not_lt_zero _), fun j hj => absurd hj (Nat.not_lt_zero _), fun s hs => (by cases hs), fun s hs => (by cases hs), (show ∀ r ∈ oneK.rows, (0 ≤ r.tag ∧ r.tag < 100) ∧ 0 ≤ r.pl ∧ r.pl < 100 by decide)⟩
theorem bpLow : BkP smP lowK := ⟨fun j hj => ⟨(by omega), (by have : j < 17 := hj; omega)⟩, fun j hj => ⟨(by omega), (by have : j < 10 := hj; omega)⟩, (by decide : ∀ s ∈ lowK.dec, ∀ x ∈ insN s, 0 ≤ x ∧ x < 100), (by decide : ∀ s ∈ lowK.enc, ∀ x ∈ insN s, 0 ≤ x ∧ x < 100), fun r hr => (by cases hr)⟩
def tinyT : List Int := [98, 108, 111, 99, 107, 32, 48, 10, 32, 32, 114, 111, 119, 32, 48, 32, 48, 10]
theorem tiny_text (d e r : Value) : txB itS [⟨oneK, d, e, r⟩] 0 = tinyT := by kernel_rfl
theorem tiny_bytes (d e r : Value) : pgB [⟨oneK, d, e, r⟩] = [67, 84, 1, 0, 0, 1, 0, 0] := by kernel_rfl
def bigT : List Int := [98, 108, 111, 99, 107, 32, 48, 10, 32, 32, 114, 111, 119, 32, 48, 32, 48, 10, 98, 108, 111, 99, 107, 32, 49, 10, 32, 32, 100, 101, 99, 32, 48, 32, 116, 97, 103, 10, 32, 32, 100, 101, 99, 32, 49, 32, 99, 97, 115, 101, 32, 56, 32, 53, 10, 32, 32, 100, 101, 99, 32, 50, 32, 114, 101, 97, 100, 32, 50, 10, 32, 32, 100, 101, 99, 32, 51, 32, 115, 101, 116, 32, 49, 10, 32, 32, 100, 101, 99, 32, 52, 32, 103, 111, 32, 48, 10, 32, 32, 100, 101, 99, 32, 53, 32, 99, 97, 115, 101, 32, 49, 54, 32, 57, 10, 32, 32, 100, 101, 99, 32, 54, 32, 114, 101, 97, 100, 32, 52, 10, 32, 32, 100, 101, 99, 32, 55, 32, 97, 100, 100, 32, 50, 10, 32, 32, 100, 101, 99, 32, 56, 32, 103, 111, 32, 48, 10, 32, 32, 100, 101, 99, 32, 57, 32, 99, 97, 115, 101, 32, 49, 56, 32, 49, 50, 10, 32, 32, 100, 101, 99, 32, 49, 48, 32, 114, 111, 119, 32, 50, 32, 52, 32, 48, 10, 32, 32, 100, 101, 99, 32, 49, 49, 32, 103, 111, 32, 48, 10, 32, 32, 100, 101, 99, 32, 49, 50, 32, 99, 97, 115, 101, 32, 50, 54, 32, 49, 53, 10, 32, 32, 100, 101, 99, 32, 49, 51, 32, 109, 115, 103, 32, 51, 32, 49, 32, 48, 10, 32, 32, 100, 101, 99, 32, 49, 52, 32, 103, 111, 32, 48, 10, 32, 32, 100, 101, 99, 32, 49, 53, 32, 107, 101, 101, 112, 10, 32, 32, 100, 101, 99, 32, 49, 54, 32, 103, 111, 32, 48, 10, 32, 32, 101, 110, 99, 32, 48, 32, 104, 97, 115, 32, 49, 32, 51, 32, 50, 10, 32, 32, 101, 110, 99, 32, 49, 32, 112, 117, 116, 32, 56, 10, 32, 32, 101, 110, 99, 32, 50, 32, 118, 97, 108, 32, 50, 10, 32, 32, 101, 110, 99, 32, 51, 32, 104, 97, 115, 32, 50, 32, 53, 32, 48, 10, 32, 32, 101, 110, 99, 32, 52, 32, 114, 117, 110, 32, 49, 56, 32, 52, 10, 32, 32, 101, 110, 99, 32, 53, 32, 104, 97, 115, 32, 51, 32, 56, 32, 48, 10, 32, 32, 101, 110, 99, 32, 54, 32, 112, 117, 116, 32, 50, 54, 10, 32, 32, 101, 110, 99, 32, 55, 32, 115, 117, 98, 32, 49, 10, 32, 32, 101, 110, 99, 32, 56, 32, 114, 101, 115, 116, 10, 32, 32, 101, 110, 99, 32, 57, 32, 101, 110, 100, 10]
def wantT : List Int := [10, 32, 32, 100, 101, 99, 32, 49, 32, 99, 97, 115, 101, 32, 56, 32, 53, 10]
theorem big_text (d0 e0 r0 d1 e1 r1 : Value) : txB itS (twoV d0 e0 r0 d1 e1 r1) 0 = bigT := by kernel_rfl
theorem big_len : bigT.length = 443 := by kernel_rfl
theorem big_at : (bigT.take (37 + 18)).drop 37 = wantT := by kernel_rfl
theorem big_no : ∀ i : Nat, i < 37 → (bigT.take (i + 18)).drop i ≠ wantT := by decide
theorem loweredT (w : World) : Calls Tryd.prog 8 #[] w fun e w' => ∃ h1 h2 : Nat, e = .returned (.agg #[.slice (some ⟨h1, 0, none⟩) 17 17, .slice (some ⟨h2, 0, none⟩) 10 10, .slice none 0 0]) ∧ BkR w' lowK (.slice (some ⟨h1, 0, none⟩) 17 17) (.slice (some ⟨h2, 0, none⟩) 10 10) (.slice none 0 0) ∧ Below w.heap.size w w' := by
  go_enter Tryd.func8, Tryd.ntmps8
  go_wp2
  refine bodyPost_ret (v := .agg #[.slice (some ⟨w.heap.size + 1, 0, none⟩) 17 17, .slice (some ⟨w.heap.size + 1 + 1, 0, none⟩) 10 10, .slice none 0 0]) (by simp [results, Tryd.results8, go_sem]) rfl ?_
  refine ⟨_, _, rfl, ⟨?_, ?_, rowS_nil _ _ _⟩, by exact blBy⟩
  · refine rowOf' (t := 42) (cs := #[.int .i64 1, .int .i64 0, .int .i64 0, .int .i64 0, .int .i64 0, .int .i64 2, .int .i64 8, .int .i64 5, .int .i64 0, .int .i64 0, .int .i64 5, .int .i64 2, .int .i64 0, .int .i64 0, .int .i64 0, .int .i64 7, .int .i64 1, .int .i64 0, .int .i64 0, .int .i64 0, .int .i64 4, .int .i64 0, .int .i64 0, .int .i64 0, .int .i64 0, .int .i64 2, .int .i64 16, .int .i64 9, .int .i64 0, .int .i64 0, .int .i64 5, .int .i64 4, .int .i64 0, .int .i64 0, .int .i64 0, .int .i64 8, .int .i64 2, .int .i64 0, .int .i64 0, .int .i64 0, .int .i64 4, .int .i64 0, .int .i64 0, .int .i64 0, .int .i64 0, .int .i64 2, .int .i64 18, .int .i64 12, .int .i64 0, .int .i64 0, .int .i64 11, .int .i64 2, .int .i64 4, .int .i64 0, .int .i64 0, .int .i64 4, .int .i64 0, .int .i64 0, .int .i64 0, .int .i64 0, .int .i64 2, .int .i64 26, .int .i64 15, .int .i64 0, .int .i64 0, .int .i64 10, .int .i64 3, .int .i64 1, .int .i64 0, .int .i64 0, .int .i64 4, .int .i64 0, .int .i64 0, .int .i64 0, .int .i64 0, .int .i64 13, .int .i64 0, .int .i64 0, .int .i64 0, .int .i64 0, .int .i64 4, .int .i64 0, .int .i64 0, .int .i64 0, .int .i64 0]) ?_ 5 17 (lowK.dec.flatMap cIN) (by kernel_rfl) (by kernel_rfl) (by decide)
    exact (Blk.newAt (by simp)).kept (below_alloc _)
  · refine rowOf' (t := 42) (cs := #[.int .i64 16, .int .i64 1, .int .i64 3, .int .i64 2, .int .i64 0, .int .i64 17, .int .i64 8, .int .i64 0, .int .i64 0, .int .i64 0, .int .i64 18, .int .i64 2, .int .i64 0, .int .i64 0, .int .i64 0, .int .i64 16, .int .i64 2, .int .i64 5, .int .i64 0, .int .i64 0, .int .i64 21, .int .i64 18, .int .i64 4, .int .i64 0, .int .i64 0, .int .i64 16, .int .i64 3, .int .i64 8, .int .i64 0, .int .i64 0, .int .i64 17, .int .i64 26, .int .i64 0, .int .i64 0, .int .i64 0, .int .i64 19, .int .i64 1, .int .i64 0, .int .i64 0, .int .i64 0, .int .i64 23, .int .i64 0, .int .i64 0, .int .i64 0, .int .i64 0, .int .i64 24, .int .i64 0, .int .i64 0, .int .i64 0, .int .i64 0]) ?_ 5 10 (lowK.enc.flatMap cIN) (by kernel_rfl) (by kernel_rfl) (by decide)
    exact Blk.newAt (by simp)
end Go.Proofs.YtidljnkalaklmaaDoor
