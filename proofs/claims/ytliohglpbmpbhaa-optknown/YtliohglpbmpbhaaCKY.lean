/-
  A valid block's steps, where all is well.
  Rows of a valid block, where all is well.
  Valid, where all is well.
  opt: chapter 14's examples, the blocks.
  opt: chapter 14's examples: the better block, whether two are the same, awake.
-/
import Derived.Test.YtliohglpbmpbhaaCKXa
import Derived.Test.YtliohglpbmpbhaaKXc
import Derived.Test.YtliohglpbmpbhaaCOPw
namespace Go.Proofs.Ytliohglpbmpbhaa
open Go.RowKit
set_option maxRecDepth 1000000
set_option linter.unusedVariables false
set_option linter.unusedSimpArgs false
set_option maxHeartbeats 1000000
def EnAt (bs : List BV) (k : Nat) : Prop := ∃ h : k < bs.length, bs[k].k.dec.length = 0 ∧ bs[k].k.enc.length = 0
def MsAt (bs : List BV) (k : Nat) : Prop := ∃ h : k < bs.length, 0 < bs[k].k.dec.length ∧ bs[k].k.dec.length ≤ 100000 ∧ bs[k].k.enc.length ≤ 100000
def FdOk (a : Int) : Prop := 1 ≤ a ∧ a ≤ 536870911
/-- A step that reads, at its place. -/
def RdP (bs : List BV) (n i : Nat) (s : IN) : Prop := (s = insV 1 [] ∧ i = 0) ∨ (i ≠ 0 ∧ (s = insV 13 [] ∨ s = insV 4 [0] ∨ (∃ a b m k, s = insV 2 [a, b] ∧ TagOk a m k ∧ (i : Int) < b ∧ b < n) ∨ (∃ a, s = insV 5 [a] ∧ 1 ≤ a ∧ a ≤ 16) ∨ (∃ k : Nat, s = insV 6 [(k : Int)] ∧ EnAt bs k) ∨ (∃ a o, s = insV o [a] ∧ FdOk a ∧ (o = 7 ∨ o = 8 ∨ o = 9)) ∨ (∃ (a c : Int) (k : Nat), s = insV 10 [a, (k : Int), c] ∧ FdOk a ∧ MsAt bs k ∧ (c = 0 ∨ c = 1 ∨ c = 2)) ∨ (∃ a b c, s = insV 11 [a, b, c] ∧ FdOk a ∧ knum b = true ∧ c ≤ 1000 ∧ ((b = 16 ∧ ∃ k : Nat, c = (k : Int) + 1 ∧ EnAt bs k) ∨ (b ≠ 16 ∧ c = 0))) ∨ (∃ a b c d, s = insV 12 [a, b, c, d] ∧ FdOk a ∧ kkey b = true ∧ OfKind bs c d)))
def WrP (bs : List BV) (n i : Nat) (s : IN) : Prop := (s = insV 24 [] ∧ i + 1 = n) ∨ (i + 1 ≠ n ∧ (s = insV 23 [] ∨ (∃ a b c, s = insV 16 [a, b, c] ∧ FdOk a ∧ ((i : Int) < b ∧ b < n) ∧ (c = 0 ∨ (1 ≤ c ∧ c ≤ 16))) ∨ (∃ a m k, s = insV 17 [a] ∧ TagOk a m k) ∨ (∃ a, s = insV 18 [a] ∧ 1 ≤ a ∧ a ≤ 16) ∨ (∃ k : Nat, s = insV 19 [(k : Int)] ∧ MsAt bs k) ∨ (∃ a b c m k, s = insV 20 [a, b, c] ∧ TagOk a m k ∧ OfKind bs b c) ∨ (∃ a b m k, s = insV 21 [a, b] ∧ TagOk a m k ∧ knum b = true) ∨ (∃ a b c d m k, s = insV 22 [a, b, c, d] ∧ TagOk a m k ∧ kkey b = true ∧ OfKind bs c d)))
theorem isReadingT (w : World) (bs : List BV) (ba : Option Addr) (bc : Nat) (hp : PgR w (.slice ba bs.length bc) bs) (n i : Nat) (s : IN) (hs : RdP bs n i s) (caps : Array Value) (hA : ∀ tg : Int, (i : Int) < tg ∧ tg < n → ∀ W, Below w.heap.size w W → Calls Try.prog 67 (#[.int .i64 tg] ++ caps) W fun e w' => e = .returned (.bool true) ∧ Below W.heap.size W w') : Calls Try.prog 68 #[.slice ba bs.length bc, .agg #[.int .i64 s.op, .int .i64 s.a, .int .i64 s.b, .int .i64 s.c, .int .i64 s.d], .func (.func 67) #[] caps] w fun e w' => e = .returned (.bool true) ∧ Below w.heap.size w w' := by
  rcases hs with ⟨rfl, _⟩ | ⟨_, h⟩
  · exact rdTag w bs ba bc caps
  rcases h with rfl | rfl | ⟨a, b, m, k, rfl, ht, hb⟩ | ⟨a, rfl, ha⟩ | ⟨k, rfl, hk, h1, h2⟩ | ⟨a, o, rfl, ha, ho⟩ | ⟨a, c, k, rfl, ha, ⟨hk, h1, h2⟩, hc⟩ | ⟨a, b, c, rfl, ha, hb, hc, hq⟩ | ⟨a, b, c, d, rfl, ha, hb, hc⟩
  · exact rdKeep w bs ba bc caps
  · exact rdGo w bs ba bc caps
  · exact rdCase w bs ba bc caps a b m k ht (hA b hb)
  · exact rdRead w bs ba bc caps a ha
  · exact rdSym w bs ba bc caps k hp hk h1 h2
  · rcases ho with rfl | rfl | rfl
    · exact rdSet w bs ba bc caps a ha
    · exact rdAdd w bs ba bc caps a ha
    · exact rdClear w bs ba bc caps a ha
  · exact rdMsg w bs ba bc caps a c k hp hk ha h1 h2 hc
  · exact rdRow w bs ba bc caps a b c hp ha hb hq hc
  · exact rdPair w bs ba bc caps a b c d hp ha hb hc
theorem isWritingT (w : World) (bs : List BV) (ba : Option Addr) (bc : Nat) (hp : PgR w (.slice ba bs.length bc) bs) (n i : Nat) (s : IN) (hs : WrP bs n i s) (caps : Array Value) (hA : ∀ tg : Int, (i : Int) < tg ∧ tg < n → ∀ W, Below w.heap.size w W → Calls Try.prog 69 (#[.int .i64 tg] ++ caps) W fun e w' => e = .returned (.bool true) ∧ Below W.heap.size W w') : Calls Try.prog 70 #[.slice ba bs.length bc, .agg #[.int .i64 s.op, .int .i64 s.a, .int .i64 s.b, .int .i64 s.c, .int .i64 s.d], .func (.func 69) #[] caps] w fun e w' => e = .returned (.bool true) ∧ Below w.heap.size w w' := by
  rcases hs with ⟨rfl, _⟩ | ⟨_, h⟩
  · exact wrEnd w bs ba bc caps
  rcases h with rfl | ⟨a, b, c, rfl, ha, hb, hc⟩ | ⟨a, m, k, rfl, ht⟩ | ⟨a, rfl, ha⟩ | ⟨k, rfl, hk, h1, h2⟩ | ⟨a, b, c, m, k, rfl, ht, ho⟩ | ⟨a, b, m, k, rfl, ht, hb⟩ | ⟨a, b, c, d, m, k, rfl, ht, hb, ho⟩
  · exact wrRest w bs ba bc caps
  · rcases hc with rfl | hc
    · exact wrHas0 w bs ba bc caps a b ha (hA b hb)
    · exact wrHasK w bs ba bc caps a b c ha hc (hA b hb)
  · exact wrPut w bs ba bc caps a m k ht
  · exact wrVal w bs ba bc caps a ha
  · exact wrSub w bs ba bc caps k hp hk h1 h2
  · exact wrEach w bs ba bc caps a b c m k hp ht ho
  · exact wrRun w bs ba bc caps a b m k ht hb
  · exact wrPairs w bs ba bc caps a b c d m k hp ht hb ho
theorem isDecT (w : World) (pa ps i n : Nat) (sa : Option Addr) (sc : Nat) (tg : Int) (h1 : Blk w pa 3 #[.int .i64 i]) (h2 : Blk w ps 22 #[.slice sa n sc]) (hn : n ≤ 100000) (ht : (i : Int) < tg ∧ tg < n) : Calls Try.prog 67 #[.int .i64 tg, .pointer (some ⟨pa, 0, none⟩), .pointer (some ⟨ps, 0, none⟩)] w fun e w' => e = .returned (.bool true) ∧ Below w.heap.size w w' := by
  have x1 := h1.cellF
  have z1 := h1.lt
  have x2 := h2.cellF
  have z2 := h2.lt
  have r1 : ((i : Int) < tg) = True := eq_true ht.1
  have r2 : (tg < (n : Int)) = True := eq_true ht.2
  clear h1 h2
  go_enter Try.func67, Try.ntmps67
  go_wp2
  first
    | (go_ret; exact ⟨rfl, by exact blBy⟩)
    | (go_quiet (fail); go_wp2; go_ret; exact ⟨rfl, by first | exact below_drewN _ _ | exact blBy⟩)
theorem isEncT (w : World) (pa ps i n : Nat) (sa : Option Addr) (sc : Nat) (tg : Int) (h1 : Blk w pa 3 #[.int .i64 i]) (h2 : Blk w ps 22 #[.slice sa n sc]) (hn : n ≤ 100000) (ht : (i : Int) < tg ∧ tg < n) : Calls Try.prog 69 #[.int .i64 tg, .pointer (some ⟨pa, 0, none⟩), .pointer (some ⟨ps, 0, none⟩)] w fun e w' => e = .returned (.bool true) ∧ Below w.heap.size w w' := by
  have x1 := h1.cellF
  have z1 := h1.lt
  have x2 := h2.cellF
  have z2 := h2.lt
  have r1 : ((i : Int) < tg) = True := eq_true ht.1
  have r2 : (tg < (n : Int)) = True := eq_true ht.2
  clear h1 h2
  go_enter Try.func69, Try.ntmps69
  go_wp2
  first
    | (go_ret; exact ⟨rfl, by exact blBy⟩)
    | (go_quiet (fail); go_wp2; go_ret; exact ⟨rfl, by first | exact below_drewN _ _ | exact blBy⟩)
theorem isDecL (w : World) (bs : List BV) (ba : Option Addr) (bc : Nat) (hp : PgR w (.slice ba bs.length bc) bs) (l : List IN) (la : Option Addr) (lc : Nat) (hl : RowS w AnyZ 5 (.slice la l.length lc) l.length (l.flatMap cIN)) (hn : l.length ≤ 100000) (hP : ∀ i (h : i < l.length), RdP bs l.length i l[i]) (h0 : 0 < l.length) (hL : ∃ h : l.length - 1 < l.length, l[l.length - 1].op = 4) : Calls Try.prog 52 #[.slice ba bs.length bc, .slice la l.length lc] w fun e w' => e = .returned (.bool true) ∧ Below w.heap.size w w' := by
  have HR := hid hl
  have HG := hid hp
  have HP := hid hP
  have HN := hid hn
  have n0 : (0 : Int) < (l.length : Int) := by omega
  have n63 : (l.length : Int) ≤ 100000 := by omega
  clear hl hp hP
  go_enter Try.func52, Try.ntmps52
  go_wp2_with fail
  go_loopw [10] (fun r wr => ∃ j : Nat, r = .int .i64 j ∧ j ≤ l.length ∧ Hid (Blk wr w.heap.size 22 #[.slice la l.length lc]) ∧ Hid (Below w.heap.size w wr)) (fun r wr => l.length - numAt wr r)
  case atStart => exact ⟨0, rfl, by omega, hid (Blk.new _ _ _), hid (by exact blBy)⟩
  case round =>
    obtain ⟨j, rfl, hj, Bl, hb⟩ := hrel
    have xl := Bl.out.cellF
    have zl := Bl.out.lt
    by_cases hlt : j < l.length
    · have h2 : (j : Int) < (l.length : Int) := by omega
      obtain ⟨pb, po, epb, hc⟩ := rowAt (g := cIN) (fun _ => rfl) (HR.out.kept hb.out) (i := j) (x := l[j]) (by simp [hlt])
      subst epb
      have c0 := hc 0 _ rfl
      have c1 := hc 1 _ rfl
      have c2 := hc 2 _ rfl
      have c3 := hc 3 _ rfl
      have c4 := hc 4 _ rfl
      clear hc
      simp only [Nat.add_zero] at c0
      have hpb : pb < wr.heap.size := World.block_lt_of_cell? _ _ c0
      have HPJ := hid (HP.out j hlt)
      generalize l[j] = s at *
      obtain ⟨cc, kq1, kq2⟩ : ∃ cc : Bool, (s.op == 1) = cc ∧ ((j : Int) == 0) = cc := by
        rcases HPJ.out with ⟨e, e0⟩ | ⟨e0, h⟩
        · exact ⟨true, by rw [e]; rfl, by rw [e0]; rfl⟩
        · refine ⟨false, ?_, by rw [beq_eq_false_iff_ne]; omega⟩
          rcases h with e | e | ⟨a, b, m, k, e, _⟩ | ⟨a, e, _⟩ | ⟨k, e, _⟩ | ⟨a, o, e, _, ho⟩ | ⟨a, c, k, e, _⟩ | ⟨a, b, c, e, _⟩ | ⟨a, b, c, d, e, _⟩
          all_goals rw [e]
          all_goals first | rfl | (rcases ho with rfl | rfl | rfl <;> rfl)
      have HCA : Hid (∀ W tg, ((j : Int) < tg ∧ tg < l.length) → Below wr.heap.size ((wr.alloc (.cells #[.int .i64 j] 3)).alloc (.cells #[.int .i64 s.op, .int .i64 s.a, .int .i64 s.b, .int .i64 s.c, .int .i64 s.d] 42)) W → Blk W wr.heap.size 3 #[.int .i64 j] → Blk W w.heap.size 22 #[.slice (some ⟨pb, po, none⟩) l.length lc] → Calls Try.prog 67 (#[.int .i64 tg] ++ #[.pointer (some ⟨wr.heap.size, 0, none⟩), .pointer (some ⟨w.heap.size, 0, none⟩)]) W fun e w' => e = .returned (.bool true) ∧ Below W.heap.size W w') := hid fun W tg ht _ q1 q2 => isDecT W wr.heap.size w.heap.size j l.length _ lc tg q1 q2 HN.out ht
      have Bj : Blk ((wr.alloc (.cells #[.int .i64 j] 3)).alloc (.cells #[.int .i64 s.op, .int .i64 s.a, .int .i64 s.b, .int .i64 s.c, .int .i64 s.d] 42)) wr.heap.size 3 #[.int .i64 j] := (Blk.new _ _ _).kept (below_alloc _)
      have Bl2 : Blk ((wr.alloc (.cells #[.int .i64 j] 3)).alloc (.cells #[.int .i64 s.op, .int .i64 s.a, .int .i64 s.b, .int .i64 s.c, .int .i64 s.d] 42)) w.heap.size 22 #[.slice (some ⟨pb, po, none⟩) l.length lc] := (Bl.out.kept (below_alloc _)).kept (below_alloc _)
      have HC := hid (isReadingT _ bs ba bc (HG.out.kept (show Below w.heap.size w ((wr.alloc (.cells #[.int .i64 j] 3)).alloc (.cells #[.int .i64 s.op, .int .i64 s.a, .int .i64 s.b, .int .i64 s.c, .int .i64 s.d] 42)) from bl_alloc (bl_alloc hb.out _) _)) l.length j s HPJ.out #[.pointer (some ⟨wr.heap.size, 0, none⟩), .pointer (some ⟨w.heap.size, 0, none⟩)] (fun tg ht W hW => HCA.out W tg ht (hW.mono (by simp; omega)) (Bj.kept hW) (Bl2.kept hW)))
      replace Bl2 := hid Bl2
      clear Bj HCA
      cases cc <;>
      · go_wp2_with fail
        refine HC.out.mono ?_
        rintro e w1 ⟨rfl, hb1⟩
        have Bl3 := hid (Bl2.out.kept hb1)
        have HB1 := hid (bl_then (bl_alloc (bl_alloc hb.out _) _) hb1)
        go_wp2
        exact ⟨⟨j + 1, by simp, by omega, Bl3, HB1⟩, by simp [numAt]; omega⟩
    · have h2 : ¬ (j : Int) < (l.length : Int) := by omega
      obtain ⟨hl1, hop⟩ := hL
      obtain ⟨n2, en2⟩ : ∃ n2, n2 = l.length - 1 := ⟨_, rfl⟩
      have k4 : (l.length : Int) - 1 = (n2 : Int) := by omega
      have k5 : (n2 : Int) < (l.length : Int) := by omega
      obtain ⟨pb, po, epb, hc⟩ := rowAt (g := cIN) (fun _ => rfl) (HR.out.kept hb.out) (i := n2) (x := l[l.length - 1]) (by rw [en2]; simp [hl1])
      subst epb
      have c0 := hc 0 _ rfl
      clear hc en2
      simp only [Nat.add_zero] at c0
      rw [hop] at c0
      have hpb : pb < wr.heap.size := World.block_lt_of_cell? _ _ c0
      have w64 : IntKind.i64.wrap (n2 : Int) = (n2 : Int) := wraps_i64 _ (by omega) (by omega)
      clear hop
      go_wp2
      first
        | (go_ret; exact ⟨rfl, hb.out⟩)
        | (go_quiet (fail); go_wp2; go_ret; exact ⟨rfl, by first | exact bl_drewN hb.out _ | exact hb.out⟩)
theorem isEncL (w : World) (bs : List BV) (ba : Option Addr) (bc : Nat) (hp : PgR w (.slice ba bs.length bc) bs) (l : List IN) (la : Option Addr) (lc : Nat) (hl : RowS w AnyZ 5 (.slice la l.length lc) l.length (l.flatMap cIN)) (hn : l.length ≤ 100000) (hP : ∀ i (h : i < l.length), WrP bs l.length i l[i]) (h0 : 0 < l.length) : Calls Try.prog 53 #[.slice ba bs.length bc, .slice la l.length lc] w fun e w' => e = .returned (.bool true) ∧ Below w.heap.size w w' := by
  have HR := hid hl
  have HG := hid hp
  have HP := hid hP
  have HN := hid hn
  have n0 : (0 : Int) < (l.length : Int) := by omega
  have n63 : (l.length : Int) ≤ 100000 := by omega
  clear hl hp hP
  go_enter Try.func53, Try.ntmps53
  go_wp2_with fail
  go_loopw [10] (fun r wr => ∃ j : Nat, r = .int .i64 j ∧ j ≤ l.length ∧ Hid (Blk wr w.heap.size 22 #[.slice la l.length lc]) ∧ Hid (Below w.heap.size w wr)) (fun r wr => l.length - numAt wr r)
  case atStart => exact ⟨0, rfl, by omega, hid (Blk.new _ _ _), hid (by exact blBy)⟩
  case round =>
    obtain ⟨j, rfl, hj, Bl, hb⟩ := hrel
    have xl := Bl.out.cellF
    have zl := Bl.out.lt
    by_cases hlt : j < l.length
    · have h2 : (j : Int) < (l.length : Int) := by omega
      obtain ⟨pb, po, epb, hc⟩ := rowAt (g := cIN) (fun _ => rfl) (HR.out.kept hb.out) (i := j) (x := l[j]) (by simp [hlt])
      subst epb
      have c0 := hc 0 _ rfl
      have c1 := hc 1 _ rfl
      have c2 := hc 2 _ rfl
      have c3 := hc 3 _ rfl
      have c4 := hc 4 _ rfl
      clear hc
      simp only [Nat.add_zero] at c0
      have hpb : pb < wr.heap.size := World.block_lt_of_cell? _ _ c0
      have HPJ := hid (HP.out j hlt)
      generalize l[j] = s at *
      obtain ⟨cc, kq1, kq2⟩ : ∃ cc : Bool, (s.op == 24) = cc ∧ ((j : Int) == (l.length : Int) - 1) = cc := by
        rcases HPJ.out with ⟨e, e0⟩ | ⟨e0, h⟩
        · exact ⟨true, by rw [e]; rfl, by rw [beq_iff_eq]; omega⟩
        · refine ⟨false, ?_, by rw [beq_eq_false_iff_ne]; omega⟩
          rcases h with e | ⟨a, b, c, e, _⟩ | ⟨a, m, k, e, _⟩ | ⟨a, e, _⟩ | ⟨k, e, _⟩ | ⟨a, b, c, m, k, e, _⟩ | ⟨a, b, m, k, e, _⟩ | ⟨a, b, c, d, m, k, e, _⟩
          all_goals rw [e]
          all_goals rfl
      have HCA : Hid (∀ W tg, ((j : Int) < tg ∧ tg < l.length) → Below wr.heap.size ((wr.alloc (.cells #[.int .i64 j] 3)).alloc (.cells #[.int .i64 s.op, .int .i64 s.a, .int .i64 s.b, .int .i64 s.c, .int .i64 s.d] 42)) W → Blk W wr.heap.size 3 #[.int .i64 j] → Blk W w.heap.size 22 #[.slice (some ⟨pb, po, none⟩) l.length lc] → Calls Try.prog 69 (#[.int .i64 tg] ++ #[.pointer (some ⟨wr.heap.size, 0, none⟩), .pointer (some ⟨w.heap.size, 0, none⟩)]) W fun e w' => e = .returned (.bool true) ∧ Below W.heap.size W w') := hid fun W tg ht _ q1 q2 => isEncT W wr.heap.size w.heap.size j l.length _ lc tg q1 q2 HN.out ht
      have Bj : Blk ((wr.alloc (.cells #[.int .i64 j] 3)).alloc (.cells #[.int .i64 s.op, .int .i64 s.a, .int .i64 s.b, .int .i64 s.c, .int .i64 s.d] 42)) wr.heap.size 3 #[.int .i64 j] := (Blk.new _ _ _).kept (below_alloc _)
      have Bl2 : Blk ((wr.alloc (.cells #[.int .i64 j] 3)).alloc (.cells #[.int .i64 s.op, .int .i64 s.a, .int .i64 s.b, .int .i64 s.c, .int .i64 s.d] 42)) w.heap.size 22 #[.slice (some ⟨pb, po, none⟩) l.length lc] := (Bl.out.kept (below_alloc _)).kept (below_alloc _)
      have HC := hid (isWritingT _ bs ba bc (HG.out.kept (show Below w.heap.size w ((wr.alloc (.cells #[.int .i64 j] 3)).alloc (.cells #[.int .i64 s.op, .int .i64 s.a, .int .i64 s.b, .int .i64 s.c, .int .i64 s.d] 42)) from bl_alloc (bl_alloc hb.out _) _)) l.length j s HPJ.out #[.pointer (some ⟨wr.heap.size, 0, none⟩), .pointer (some ⟨w.heap.size, 0, none⟩)] (fun tg ht W hW => HCA.out W tg ht (hW.mono (by simp; omega)) (Bj.kept hW) (Bl2.kept hW)))
      replace Bl2 := hid Bl2
      clear Bj HCA
      cases cc <;>
      · go_wp2_with fail
        refine HC.out.mono ?_
        rintro e w1 ⟨rfl, hb1⟩
        have Bl3 := hid (Bl2.out.kept hb1)
        have HB1 := hid (bl_then (bl_alloc (bl_alloc hb.out _) _) hb1)
        go_wp2
        exact ⟨⟨j + 1, by simp, by omega, Bl3, HB1⟩, by simp [numAt]; omega⟩
    · have h2 : ¬ (j : Int) < (l.length : Int) := by omega
      go_wp2
      go_ret
      exact ⟨rfl, hb.out⟩
theorem doRiseP (w : World) (l : List LN) (la : Option Addr) (lc : Nat) (hl : RowS w AnyZ 2 (.slice la l.length lc) l.length (l.flatMap cLN)) (hn : l.length ≤ 100000) (hp : ∀ i j, i < j → ∀ (hj : j < l.length) (hi : i < l.length), l[i].tag < l[j].tag) : Calls Try.prog 49 #[.slice la l.length lc] w fun e w' => e = .returned (.bool true) ∧ Below w.heap.size w w' := by
  have HR := hid hl
  have HP := hid hp
  have n63 : (l.length : Int) ≤ 100000 := by omega
  clear hl hp
  go_enter Try.func49, Try.ntmps49
  go_wp2
  go_loopw [6] (fun r wr => ∃ j : Nat, r = .int .i64 j ∧ j ≤ l.length ∧ Hid (Below w.heap.size w wr)) (fun r wr => l.length - numAt wr r)
  case atStart => exact ⟨0, rfl, by omega, hid (Below.refl _ _)⟩
  case round =>
    obtain ⟨j, rfl, hj, hb⟩ := hrel
    by_cases hlt : j < l.length
    · have h2 : (j : Int) < (l.length : Int) := by omega
      by_cases h0 : j = 0
      · subst h0
        go_wp2
        first
          | exact ⟨⟨1, by simp, by omega, hb⟩, by simp [numAt]; omega⟩
          | (go_quiet (fail); go_wp2; exact ⟨⟨1, by simp, by omega, hid (bl_drewN hb.out _)⟩, by simp [numAt]; omega⟩)
      · obtain ⟨i, ei⟩ : ∃ i : Nat, i = j - 1 := ⟨_, rfl⟩
        have j4b : (j : Int) - 1 = (i : Int) := by omega
        have j4c : (i : Int) < (l.length : Int) := by omega
        have j4d : (0 < j) = True := eq_true (by omega)
        have j4e : ((0 : Int) < (j : Int)) = True := eq_true (by omega)
        have hil : i < l.length := by omega
        have HOR : Hid (l[i].tag < l[j].tag) := hid (HP.out i j (by omega) hlt hil)
        obtain ⟨g4, go4, eg, hc⟩ := rowAt (g := cLN) (fun _ => rfl) (HR.out.kept hb.out) (i := i) (x := l[i]) (by simp [hil])
        obtain ⟨g2, go2, eg2, hd⟩ := rowAt (g := cLN) (fun _ => rfl) (HR.out.kept hb.out) (i := j) (x := l[j]) (by simp [hlt])
        subst eg
        cases eg2
        have c0 := hc 0 _ rfl
        have c1 := hd 0 _ rfl
        clear hc hd ei
        simp only [Nat.add_zero] at c0 c1
        have hgb : g4 < wr.heap.size := World.block_lt_of_cell? _ _ c0
        generalize l[i] = a at *
        generalize l[j] = b at *
        have f1 : (b.tag ≤ a.tag) = False := eq_false (by have := HOR.out; omega)
        have f2 : a.tag < b.tag := HOR.out
        have f3 : IntKind.i64.wrap (i : Int) = (i : Int) := wraps_i64 _ (by omega) (by omega)
        go_wp2
        first
          | exact ⟨⟨j + 1, by simp, by omega, hb⟩, by simp [numAt]; omega⟩
          | (go_quiet (fail); go_wp2; exact ⟨⟨j + 1, by simp, by omega, hid (bl_drewN hb.out _)⟩, by simp [numAt]; omega⟩)
    · have h2 : ¬ (j : Int) < (l.length : Int) := by omega
      go_wp2
      go_ret
      exact ⟨rfl, hb.out⟩
theorem isNoneT (w : World) (x : LN) (h : 0 ≤ x.tag ∧ x.tag ≤ 2147483647 ∧ x.pl = 0) : Calls Try.prog 65 #[.agg #[.int .i64 x.tag, .int .i64 x.pl]] w fun e w' => e = .returned (.bool false) ∧ Below w.heap.size w w' := by
  obtain ⟨t, p⟩ := x
  dsimp only at h ⊢
  obtain ⟨h1, h2, rfl⟩ := h
  have heq : ∀ W, (Op.equalIn 10000 28 (.agg #[.int .i64 t, .int .i64 0]) (.agg #[.int .i64 t, .int .i64 0])).run Try.prog W = .ok true W := fun W => by
    have := eqLN ⟨t, 0⟩ ⟨t, 0⟩ W
    rw [(lnB_iff _ _).2 rfl] at this
    exact this
  have hgd := gdLN
  have r1 : (t < 0) = False := eq_false (by omega)
  have r2 : (2147483647 < t) = False := eq_false (by omega)
  go_enter Try.func65, Try.ntmps65
  go_wp2
  go_ret
  exact ⟨rfl, by exact blBy⟩
theorem idxLine (w : World) (l : List LN) (la : Option Addr) (lc : Nat) (hl : RowS w AnyZ 2 (.slice la l.length lc) l.length (l.flatMap cLN)) (hn : l.length ≤ 100000) (fn : FuncId) (caps : Array Value) (hcf : ∀ (args : Array Value) (W : World), (callFunc fn args).run Try.prog W = .ok (.enter fn args) W) (hc : ∀ x ∈ l, ∀ W, Below w.heap.size w W → Calls Try.prog fn (#[.agg #[.int .i64 x.tag, .int .i64 x.pl]] ++ caps) W fun e w' => e = .returned (.bool false) ∧ Below W.heap.size W w') : Calls Try.prog 83 #[.slice la l.length lc, .func (.func fn) #[] caps] w fun e w' => e = .returned (.int .i64 (-1)) ∧ Below w.heap.size w w' := by
  have HR := hid hl
  have HC := hid hc
  have n63 : (l.length : Int) ≤ 100000 := by omega
  clear hl hc
  go_enter Try.func83, Try.ntmps83
  go_wp2
  go_loopw [8] (fun r wr => ∃ j : Nat, r = .int .i64 j ∧ j ≤ l.length ∧ Hid (Below w.heap.size w wr)) (fun r wr => l.length - numAt wr r)
  case atStart => exact ⟨0, rfl, by omega, hid (Below.refl _ _)⟩
  case round =>
    obtain ⟨j, rfl, hj, hb⟩ := hrel
    by_cases hlt : j < l.length
    · have h2 : (j : Int) < (l.length : Int) := by omega
      obtain ⟨pb, po, epb, hcc⟩ := rowAt (g := cLN) (fun _ => rfl) (HR.out.kept hb.out) (i := j) (x := l[j]) (by simp [hlt])
      subst epb
      have c0 := hcc 0 _ rfl
      have c1 := hcc 1 _ rfl
      clear hcc
      simp only [Nat.add_zero] at c0
      have hpb : pb < wr.heap.size := World.block_lt_of_cell? _ _ c0
      have HCJ := hid (HC.out _ (List.getElem_mem hlt) wr hb.out)
      generalize l[j] = x at *
      go_wp2_with fail
      refine HCJ.out.mono ?_
      rintro e w1 ⟨rfl, hb1⟩
      have HB1 := hid (bl_then hb.out hb1)
      go_wp2
      exact ⟨⟨j + 1, by simp, by omega, HB1⟩, by simp [numAt]; omega⟩
    · have h2 : ¬ (j : Int) < (l.length : Int) := by omega
      go_wp2
      go_ret
      exact ⟨rfl, hb.out⟩
theorem conLine (w : World) (l : List LN) (la : Option Addr) (lc : Nat) (hl : RowS w AnyZ 2 (.slice la l.length lc) l.length (l.flatMap cLN)) (hn : l.length ≤ 100000) (fn : FuncId) (caps : Array Value) (hcf : ∀ (args : Array Value) (W : World), (callFunc fn args).run Try.prog W = .ok (.enter fn args) W) (hc : ∀ x ∈ l, ∀ W, Below w.heap.size w W → Calls Try.prog fn (#[.agg #[.int .i64 x.tag, .int .i64 x.pl]] ++ caps) W fun e w' => e = .returned (.bool false) ∧ Below W.heap.size W w') : Calls Try.prog 66 #[.slice la l.length lc, .func (.func fn) #[] caps] w fun e w' => e = .returned (.bool false) ∧ Below w.heap.size w w' := by
  have HI := hid (idxLine w l la lc hl hn fn caps hcf hc)
  clear hl hc
  go_enter Try.func66, Try.ntmps66
  go_wp2_with fail
  refine HI.out.mono ?_
  rintro e w1 ⟨rfl, hb1⟩
  go_wp2
  go_ret
  exact ⟨rfl, hb1⟩
theorem idxBlock (w : World) (l : List BV) (la : Option Addr) (lc : Nat) (hl : PgR w (.slice la l.length lc) l) (hn : l.length ≤ 100000) (fn : FuncId) (caps : Array Value) (hcf : ∀ (args : Array Value) (W : World), (callFunc fn args).run Try.prog W = .ok (.enter fn args) W) (hc : ∀ (j : Nat) (hj : j < l.length) W, Below w.heap.size w W → ∀ da ea ra dc ec rc, BkR W l[j].k (.slice da l[j].k.dec.length dc) (.slice ea l[j].k.enc.length ec) (.slice ra l[j].k.rows.length rc) → Calls Try.prog fn (#[.agg #[.slice da l[j].k.dec.length dc, .slice ea l[j].k.enc.length ec, .slice ra l[j].k.rows.length rc]] ++ caps) W fun e w' => e = .returned (.bool false) ∧ Below W.heap.size W w') : Calls Try.prog 48 #[.slice la l.length lc, .func (.func fn) #[] caps] w fun e w' => e = .returned (.int .i64 (-1)) ∧ Below w.heap.size w w' := by
  have HR := hid hl
  have HC := hid hc
  have n63 : (l.length : Int) ≤ 100000 := by omega
  clear hl hc
  go_enter Try.func48, Try.ntmps48
  go_wp2
  go_loopw [8] (fun r wr => ∃ j : Nat, r = .int .i64 j ∧ j ≤ l.length ∧ Hid (Below w.heap.size w wr)) (fun r wr => l.length - numAt wr r)
  case atStart => exact ⟨0, rfl, by omega, hid (Below.refl _ _)⟩
  case round =>
    obtain ⟨j, rfl, hj, hb⟩ := hrel
    by_cases hlt : j < l.length
    · have h2 : (j : Int) < (l.length : Int) := by omega
      obtain ⟨pb, po, da, dc, ea, ec, ra, rc, epb, hpb, c0, c1, c2, hbk⟩ := pg_at (HR.out.kept hb.out) hlt
      subst epb
      have HCJ := hid (HC.out j hlt wr hb.out da ea ra dc ec rc hbk)
      clear hbk
      generalize l[j] = x at *
      go_wp2_with fail
      refine HCJ.out.mono ?_
      rintro e w1 ⟨rfl, hb1⟩
      have HB1 := hid (bl_then hb.out hb1)
      go_wp2
      exact ⟨⟨j + 1, by simp, by omega, HB1⟩, by simp [numAt]; omega⟩
    · have h2 : ¬ (j : Int) < (l.length : Int) := by omega
      go_wp2
      go_ret
      exact ⟨rfl, hb.out⟩
theorem conBlock (w : World) (l : List BV) (la : Option Addr) (lc : Nat) (hl : PgR w (.slice la l.length lc) l) (hn : l.length ≤ 100000) (fn : FuncId) (caps : Array Value) (hcf : ∀ (args : Array Value) (W : World), (callFunc fn args).run Try.prog W = .ok (.enter fn args) W) (hc : ∀ (j : Nat) (hj : j < l.length) W, Below w.heap.size w W → ∀ da ea ra dc ec rc, BkR W l[j].k (.slice da l[j].k.dec.length dc) (.slice ea l[j].k.enc.length ec) (.slice ra l[j].k.rows.length rc) → Calls Try.prog fn (#[.agg #[.slice da l[j].k.dec.length dc, .slice ea l[j].k.enc.length ec, .slice ra l[j].k.rows.length rc]] ++ caps) W fun e w' => e = .returned (.bool false) ∧ Below W.heap.size W w') : Calls Try.prog 30 #[.slice la l.length lc, .func (.func fn) #[] caps] w fun e w' => e = .returned (.bool false) ∧ Below w.heap.size w w' := by
  have HI := hid (idxBlock w l la lc hl hn fn caps hcf hc)
  clear hl hc
  go_enter Try.func30, Try.ntmps30
  go_wp2_with fail
  refine HI.out.mono ?_
  rintro e w1 ⟨rfl, hb1⟩
  go_wp2
  go_ret
  exact ⟨rfl, hb1⟩
theorem cfNone (args : Array Value) (W : World) : (callFunc 65 args).run Try.prog W = .ok (.enter 65 args) W := cf_enter Try.func65 (by kernel_rfl) (by kernel_rfl) args W
theorem areSymbolsT (w : World) (l : List LN) (la : Option Addr) (lc : Nat) (hl : RowS w AnyZ 2 (.slice la l.length lc) l.length (l.flatMap cLN)) (hn : 0 < l.length ∧ l.length ≤ 128) (hp : ∀ x ∈ l, 0 ≤ x.tag ∧ x.tag ≤ 2147483647 ∧ x.pl = 0) : Calls Try.prog 51 #[.slice la l.length lc] w fun e w' => e = .returned (.bool true) ∧ Below w.heap.size w w' := by
  have HC : Hid (∀ W, Below w.heap.size w W → Calls Try.prog 66 #[.slice la l.length lc, .func (.func 65) #[] #[]] W fun e w' => e = .returned (.bool false) ∧ Below W.heap.size W w') := hid fun W hW => conLine W l la lc (hl.kept hW) (by omega) _ _ cfNone (fun x hx W' _ => isNoneT W' x (hp x hx))
  have r1 : (0 : Int) < (l.length : Int) := by omega
  have r2 : ((l.length : Int) ≤ 128) = True := eq_true (by omega)
  have r3 : (0 < l.length) = True := eq_true hn.1
  clear hl hp hn
  go_enter Try.func51, Try.ntmps51
  go_wp2_with fail
  refine (HC.out _ (by first | exact Below.refl _ _ | exact blBy)).mono ?_
  rintro e w1 ⟨rfl, hb1⟩
  go_wp2
  go_ret
  exact ⟨rfl, hb1⟩
theorem cfTarget (args : Array Value) (W : World) : (callFunc 71 args).run Try.prog W = .ok (.enter 71 args) W := cf_enter Try.func71 (by kernel_rfl) (by kernel_rfl) args W
theorem areTargetsT (w : World) (la : Option Addr) (lc : Nat) (l : List IN) (da : Option Addr) (dc : Nat) (hr : RowS w AnyZ 2 (.slice la 0 lc) 0 []) (hl : RowS w AnyZ 5 (.slice da l.length dc) l.length (l.flatMap cIN)) (hn : l.length ≤ 100000) (hp : ∀ x ∈ l, x.op ≠ 3) : Calls Try.prog 54 #[.slice la 0 lc, .slice da l.length dc] w fun e w' => e = .returned (.bool true) ∧ Below w.heap.size w w' := by
  have HR := hid hl
  have HP := hid hp
  have n63 : (l.length : Int) ≤ 100000 := by omega
  have HC : Hid (∀ W caps, Below w.heap.size w W → Calls Try.prog 66 #[.slice la 0 lc, .func (.func 71) #[] caps] W fun e w' => e = .returned (.bool false) ∧ Below W.heap.size W w') := hid fun W caps hW => conLine W [] la lc (hr.kept hW) (by simp) _ caps cfTarget (fun x hx => by simp at hx)
  clear hr hl hp
  go_enter Try.func54, Try.ntmps54
  go_wp2_with fail
  go_loopw [11] (fun r wr => ∃ j : Nat, r = .int .i64 j ∧ j ≤ l.length ∧ Hid (Blk wr (w.heap.size + 1) 3 #[.int .i64 0]) ∧ Hid (Below w.heap.size w wr)) (fun r wr => l.length - numAt wr r)
  case atStart => exact ⟨0, rfl, by omega, hid (Blk.newAt (by simp)), hid (by exact blBy)⟩
  case round =>
    obtain ⟨j, rfl, hj, Bl, hb⟩ := hrel
    by_cases hlt : j < l.length
    · have h2 : (j : Int) < (l.length : Int) := by omega
      obtain ⟨pb, po, epb, hc⟩ := rowAt (g := cIN) (fun _ => rfl) (HR.out.kept hb.out) (i := j) (x := l[j]) (by simp [hlt])
      subst epb
      have c0 := hc 0 _ rfl
      have c1 := hc 1 _ rfl
      have c2 := hc 2 _ rfl
      have c3 := hc 3 _ rfl
      have c4 := hc 4 _ rfl
      clear hc
      simp only [Nat.add_zero] at c0
      have hpb : pb < wr.heap.size := World.block_lt_of_cell? _ _ c0
      have hne := HP.out _ (List.getElem_mem hlt)
      generalize l[j] = s at *
      have k3 : (s.op == 3) = false := by simpa using hne
      clear hne
      go_wp2
      exact ⟨⟨j + 1, by simp, by omega, hid (Bl.out.kept (below_alloc _)), hid (bl_alloc hb.out _)⟩, by simp [numAt]; omega⟩
    · have h2 : ¬ (j : Int) < (l.length : Int) := by omega
      have xl := Bl.out.cellF
      have zl := Bl.out.lt
      go_wp2_with fail
      first
        | (refine (HC.out _ _ hb.out).mono ?_
           rintro e w1 ⟨rfl, hb1⟩
           go_wp2
           go_ret
           exact ⟨rfl, bl_then hb.out hb1⟩)
/-- A valid block. -/
structure VB (bs : List BV) (K : BK) : Prop where
  rise : ∀ i j, i < j → ∀ (hj : j < K.rows.length) (hi : i < K.rows.length), K.rows[i].tag < K.rows[j].tag
  len : K.dec.length ≤ 100000 ∧ K.enc.length ≤ 100000 ∧ K.rows.length ≤ 100000
  sort : (K.dec = [] ∧ K.enc = [] ∧ (0 < K.rows.length ∧ K.rows.length ≤ 128) ∧ ∀ x ∈ K.rows, 0 ≤ x.tag ∧ x.tag ≤ 2147483647 ∧ x.pl = 0) ∨ (K.rows = [] ∧ 0 < K.dec.length ∧ 0 < K.enc.length ∧ (∀ i (h : i < K.dec.length), RdP bs K.dec.length i K.dec[i]) ∧ (∃ h : K.dec.length - 1 < K.dec.length, K.dec[K.dec.length - 1].op = 4) ∧ (∀ x ∈ K.dec, x.op ≠ 3) ∧ ∀ i (h : i < K.enc.length), WrP bs K.enc.length i K.enc[i])
theorem hasStepsT (w : World) (da ea ra : Option Addr) (n1 dc n2 ec n3 rc : Nat) (h1 : n1 ≤ 100000) (h2 : n2 ≤ 100000) : Calls Try.prog 50 #[.agg #[.slice da n1 dc, .slice ea n2 ec, .slice ra n3 rc]] w fun e w' => e = .returned (.bool (decide (0 < n1 + n2))) ∧ Below w.heap.size w w' := by
  have r4 : (n1 : Int) + (n2 : Int) ≤ 9223372036854775807 := by omega
  have r5 : (n1 : Int) ≤ 100000 := by omega
  have r6 : (n2 : Int) ≤ 100000 := by omega
  go_enter Try.func50, Try.ntmps50
  go_wp2
  go_ret
  exact ⟨ret_bool (by first | rfl | (by_cases h : 0 < n1 + n2 <;> simp [h] <;> omega)), by exact blBy⟩
theorem isValidT (w : World) (bs : List BV) (ba : Option Addr) (bc : Nat) (hp : PgR w (.slice ba bs.length bc) bs) (K : BK) (hv : VB bs K) (da ea ra : Option Addr) (dc ec rc : Nat) (hk : BkR w K (.slice da K.dec.length dc) (.slice ea K.enc.length ec) (.slice ra K.rows.length rc)) : Calls Try.prog 32 #[.slice ba bs.length bc, .agg #[.slice da K.dec.length dc, .slice ea K.enc.length ec, .slice ra K.rows.length rc]] w fun e w' => e = .returned (.bool true) ∧ Below w.heap.size w w' := by
  have HRI := hid (fun W hW => doRiseP W K.rows ra rc (hk.hr.kept (w' := W) hW) hv.len.2.2 hv.rise)
  rcases hv.sort with ⟨e1, e2, hn, hx⟩ | ⟨e1, h1, h2, h3, h4, h5, h6⟩
  · have HAS := hid (fun W hW => areSymbolsT W K.rows ra rc (hk.hr.kept (w' := W) hW) hn hx)
    obtain ⟨dec, enc, rows⟩ := K
    dsimp only at e1 e2 hn hk HRI HAS ⊢
    subst e1 e2
    have r1 : (rows.length : Int) ≤ 128 := by omega
    clear hk hv hp hx
    dsimp only [List.length_nil] at *
    go_enter Try.func32, Try.ntmps32
    go_wp2_with fail
    refine (HRI.out _ (by exact blBy)).mono ?_
    rintro e w1 ⟨rfl, hb1⟩
    have Bb : Blk w1 w.heap.size 25 #[.slice da 0 dc, .slice ea 0 ec, .slice ra rows.length rc] := (Blk.new _ _ _).kept hb1
    replace hb1 : Hid (Below w.heap.size w w1) := hid (bl_then (by exact blBy) hb1)
    have xb := Bb.cellF
    have zb := Bb.lt
    have HHS := hid (hasStepsT w1 da ea ra 0 dc 0 ec rows.length rc (by omega) (by omega))
    go_wp2_with fail
    refine HHS.out.mono ?_
    rintro e w2 ⟨rfl, hb2⟩
    replace Bb := Bb.kept hb2
    replace hb1 : Hid (Below w.heap.size w w2) := hid (bl_then hb1.out hb2)
    clear xb zb HHS
    have xb := Bb.cellF
    have zb := Bb.lt
    have dd : decide (0 < 0 + 0) = false := rfl
    go_wp2_with fail
    refine (HAS.out _ hb1.out).mono ?_
    rintro e w3 ⟨rfl, hb3⟩
    replace hb3 := hid (bl_then hb1.out hb3)
    go_wp2
    go_ret
    exact ⟨rfl, hb3.out⟩
  · have HD := hid (fun W hW => isDecL W bs ba bc (hp.kept hW) K.dec da dc (hk.hd.kept (w' := W) hW) hv.len.1 h3 h1 h4)
    have HE := hid (fun W hW => isEncL W bs ba bc (hp.kept hW) K.enc ea ec (hk.he.kept (w' := W) hW) hv.len.2.1 h6 h2)
    obtain ⟨dec, enc, rows⟩ := K
    dsimp only at e1 h1 h2 h5 hk HRI HD HE ⊢
    subst e1
    have HTA := hid (fun W hW => areTargetsT W ra rc dec da dc (hk.hr.kept (w' := W) hW) (hk.hd.kept hW) hv.len.1 h5)
    have HHS := hid (fun W => hasStepsT W da ea ra dec.length dc enc.length ec 0 rc hv.len.1 hv.len.2.1)
    have HDE : Hid (decide (0 < dec.length + enc.length) = true) := hid (decide_eq_true (by omega))
    rw [HDE.out] at HHS
    clear hk hv hp h3 h4 h5 h6 h1 h2
    dsimp only [List.length_nil] at *
    go_enter Try.func32, Try.ntmps32
    go_wp2_with fail
    refine (HRI.out _ (by exact blBy)).mono ?_
    rintro e w1 ⟨rfl, hb1⟩
    have Bb : Blk w1 w.heap.size 25 #[.slice da dec.length dc, .slice ea enc.length ec, .slice ra 0 rc] := (Blk.new _ _ _).kept hb1
    replace hb1 : Hid (Below w.heap.size w w1) := hid (bl_then (by exact blBy) hb1)
    have xb := Bb.cellF
    have zb := Bb.lt
    go_wp2_with fail
    refine (HHS.out _).mono ?_
    rintro e w2 ⟨rfl, hb2⟩
    replace Bb := Bb.kept hb2
    have HB : Hid (Below w.heap.size w w2) := hid (bl_then hb1.out hb2)
    clear xb zb hb1 HRI
    have e0 := Bb.cell 0 _ rfl
    have e1 := Bb.cell 1 _ rfl
    have e2 := Bb.cell 2 _ rfl
    simp only [List.getElem_toArray, List.getElem_cons_succ, List.getElem_cons_zero] at e0 e1 e2
    have zz := Bb.lt
    clear Bb
    go_wp2_with (first | (go_at_call 52; refine (HD.out _ (below_trans HB.out (by first | exact Below.refl _ _ | exact below_drew1 _ | exact below_drewN _ _))).mono ?_; rintro e w3 ⟨rfl, hbx⟩; replace e0 := cell_below e0 (below_trans (by first | exact Below.refl _ _ | exact below_drew1 _ | exact below_drewN _ _) hbx); replace e1 := cell_below e1 (below_trans (by first | exact Below.refl _ _ | exact below_drew1 _ | exact below_drewN _ _) hbx); replace e2 := cell_below e2 (below_trans (by first | exact Below.refl _ _ | exact below_drew1 _ | exact below_drewN _ _) hbx); replace HB := hid (below_trans HB.out (below_trans (by first | exact Below.refl _ _ | exact below_drew1 _ | exact below_drewN _ _) hbx)); clear hbx) | (go_at_call 53; refine (HE.out _ (below_trans HB.out (by first | exact Below.refl _ _ | exact below_drew1 _ | exact below_drewN _ _))).mono ?_; rintro e w3 ⟨rfl, hbx⟩; replace e0 := cell_below e0 (below_trans (by first | exact Below.refl _ _ | exact below_drew1 _ | exact below_drewN _ _) hbx); replace e1 := cell_below e1 (below_trans (by first | exact Below.refl _ _ | exact below_drew1 _ | exact below_drewN _ _) hbx); replace e2 := cell_below e2 (below_trans (by first | exact Below.refl _ _ | exact below_drew1 _ | exact below_drewN _ _) hbx); replace HB := hid (below_trans HB.out (below_trans (by first | exact Below.refl _ _ | exact below_drew1 _ | exact below_drewN _ _) hbx)); clear hbx) | (go_at_call 54; refine (HTA.out _ (below_trans HB.out (by first | exact Below.refl _ _ | exact below_drew1 _ | exact below_drewN _ _))).mono ?_; rintro e w3 ⟨rfl, hbx⟩; replace e0 := cell_below e0 (below_trans (by first | exact Below.refl _ _ | exact below_drew1 _ | exact below_drewN _ _) hbx); replace e1 := cell_below e1 (below_trans (by first | exact Below.refl _ _ | exact below_drew1 _ | exact below_drewN _ _) hbx); replace e2 := cell_below e2 (below_trans (by first | exact Below.refl _ _ | exact below_drew1 _ | exact below_drewN _ _) hbx); replace HB := hid (below_trans HB.out (below_trans (by first | exact Below.refl _ _ | exact below_drew1 _ | exact below_drewN _ _) hbx)); clear hbx))
    go_ret
    exact ⟨rfl, HB.out⟩
theorem valid1T (w : World) (bs : List BV) (ba : Option Addr) (bc p : Nat) (hp : PgR w (.slice ba bs.length bc) bs) (hB : Blk w p 61 #[.slice ba bs.length bc]) (K : BK) (hv : VB bs K) (da ea ra : Option Addr) (dc ec rc : Nat) (hk : BkR w K (.slice da K.dec.length dc) (.slice ea K.enc.length ec) (.slice ra K.rows.length rc)) : Calls Try.prog 31 #[.agg #[.slice da K.dec.length dc, .slice ea K.enc.length ec, .slice ra K.rows.length rc], .pointer (some ⟨p, 0, none⟩)] w fun e w' => e = .returned (.bool false) ∧ Below w.heap.size w w' := by
  have HC := hid (fun W hW => isValidT W bs ba bc (hp.kept hW) K hv da ea ra dc ec rc (hk.kept (w' := W) hW))
  have xp := hB.cellF
  have zp := hB.lt
  clear hp hv hk
  generalize K.dec.length = n1 at *
  generalize K.enc.length = n2 at *
  generalize K.rows.length = n3 at *
  go_enter Try.func31, Try.ntmps31
  go_wp2_with fail
  refine (HC.out _ (by exact blBy)).mono ?_
  rintro e w1 ⟨rfl, hb1⟩
  replace hb1 : Hid (Below w.heap.size w w1) := hid (bl_then (by exact blBy) hb1)
  go_wp2
  go_ret
  exact ⟨rfl, hb1.out⟩
theorem cfValid (args : Array Value) (W : World) : (callFunc 31 args).run Try.prog W = .ok (.enter 31 args) W := cf_enter Try.func31 (by kernel_rfl) (by kernel_rfl) args W
theorem validT (w : World) (bs : List BV) (ba : Option Addr) (bc : Nat) (hp : PgR w (.slice ba bs.length bc) bs) (hn : bs.length ≤ 128) (hv : ∀ x ∈ bs, VB bs x.k) : Calls Try.prog 17 #[.agg #[.slice ba bs.length bc]] w fun e w' => e = .returned (.bool true) ∧ Below w.heap.size w w' := by
  have HC : Hid (∀ W p, Below w.heap.size w W → Blk W p 61 #[.slice ba bs.length bc] → Calls Try.prog 30 #[.slice ba bs.length bc, .func (.func 31) #[] #[.pointer (some ⟨p, 0, none⟩)]] W fun e w' => e = .returned (.bool false) ∧ Below W.heap.size W w') := hid fun W p hW hB => conBlock W bs ba bc (hp.kept hW) (by omega) _ _ cfValid (fun j hj W' hW' da ea ra dc ec rc hbk => valid1T W' bs ba bc p ((hp.kept hW).kept hW') (hB.kept hW') _ (hv _ (List.getElem_mem hj)) da ea ra dc ec rc hbk)
  have r1 : ((128 : Int) < (bs.length : Int)) = False := eq_false (by omega)
  have r2 : (bs.length : Int) ≤ 128 := by omega
  clear hp hv
  go_enter Try.func17, Try.ntmps17
  go_wp2_with fail
  refine (HC.out _ _ (by exact blBy) (Blk.newAt (by simp))).mono ?_
  rintro e w1 ⟨rfl, hb1⟩
  replace hb1 : Hid (Below w.heap.size w w1) := hid (bl_then (by exact blBy) hb1)
  go_wp2
  go_ret
  exact ⟨rfl, hb1.out⟩
set_option maxHeartbeats 2000000
def oneK : BK := ⟨[], [], [⟨0, 0⟩]⟩
def lowK : BK := ⟨[insV 1 [], insV 2 [8, 5], insV 5 [2], insV 7 [1], insV 4 [0], insV 2 [16, 9], insV 5 [4], insV 8 [2], insV 4 [0], insV 2 [18, 12], insV 11 [2, 4, 0], insV 4 [0], insV 2 [26, 15], insV 10 [3, 1, 0], insV 4 [0], insV 13 [], insV 4 [0]], [insV 16 [1, 3, 2], insV 17 [8], insV 18 [2], insV 16 [2, 5, 0], insV 21 [18, 4], insV 16 [3, 8, 0], insV 17 [26], insV 19 [1], insV 23 [], insV 24 []], []⟩
def twoV (d0 e0 r0 d1 e1 r1 : Value) : List BV := [⟨oneK, d0, e0, r0⟩, ⟨lowK, d1, e1, r1⟩]
theorem vbOne (bs : List BV) : VB bs oneK := ⟨fun i j h hj hi => by simp [oneK] at hj; omega, by decide, .inl ⟨rfl, rfl, by decide, by decide⟩⟩
theorem msTwo (d0 e0 r0 d1 e1 r1 : Value) : MsAt (twoV d0 e0 r0 d1 e1 r1) 1 := ⟨(show 1 < 2 by decide), (show 0 < lowK.dec.length by decide), (show lowK.dec.length ≤ 100000 by decide), (show lowK.enc.length ≤ 100000 by decide)⟩
theorem lowRd (d0 e0 r0 d1 e1 r1 : Value) : ∀ i (h : i < lowK.dec.length), RdP (twoV d0 e0 r0 d1 e1 r1) lowK.dec.length i lowK.dec[i] := by
  intro i h
  have h17 : i < 17 := h
  match i, h17, h with
  | 0, _, h => exact .inl ⟨rfl, rfl⟩
  | 1, _, h => exact .inr ⟨by decide, .inr (.inr (.inl ⟨8, 5, 1, 0, rfl, ⟨rfl, by decide, by decide⟩, by decide, by decide⟩))⟩
  | 2, _, h => exact .inr ⟨by decide, .inr (.inr (.inr (.inl ⟨2, rfl, by decide, by decide⟩)))⟩
  | 3, _, h => exact .inr ⟨by decide, .inr (.inr (.inr (.inr (.inr (.inl ⟨1, 7, rfl, by unfold FdOk; decide, by decide⟩)))))⟩
  | 4, _, h => exact .inr ⟨by decide, .inr (.inl rfl)⟩
  | 5, _, h => exact .inr ⟨by decide, .inr (.inr (.inl ⟨16, 9, 2, 0, rfl, ⟨rfl, by decide, by decide⟩, by decide, by decide⟩))⟩
  | 6, _, h => exact .inr ⟨by decide, .inr (.inr (.inr (.inl ⟨4, rfl, by decide, by decide⟩)))⟩
  | 7, _, h => exact .inr ⟨by decide, .inr (.inr (.inr (.inr (.inr (.inl ⟨2, 8, rfl, by unfold FdOk; decide, by decide⟩)))))⟩
  | 8, _, h => exact .inr ⟨by decide, .inr (.inl rfl)⟩
  | 9, _, h => exact .inr ⟨by decide, .inr (.inr (.inl ⟨18, 12, 2, 2, rfl, ⟨rfl, by decide, by decide⟩, by decide, by decide⟩))⟩
  | 10, _, h => exact .inr ⟨by decide, .inr (.inr (.inr (.inr (.inr (.inr (.inr (.inl ⟨2, 4, 0, rfl, by unfold FdOk; decide, by decide, by decide, .inr ⟨by decide, rfl⟩⟩)))))))⟩
  | 11, _, h => exact .inr ⟨by decide, .inr (.inl rfl)⟩
  | 12, _, h => exact .inr ⟨by decide, .inr (.inr (.inl ⟨26, 15, 3, 2, rfl, ⟨rfl, by decide, by decide⟩, by decide, by decide⟩))⟩
  | 13, _, h => exact .inr ⟨by decide, .inr (.inr (.inr (.inr (.inr (.inr (.inl ⟨3, 0, 1, rfl, by unfold FdOk; decide, msTwo _ _ _ _ _ _, by decide⟩))))))⟩
  | 14, _, h => exact .inr ⟨by decide, .inr (.inl rfl)⟩
  | 15, _, h => exact .inr ⟨by decide, .inl rfl⟩
  | 16, _, h => exact .inr ⟨by decide, .inr (.inl rfl)⟩
  | n + 17, h17, _ => exact absurd h17 (by omega)
theorem lowWr (d0 e0 r0 d1 e1 r1 : Value) : ∀ i (h : i < lowK.enc.length), WrP (twoV d0 e0 r0 d1 e1 r1) lowK.enc.length i lowK.enc[i] := by
  intro i h
  have h10 : i < 10 := h
  match i, h10, h with
  | 0, _, h => exact .inr ⟨by decide, .inr (.inl ⟨1, 3, 2, rfl, by unfold FdOk; decide, by decide, by decide⟩)⟩
  | 1, _, h => exact .inr ⟨by decide, .inr (.inr (.inl ⟨8, 1, 0, rfl, ⟨rfl, by decide, by decide⟩⟩))⟩
  | 2, _, h => exact .inr ⟨by decide, .inr (.inr (.inr (.inl ⟨2, rfl, by decide, by decide⟩)))⟩
  | 3, _, h => exact .inr ⟨by decide, .inr (.inl ⟨2, 5, 0, rfl, by unfold FdOk; decide, by decide, by decide⟩)⟩
  | 4, _, h => exact .inr ⟨by decide, .inr (.inr (.inr (.inr (.inr (.inr (.inl ⟨18, 4, 2, 2, rfl, ⟨rfl, by decide, by decide⟩, by decide⟩))))))⟩
  | 5, _, h => exact .inr ⟨by decide, .inr (.inl ⟨3, 8, 0, rfl, by unfold FdOk; decide, by decide, by decide⟩)⟩
  | 6, _, h => exact .inr ⟨by decide, .inr (.inr (.inl ⟨26, 3, 2, rfl, ⟨rfl, by decide, by decide⟩⟩))⟩
  | 7, _, h => exact .inr ⟨by decide, .inr (.inr (.inr (.inr (.inl ⟨1, rfl, msTwo _ _ _ _ _ _⟩))))⟩
  | 8, _, h => exact .inr ⟨by decide, .inl rfl⟩
  | 9, _, h => exact .inl ⟨rfl, rfl⟩
  | n + 10, h10, _ => exact absurd h10 (by omega)
theorem vbLow (d0 e0 r0 d1 e1 r1 : Value) : VB (twoV d0 e0 r0 d1 e1 r1) lowK := ⟨fun i j h hj hi => absurd hj (Nat.not_lt_zero _), (show lowK.dec.length ≤ 100000 ∧ lowK.enc.length ≤ 100000 ∧ lowK.rows.length ≤ 100000 by decide), .inr ⟨rfl, (show 0 < lowK.dec.length by decide), (show 0 < lowK.enc.length by decide), lowRd d0 e0 r0 d1 e1 r1, ⟨(show lowK.dec.length - 1 < lowK.dec.length by decide), rfl⟩, (show ∀ x ∈ lowK.dec, x.op ≠ 3 by decide), lowWr d0 e0 r0 d1 e1 r1⟩⟩
theorem vbTwo (d0 e0 r0 d1 e1 r1 : Value) : ∀ x ∈ twoV d0 e0 r0 d1 e1 r1, VB (twoV d0 e0 r0 d1 e1 r1) x.k := by
  intro x hx
  unfold twoV at hx
  simp only [List.mem_cons, List.not_mem_nil, or_false] at hx
  rcases hx with rfl | rfl
  · exact vbOne _
  · exact vbLow d0 e0 r0 d1 e1 r1
theorem loweredT (w : World) : Calls Try.prog 6 #[] w fun e w' => ∃ h1 h2 : Nat, e = .returned (.agg #[.slice (some ⟨h1, 0, none⟩) 17 17, .slice (some ⟨h2, 0, none⟩) 10 10, .slice none 0 0]) ∧ BkR w' lowK (.slice (some ⟨h1, 0, none⟩) 17 17) (.slice (some ⟨h2, 0, none⟩) 10 10) (.slice none 0 0) ∧ Below w.heap.size w w' := by
  go_enter Try.func6, Try.ntmps6
  go_wp2
  refine bodyPost_ret (v := .agg #[.slice (some ⟨w.heap.size + 1, 0, none⟩) 17 17, .slice (some ⟨w.heap.size + 1 + 1, 0, none⟩) 10 10, .slice none 0 0]) (by simp [results, Try.results6, go_sem]) rfl ?_
  refine ⟨_, _, rfl, ⟨?_, ?_, rowS_nil _ _ _⟩, by exact blBy⟩
  · refine rowOf' (t := 42) (cs := #[.int .i64 1, .int .i64 0, .int .i64 0, .int .i64 0, .int .i64 0, .int .i64 2, .int .i64 8, .int .i64 5, .int .i64 0, .int .i64 0, .int .i64 5, .int .i64 2, .int .i64 0, .int .i64 0, .int .i64 0, .int .i64 7, .int .i64 1, .int .i64 0, .int .i64 0, .int .i64 0, .int .i64 4, .int .i64 0, .int .i64 0, .int .i64 0, .int .i64 0, .int .i64 2, .int .i64 16, .int .i64 9, .int .i64 0, .int .i64 0, .int .i64 5, .int .i64 4, .int .i64 0, .int .i64 0, .int .i64 0, .int .i64 8, .int .i64 2, .int .i64 0, .int .i64 0, .int .i64 0, .int .i64 4, .int .i64 0, .int .i64 0, .int .i64 0, .int .i64 0, .int .i64 2, .int .i64 18, .int .i64 12, .int .i64 0, .int .i64 0, .int .i64 11, .int .i64 2, .int .i64 4, .int .i64 0, .int .i64 0, .int .i64 4, .int .i64 0, .int .i64 0, .int .i64 0, .int .i64 0, .int .i64 2, .int .i64 26, .int .i64 15, .int .i64 0, .int .i64 0, .int .i64 10, .int .i64 3, .int .i64 1, .int .i64 0, .int .i64 0, .int .i64 4, .int .i64 0, .int .i64 0, .int .i64 0, .int .i64 0, .int .i64 13, .int .i64 0, .int .i64 0, .int .i64 0, .int .i64 0, .int .i64 4, .int .i64 0, .int .i64 0, .int .i64 0, .int .i64 0]) ?_ 5 17 (lowK.dec.flatMap cIN) (by kernel_rfl) (by kernel_rfl) (by decide)
    exact (Blk.newAt (by simp)).kept (below_alloc _)
  · refine rowOf' (t := 42) (cs := #[.int .i64 16, .int .i64 1, .int .i64 3, .int .i64 2, .int .i64 0, .int .i64 17, .int .i64 8, .int .i64 0, .int .i64 0, .int .i64 0, .int .i64 18, .int .i64 2, .int .i64 0, .int .i64 0, .int .i64 0, .int .i64 16, .int .i64 2, .int .i64 5, .int .i64 0, .int .i64 0, .int .i64 21, .int .i64 18, .int .i64 4, .int .i64 0, .int .i64 0, .int .i64 16, .int .i64 3, .int .i64 8, .int .i64 0, .int .i64 0, .int .i64 17, .int .i64 26, .int .i64 0, .int .i64 0, .int .i64 0, .int .i64 19, .int .i64 1, .int .i64 0, .int .i64 0, .int .i64 0, .int .i64 23, .int .i64 0, .int .i64 0, .int .i64 0, .int .i64 0, .int .i64 24, .int .i64 0, .int .i64 0, .int .i64 0, .int .i64 0]) ?_ 5 10 (lowK.enc.flatMap cIN) (by kernel_rfl) (by kernel_rfl) (by decide)
    exact Blk.newAt (by simp)
def betK : BK := ⟨[insV 1 [], insV 3 [10], insV 14 [2, 1], insV 4 [0], insV 15 [4, 2], insV 4 [0], insV 11 [2, 4, 0], insV 4 [0], insV 10 [3, 1, 0], insV 4 [0], insV 13 [], insV 4 [0]], [insV 16 [1, 2, 2], insV 25 [8, 2], insV 16 [2, 4, 0], insV 21 [18, 4], insV 16 [3, 7, 0], insV 17 [26], insV 19 [1], insV 23 [], insV 24 []], [⟨8, 2⟩, ⟨16, 4⟩, ⟨18, 6⟩, ⟨26, 8⟩]⟩
theorem bo_low : boB lowK = betK := by kernel_rfl
theorem bo_one : boB oneK = oneK := by kernel_rfl
theorem tr_one : trB oneK = oneK := by kernel_rfl
theorem betterT (w : World) : Calls Try.prog 14 #[] w fun e w' => ∃ h1 h2 h3 : Nat, e = .returned (.agg #[.slice (some ⟨h1, 0, none⟩) 12 12, .slice (some ⟨h2, 0, none⟩) 9 9, .slice (some ⟨h3, 0, none⟩) 4 4]) ∧ BkR w' betK (.slice (some ⟨h1, 0, none⟩) 12 12) (.slice (some ⟨h2, 0, none⟩) 9 9) (.slice (some ⟨h3, 0, none⟩) 4 4) ∧ Below w.heap.size w w' := by
  go_enter Try.func14, Try.ntmps14
  go_wp2
  refine bodyPost_ret (v := .agg #[.slice (some ⟨w.heap.size + 1, 0, none⟩) 12 12, .slice (some ⟨w.heap.size + 1 + 1, 0, none⟩) 9 9, .slice (some ⟨w.heap.size + 1 + 1 + 1, 0, none⟩) 4 4]) (by simp [results, Try.results14, go_sem]) rfl ?_
  refine ⟨_, _, _, rfl, ⟨?_, ?_, ?_⟩, by exact blBy⟩
  · refine rowOf' (t := 42) (cs := #[.int .i64 1, .int .i64 0, .int .i64 0, .int .i64 0, .int .i64 0, .int .i64 3, .int .i64 10, .int .i64 0, .int .i64 0, .int .i64 0, .int .i64 14, .int .i64 2, .int .i64 1, .int .i64 0, .int .i64 0, .int .i64 4, .int .i64 0, .int .i64 0, .int .i64 0, .int .i64 0, .int .i64 15, .int .i64 4, .int .i64 2, .int .i64 0, .int .i64 0, .int .i64 4, .int .i64 0, .int .i64 0, .int .i64 0, .int .i64 0, .int .i64 11, .int .i64 2, .int .i64 4, .int .i64 0, .int .i64 0, .int .i64 4, .int .i64 0, .int .i64 0, .int .i64 0, .int .i64 0, .int .i64 10, .int .i64 3, .int .i64 1, .int .i64 0, .int .i64 0, .int .i64 4, .int .i64 0, .int .i64 0, .int .i64 0, .int .i64 0, .int .i64 13, .int .i64 0, .int .i64 0, .int .i64 0, .int .i64 0, .int .i64 4, .int .i64 0, .int .i64 0, .int .i64 0, .int .i64 0]) ?_ 5 12 (betK.dec.flatMap cIN) (by kernel_rfl) (by kernel_rfl) (by decide)
    exact ((Blk.newAt (by simp)).kept (below_alloc _)).kept (below_alloc _)
  · refine rowOf' (t := 42) (cs := #[.int .i64 16, .int .i64 1, .int .i64 2, .int .i64 2, .int .i64 0, .int .i64 25, .int .i64 8, .int .i64 2, .int .i64 0, .int .i64 0, .int .i64 16, .int .i64 2, .int .i64 4, .int .i64 0, .int .i64 0, .int .i64 21, .int .i64 18, .int .i64 4, .int .i64 0, .int .i64 0, .int .i64 16, .int .i64 3, .int .i64 7, .int .i64 0, .int .i64 0, .int .i64 17, .int .i64 26, .int .i64 0, .int .i64 0, .int .i64 0, .int .i64 19, .int .i64 1, .int .i64 0, .int .i64 0, .int .i64 0, .int .i64 23, .int .i64 0, .int .i64 0, .int .i64 0, .int .i64 0, .int .i64 24, .int .i64 0, .int .i64 0, .int .i64 0, .int .i64 0]) ?_ 5 9 (betK.enc.flatMap cIN) (by kernel_rfl) (by kernel_rfl) (by decide)
    exact (Blk.newAt (by simp)).kept (below_alloc _)
  · refine rowOf' (t := 28) (cs := #[.int .i64 8, .int .i64 2, .int .i64 16, .int .i64 4, .int .i64 18, .int .i64 6, .int .i64 26, .int .i64 8]) ?_ 2 4 (betK.rows.flatMap cLN) (by kernel_rfl) (by kernel_rfl) (by decide)
    exact Blk.newAt (by simp)
theorem sameT14 (w : World) (K : BK) (aa ba ca da ea fa : Option Addr) (ac bc cc dc ec fc : Nat) (hA : BkR w K (.slice aa K.dec.length ac) (.slice ba K.enc.length bc) (.slice ca K.rows.length cc)) (hB : BkR w K (.slice da K.dec.length dc) (.slice ea K.enc.length ec) (.slice fa K.rows.length fc)) : Calls Try.prog 9 #[.agg #[.slice aa K.dec.length ac, .slice ba K.enc.length bc, .slice ca K.rows.length cc], .agg #[.slice da K.dec.length dc, .slice ea K.enc.length ec, .slice fa K.rows.length fc]] w fun e w' => e = .returned (.bool true) ∧ Below w.heap.size w w' := by
  have HC := hid fun W (hW : Below w.heap.size w W) => sameBlockD W K K aa ba ca da ea fa ac bc cc dc ec fc (hA.kept hW) (hB.kept hW)
  clear hA hB
  go_enter Try.func9, Try.ntmps9
  go_wp2_with fail
  refine (HC.out _ (by exact blBy)).mono ?_
  rintro e u ⟨r, rfl, hr, hb⟩
  obtain rfl : r = true := by simpa using hr
  have HB : Hid (Below w.heap.size w u) := hid (bl_then (by exact blBy) hb)
  clear hr hb
  go_wp2
  go_ret
  exact ⟨rfl, HB.out⟩
theorem sm_low : bkSm lowK := by unfold bkSm; decide
theorem in_ins {l : List IN} (h : ∀ x ∈ l, (-9223372036854775808 ≤ x.op ∧ x.op ≤ 9223372036854775807) ∧ (-9223372036854775808 ≤ x.a ∧ x.a ≤ 9223372036854775807) ∧ (-9223372036854775808 ≤ x.b ∧ x.b ≤ 9223372036854775807) ∧ (-9223372036854775808 ≤ x.c ∧ x.c ≤ 9223372036854775807) ∧ (-9223372036854775808 ≤ x.d ∧ x.d ≤ 9223372036854775807)) : ∀ x ∈ l, inI x := h
theorem in_low : kI lowK := ⟨in_ins (by decide), in_ins (by decide), fun x hx => by cases hx⟩
theorem ok_low : tbC lowK → RiseT (chA lowK.dec).1 ∧ (chA lowK.dec).1.length < 20 := fun _ => by
  have e : (chA lowK.dec).1 = [⟨8, 2⟩, ⟨16, 6⟩, ⟨18, 10⟩, ⟨26, 13⟩] := by kernel_rfl
  rw [e]
  refine ⟨fun i j hij x y hx hy => ?_, by decide⟩
  have hj : j < 4 := (List.getElem?_eq_some_iff.1 hy).1
  have : ∀ j < 4, ∀ i < j, ∀ x y : LN, ([⟨8, 2⟩, ⟨16, 6⟩, ⟨18, 10⟩, ⟨26, 13⟩] : List LN)[i]? = some x → ([⟨8, 2⟩, ⟨16, 6⟩, ⟨18, 10⟩, ⟨26, 13⟩] : List LN)[j]? = some y → x.tag < y.tag := by
    intro j hj i hi x y h1 h2
    match j, hj, i, hi with
    | 1, _, 0, _ => cases h1; cases h2; decide
    | 2, _, 0, _ => cases h1; cases h2; decide
    | 2, _, 1, _ => cases h1; cases h2; decide
    | 3, _, 0, _ => cases h1; cases h2; decide
    | 3, _, 1, _ => cases h1; cases h2; decide
    | 3, _, 2, _ => cases h1; cases h2; decide
  exact this j hj i hij x y hx hy
theorem blockLow (w : World) (h1 h2 : Nat) (h : BkR w lowK (.slice (some ⟨h1, 0, none⟩) 17 17) (.slice (some ⟨h2, 0, none⟩) 10 10) (.slice none 0 0)) : Calls Try.prog 15 #[.agg #[.slice (some ⟨h1, 0, none⟩) 17 17, .slice (some ⟨h2, 0, none⟩) 10 10, .slice none 0 0]] w (BlkA w betK) := by
  have q := blockT w lowK (some ⟨h1, 0, none⟩) (some ⟨h2, 0, none⟩) none 17 10 0 h sm_low in_low ok_low
  rw [bo_low] at q
  exact q
theorem awakeW14 (w : World) : Calls Try.prog 8 #[] w fun e w' => e = .returned (.bool true) ∧ Below w.heap.size w w' := by
  go_enter Try.func8, Try.ntmps8
  go_wp2_with fail
  refine (loweredT w).mono ?_
  rintro e u ⟨h1, h2, rfl, hk, hb⟩
  have HB := hid hb
  have HK := hid hk
  clear hk hb
  go_wp2_with fail
  refine (blockLow u h1 h2 HK.out).mono ?_
  rintro e u2 ⟨da, dc, ea, ec, ra, rc, rfl, hk2, hb2⟩
  replace HB := hid (below_trans HB.out hb2)
  have HK2 := hid hk2.row
  clear hk2 hb2 HK
  go_wp2_with fail
  refine (betterT u2).mono ?_
  rintro e u3 ⟨g1, g2, g3, rfl, hk3, hb3⟩
  replace HB := hid (below_trans HB.out hb3)
  replace HK2 := hid (HK2.out.kept hb3)
  have HK3 := hid hk3
  clear hk3 hb3
  go_wp2_with fail
  refine (sameT14 u3 betK da ea ra (some ⟨g1, 0, none⟩) (some ⟨g2, 0, none⟩) (some ⟨g3, 0, none⟩) dc ec rc 12 9 4 HK2.out HK3.out).mono ?_
  rintro e u4 ⟨rfl, hb4⟩
  replace HB := hid (below_trans HB.out hb4)
  clear hb4 HK2 HK3
  go_wp2
  go_ret
  exact ⟨rfl, HB.out⟩
end Go.Proofs.Ytliohglpbmpbhaa
