/-
  The program's: are steps those that read, or write? Both ways.
  The program's: are steps those that read, or write? Both ways.
  The document's: the writing steps of a block.
  The document's: the reading steps of a block.
  The document's: is a program one?
  The program's: are rows those of the Jumps? Both ways.
  What the program asks of a block, and what the document asks of it, are one.
  The program's: is a block one? Is a program one? Both ways.
  code: the operations.
  code: an operation by its number; a step's numbers.
-/
import Derived.Test.YtpndejibjiojbaaDoorCVP3i
import Derived.Test.YtpndejibjiojbaaDoorCKC
import Derived.Deep.WholeRow
namespace Go.Proofs.YtpndejibjiojbaaDoor
open Go.RowKit
set_option maxRecDepth 1000000
set_option linter.unusedVariables false
set_option linter.unusedSimpArgs false
set_option maxHeartbeats 4000000
def DcP (bs : List BV) (l : List IN) : Prop := (∀ i (h : i < l.length), (l[i].op = 1 ↔ i = 0) ∧ rdI bs (ahI l.length i) l[i] = true) ∧ ∃ h : l.length - 1 < l.length, l[l.length - 1].op = 4
def EcP (bs : List BV) (l : List IN) : Prop := (∀ i (h : i < l.length), (l[i].op = 24 ↔ i + 1 = l.length) ∧ wrI' bs (ahI l.length i) l[i] = true) ∧ 0 < l.length
theorem isDecB (w : World) (bs : List BV) (ba : Option Addr) (bc : Nat) (hp : PgR w (.slice ba bs.length bc) bs) (hz : ∀ x ∈ bs, x.k.dec.length ≤ 140737488355328 ∧ x.k.enc.length ≤ 140737488355328) (l : List IN) (la : Option Addr) (lc : Nat) (hl : RowS w AnyZ 5 (.slice la l.length lc) l.length (l.flatMap cIN)) (hn : l.length ≤ 140737488355328) (hI : ∀ s ∈ l, I5 s) : Calls Tryd.prog 33 #[.slice ba bs.length bc, .slice la l.length lc] w (EqA w (DcP bs l)) := by
  have HR := hid hl
  have HG := hid hp
  have HZ := hid hz
  have HI := hid hI
  have HN := hid hn
  have n63 : (l.length : Int) ≤ 140737488355328 := by omega
  clear hl hp hz hI
  go_enter Tryd.func33, Tryd.ntmps33
  go_wp2_with fail
  go_loopw [10] (fun r wr => ∃ j : Nat, r = .int .i64 j ∧ j ≤ l.length ∧ Hid (∀ i (h : i < l.length), i < j → (l[i].op = 1 ↔ i = 0) ∧ rdI bs (ahI l.length i) l[i] = true) ∧ Hid (Blk wr w.heap.size 32 #[.slice la l.length lc]) ∧ Hid (Below w.heap.size w wr)) (fun r wr => l.length - numAt wr r)
  case atStart => exact ⟨0, rfl, by omega, hid (fun i h hi => by omega), hid (Blk.new _ _ _), hid (by exact blBy)⟩
  case round =>
    obtain ⟨j, rfl, hj, HS, Bl, hb⟩ := hrel
    have xl := Bl.out.cellF
    have zl := Bl.out.lt
    by_cases hlt : j < l.length
    · have h2 : (j : Int) < (l.length : Int) := by omega
      obtain ⟨pb, po, epb, hc⟩ := rowAt (g := cIN) (fun _ => rfl) (HR.out.kept hb.out) (i := j) (x := l[j]) (by simp [hlt])
      subst epb
      have c0 := hc 0 _ rfl
      have c1 := hc 1 _ rfl
      have c2 := hc 2 _ rfl
      have c3 := hc 3 _ rfl
      have c4 := hc 4 _ rfl
      clear hc
      simp only [Nat.add_zero] at c0
      have hpb : pb < wr.heap.size := World.block_lt_of_cell? _ _ c0
      have HIJ := hid (HI.out _ (List.getElem_mem hlt))
      have HNX : Hid ((l[j].op = 1 ↔ j = 0) → rdI bs (ahI l.length j) l[j] = true → ∀ i (h : i < l.length), i < j + 1 → (l[i].op = 1 ↔ i = 0) ∧ rdI bs (ahI l.length i) l[i] = true) := hid (fun ht hr i h hi => by
        by_cases e : i = j
        · subst e; exact ⟨ht, hr⟩
        · exact HS.out i h (by omega))
      have HNO : Hid (¬ ((l[j].op = 1 ↔ j = 0) ∧ rdI bs (ahI l.length j) l[j] = true) → ¬ DcP bs l) := hid (fun ht hp => ht (hp.1 j hlt))
      have HTP : Hid (((j : Int) == 0) = decide (j = 0)) := hid (by rw [Bool.eq_iff_iff]; simp <;> omega)
      clear HS
      generalize l[j] = s at *
      have HOP : Hid ((s.op == 1) = decide (s.op = 1)) := hid (by rw [Bool.eq_iff_iff]; simp)
      have HCA : Hid (∀ W tg, Below wr.heap.size ((wr.alloc (.cells #[.int .i64 j] 3)).alloc (.cells #[.int .i64 s.op, .int .i64 s.a, .int .i64 s.b, .int .i64 s.c, .int .i64 s.d] 37)) W → Blk W wr.heap.size 3 #[.int .i64 j] → Blk W w.heap.size 32 #[.slice (some ⟨pb, po, none⟩) l.length lc] → Calls Tryd.prog 49 (#[.int .i64 tg] ++ #[.pointer (some ⟨wr.heap.size, 0, none⟩), .pointer (some ⟨w.heap.size, 0, none⟩)]) W (BoA W (ahI l.length j tg))) := hid fun W tg _ q1 q2 => isDecP W wr.heap.size w.heap.size j l.length _ lc tg q1 q2 HN.out
      have Bj : Blk ((wr.alloc (.cells #[.int .i64 j] 3)).alloc (.cells #[.int .i64 s.op, .int .i64 s.a, .int .i64 s.b, .int .i64 s.c, .int .i64 s.d] 37)) wr.heap.size 3 #[.int .i64 j] := (Blk.new _ _ _).kept (below_alloc _)
      have Bl2 : Blk ((wr.alloc (.cells #[.int .i64 j] 3)).alloc (.cells #[.int .i64 s.op, .int .i64 s.a, .int .i64 s.b, .int .i64 s.c, .int .i64 s.d] 37)) w.heap.size 32 #[.slice (some ⟨pb, po, none⟩) l.length lc] := (Bl.out.kept (below_alloc _)).kept (below_alloc _)
      have HC := hid (isReadingP _ bs ba bc (HG.out.kept (show Below w.heap.size w ((wr.alloc (.cells #[.int .i64 j] 3)).alloc (.cells #[.int .i64 s.op, .int .i64 s.a, .int .i64 s.b, .int .i64 s.c, .int .i64 s.d] 37)) from bl_alloc (bl_alloc hb.out _) _)) HZ.out #[.pointer (some ⟨wr.heap.size, 0, none⟩), .pointer (some ⟨w.heap.size, 0, none⟩)] (ahI l.length j) (fun tg W hW => HCA.out W tg (hW.mono (by simp; omega)) (Bj.kept hW) (Bl2.kept hW)) s HIJ.out)
      replace Bl2 := hid Bl2
      clear Bj HCA
      by_cases kk : (s.op = 1 ↔ j = 0)
      · obtain ⟨cc, kq1, kq2⟩ : ∃ cc : Bool, (s.op == 1) = cc ∧ ((j : Int) == 0) = cc := ⟨decide (s.op = 1), HOP.out, by rw [HTP.out]; exact decide_eq_decide.2 kk.symm⟩
        replace kk := hid kk
        cases hrd : rdI bs (ahI l.length j) s with
        | false =>
          rw [hrd] at HC
          have HF := hid (HNO.out (fun h => by rw [hrd] at h; cases h.2))
          clear HNX HNO HTP HOP hrd kk
          cases cc <;>
          · go_wp2_with fail
            refine HC.out.mono ?_
            rintro e w1 ⟨rfl, hb1⟩
            have HB1 := hid (bl_then (bl_alloc (bl_alloc hb.out _) _) hb1)
            go_wp2
            go_ret
            exact EqA.no HF.out HB1.out
        | true =>
          rw [hrd] at HC
          have HS2 := hid (HNX.out kk.out hrd)
          clear HNX HNO HTP HOP hrd kk
          cases cc <;>
          · go_wp2_with fail
            refine HC.out.mono ?_
            rintro e w1 ⟨rfl, hb1⟩
            have Bl3 := hid (Bl2.out.kept hb1)
            have HB1 := hid (bl_then (bl_alloc (bl_alloc hb.out _) _) hb1)
            go_wp2
            exact ⟨⟨j + 1, by simp, by omega, HS2, Bl3, HB1⟩, by simp [numAt]; omega⟩
      · obtain ⟨cc, kq1, kq2⟩ : ∃ cc : Bool, (s.op == 1) = cc ∧ ((j : Int) == 0) = !cc := ⟨decide (s.op = 1), HOP.out, by
          rw [HTP.out, Bool.eq_iff_iff]
          by_cases a1 : s.op = 1 <;> by_cases a2 : j = 0 <;> simp_all⟩
        have HF := hid (HNO.out (fun h => kk h.1))
        have HB1 : Hid (Below w.heap.size w ((wr.alloc (.cells #[.int .i64 j] 3)).alloc (.cells #[.int .i64 s.op, .int .i64 s.a, .int .i64 s.b, .int .i64 s.c, .int .i64 s.d] 37))) := hid (bl_alloc (bl_alloc hb.out _) _)
        clear HNX HNO HTP HOP kk HC
        cases cc <;>
        · (try simp only [Bool.not_true, Bool.not_false] at kq2)
          go_wp2
          go_ret
          exact EqA.no HF.out HB1.out
    · have h2 : ¬ (j : Int) < (l.length : Int) := by omega
      by_cases h0 : 0 < l.length
      · have n0 : (0 : Int) < (l.length : Int) := by omega
        have hl1 : l.length - 1 < l.length := by omega
        obtain ⟨n2, en2⟩ : ∃ n2, n2 = l.length - 1 := ⟨_, rfl⟩
        have k4 : (l.length : Int) - 1 = (n2 : Int) := by omega
        have k5 : (n2 : Int) < (l.length : Int) := by omega
        obtain ⟨pb, po, epb, hc⟩ := rowAt (g := cIN) (fun _ => rfl) (HR.out.kept hb.out) (i := n2) (x := l[l.length - 1]) (by rw [en2]; simp [hl1])
        subst epb
        have c0 := hc 0 _ rfl
        clear hc en2
        simp only [Nat.add_zero] at c0
        have HE : Hid (l[l.length - 1].op = 4 → DcP bs l) := hid (fun h => ⟨fun i hi => HS.out i hi (by omega), hl1, h⟩)
        have HF : Hid (¬ l[l.length - 1].op = 4 → ¬ DcP bs l) := hid (fun h hp => h hp.2.2)
        have hpb : pb < wr.heap.size := World.block_lt_of_cell? _ _ c0
        have w64 : IntKind.i64.wrap (n2 : Int) = (n2 : Int) := wraps_i64 _ (by omega) (by omega)
        clear HS
        generalize l[l.length - 1].op = o at *
        replace h0 := hid h0
        by_cases ho : o = 4
        · subst ho
          replace HE := hid (HE.out rfl)
          clear HF
          go_wp2
          first
            | (go_ret; exact EqA.yes HE.out hb.out)
            | (go_quiet (fail); go_wp2; go_ret; exact EqA.yes HE.out (by have := hb.out; first | exact bl_drewN this _ | exact this))
        · have ko : (o == 4) = false := by simpa using ho
          replace HF := hid (HF.out ho)
          clear HE ho
          go_wp2
          first
            | (go_ret; exact EqA.no HF.out hb.out)
            | (go_quiet (fail); go_wp2; go_ret; exact EqA.no HF.out (by have := hb.out; first | exact bl_drewN this _ | exact this))
      · have n0 : ((0 : Int) < (l.length : Int)) = False := eq_false (by omega)
        have n1 : (0 < l.length) = False := eq_false h0
        have HF : Hid (¬ DcP bs l) := hid (fun hp => by have := hp.2.1; omega)
        replace h0 := hid h0
        clear HS
        go_wp2
        first
          | (go_ret; exact EqA.no HF.out hb.out)
          | (go_quiet (fail); go_wp2; go_ret; exact EqA.no HF.out (by have := hb.out; first | exact bl_drewN this _ | exact this))
theorem isEncB (w : World) (bs : List BV) (ba : Option Addr) (bc : Nat) (hp : PgR w (.slice ba bs.length bc) bs) (hz : ∀ x ∈ bs, x.k.dec.length ≤ 140737488355328 ∧ x.k.enc.length ≤ 140737488355328) (l : List IN) (la : Option Addr) (lc : Nat) (hl : RowS w AnyZ 5 (.slice la l.length lc) l.length (l.flatMap cIN)) (hn : l.length ≤ 140737488355328) (hI : ∀ s ∈ l, I5 s) : Calls Tryd.prog 34 #[.slice ba bs.length bc, .slice la l.length lc] w (EqA w (EcP bs l)) := by
  have HR := hid hl
  have HG := hid hp
  have HZ := hid hz
  have HI := hid hI
  have HN := hid hn
  have n63 : (l.length : Int) ≤ 140737488355328 := by omega
  clear hl hp hz hI
  go_enter Tryd.func34, Tryd.ntmps34
  go_wp2_with fail
  go_loopw [10] (fun r wr => ∃ j : Nat, r = .int .i64 j ∧ j ≤ l.length ∧ Hid (∀ i (h : i < l.length), i < j → (l[i].op = 24 ↔ i + 1 = l.length) ∧ wrI' bs (ahI l.length i) l[i] = true) ∧ Hid (Blk wr w.heap.size 32 #[.slice la l.length lc]) ∧ Hid (Below w.heap.size w wr)) (fun r wr => l.length - numAt wr r)
  case atStart => exact ⟨0, rfl, by omega, hid (fun i h hi => by omega), hid (Blk.new _ _ _), hid (by exact blBy)⟩
  case round =>
    obtain ⟨j, rfl, hj, HS, Bl, hb⟩ := hrel
    have xl := Bl.out.cellF
    have zl := Bl.out.lt
    by_cases hlt : j < l.length
    · have h2 : (j : Int) < (l.length : Int) := by omega
      obtain ⟨pb, po, epb, hc⟩ := rowAt (g := cIN) (fun _ => rfl) (HR.out.kept hb.out) (i := j) (x := l[j]) (by simp [hlt])
      subst epb
      have c0 := hc 0 _ rfl
      have c1 := hc 1 _ rfl
      have c2 := hc 2 _ rfl
      have c3 := hc 3 _ rfl
      have c4 := hc 4 _ rfl
      clear hc
      simp only [Nat.add_zero] at c0
      have hpb : pb < wr.heap.size := World.block_lt_of_cell? _ _ c0
      have HIJ := hid (HI.out _ (List.getElem_mem hlt))
      have HNX : Hid ((l[j].op = 24 ↔ j + 1 = l.length) → wrI' bs (ahI l.length j) l[j] = true → ∀ i (h : i < l.length), i < j + 1 → (l[i].op = 24 ↔ i + 1 = l.length) ∧ wrI' bs (ahI l.length i) l[i] = true) := hid (fun ht hr i h hi => by
        by_cases e : i = j
        · subst e; exact ⟨ht, hr⟩
        · exact HS.out i h (by omega))
      have HNO : Hid (¬ ((l[j].op = 24 ↔ j + 1 = l.length) ∧ wrI' bs (ahI l.length j) l[j] = true) → ¬ EcP bs l) := hid (fun ht hp => ht (hp.1 j hlt))
      have HTP : Hid (((j : Int) == (l.length : Int) - 1) = decide (j + 1 = l.length)) := hid (by rw [Bool.eq_iff_iff]; simp <;> omega)
      clear HS
      generalize l[j] = s at *
      have HOP : Hid ((s.op == 24) = decide (s.op = 24)) := hid (by rw [Bool.eq_iff_iff]; simp)
      have HCA : Hid (∀ W tg, Below wr.heap.size ((wr.alloc (.cells #[.int .i64 j] 3)).alloc (.cells #[.int .i64 s.op, .int .i64 s.a, .int .i64 s.b, .int .i64 s.c, .int .i64 s.d] 37)) W → Blk W wr.heap.size 3 #[.int .i64 j] → Blk W w.heap.size 32 #[.slice (some ⟨pb, po, none⟩) l.length lc] → Calls Tryd.prog 51 (#[.int .i64 tg] ++ #[.pointer (some ⟨wr.heap.size, 0, none⟩), .pointer (some ⟨w.heap.size, 0, none⟩)]) W (BoA W (ahI l.length j tg))) := hid fun W tg _ q1 q2 => isEncP W wr.heap.size w.heap.size j l.length _ lc tg q1 q2 HN.out
      have Bj : Blk ((wr.alloc (.cells #[.int .i64 j] 3)).alloc (.cells #[.int .i64 s.op, .int .i64 s.a, .int .i64 s.b, .int .i64 s.c, .int .i64 s.d] 37)) wr.heap.size 3 #[.int .i64 j] := (Blk.new _ _ _).kept (below_alloc _)
      have Bl2 : Blk ((wr.alloc (.cells #[.int .i64 j] 3)).alloc (.cells #[.int .i64 s.op, .int .i64 s.a, .int .i64 s.b, .int .i64 s.c, .int .i64 s.d] 37)) w.heap.size 32 #[.slice (some ⟨pb, po, none⟩) l.length lc] := (Bl.out.kept (below_alloc _)).kept (below_alloc _)
      have HC := hid (isWritingP _ bs ba bc (HG.out.kept (show Below w.heap.size w ((wr.alloc (.cells #[.int .i64 j] 3)).alloc (.cells #[.int .i64 s.op, .int .i64 s.a, .int .i64 s.b, .int .i64 s.c, .int .i64 s.d] 37)) from bl_alloc (bl_alloc hb.out _) _)) HZ.out #[.pointer (some ⟨wr.heap.size, 0, none⟩), .pointer (some ⟨w.heap.size, 0, none⟩)] (ahI l.length j) (fun tg W hW => HCA.out W tg (hW.mono (by simp; omega)) (Bj.kept hW) (Bl2.kept hW)) s HIJ.out)
      replace Bl2 := hid Bl2
      clear Bj HCA
      by_cases kk : (s.op = 24 ↔ j + 1 = l.length)
      · obtain ⟨cc, kq1, kq2⟩ : ∃ cc : Bool, (s.op == 24) = cc ∧ ((j : Int) == (l.length : Int) - 1) = cc := ⟨decide (s.op = 24), HOP.out, by rw [HTP.out]; exact decide_eq_decide.2 kk.symm⟩
        replace kk := hid kk
        cases hrd : wrI' bs (ahI l.length j) s with
        | false =>
          rw [hrd] at HC
          have HF := hid (HNO.out (fun h => by rw [hrd] at h; cases h.2))
          clear HNX HNO HTP HOP hrd kk
          cases cc <;>
          · go_wp2_with fail
            refine HC.out.mono ?_
            rintro e w1 ⟨rfl, hb1⟩
            have HB1 := hid (bl_then (bl_alloc (bl_alloc hb.out _) _) hb1)
            go_wp2
            go_ret
            exact EqA.no HF.out HB1.out
        | true =>
          rw [hrd] at HC
          have HS2 := hid (HNX.out kk.out hrd)
          clear HNX HNO HTP HOP hrd kk
          cases cc <;>
          · go_wp2_with fail
            refine HC.out.mono ?_
            rintro e w1 ⟨rfl, hb1⟩
            have Bl3 := hid (Bl2.out.kept hb1)
            have HB1 := hid (bl_then (bl_alloc (bl_alloc hb.out _) _) hb1)
            go_wp2
            exact ⟨⟨j + 1, by simp, by omega, HS2, Bl3, HB1⟩, by simp [numAt]; omega⟩
      · obtain ⟨cc, kq1, kq2⟩ : ∃ cc : Bool, (s.op == 24) = cc ∧ ((j : Int) == (l.length : Int) - 1) = !cc := ⟨decide (s.op = 24), HOP.out, by
          rw [HTP.out, Bool.eq_iff_iff]
          by_cases a1 : s.op = 24 <;> by_cases a2 : j + 1 = l.length <;> simp_all⟩
        have HF := hid (HNO.out (fun h => kk h.1))
        have HB1 : Hid (Below w.heap.size w ((wr.alloc (.cells #[.int .i64 j] 3)).alloc (.cells #[.int .i64 s.op, .int .i64 s.a, .int .i64 s.b, .int .i64 s.c, .int .i64 s.d] 37))) := hid (bl_alloc (bl_alloc hb.out _) _)
        clear HNX HNO HTP HOP kk HC
        cases cc <;>
        · (try simp only [Bool.not_true, Bool.not_false] at kq2)
          go_wp2
          go_ret
          exact EqA.no HF.out HB1.out
    · have h2 : ¬ (j : Int) < (l.length : Int) := by omega
      by_cases h0 : 0 < l.length
      · have n0 : (0 : Int) < (l.length : Int) := by omega
        have HE : Hid (EcP bs l) := hid ⟨fun i hi => HS.out i hi (by omega), h0⟩
        have n1 : (0 < l.length) = True := eq_true h0
        replace h0 := hid h0
        clear HS
        go_wp2
        go_ret
        exact EqA.yes HE.out hb.out
      · have n0 : ((0 : Int) < (l.length : Int)) = False := eq_false (by omega)
        have n1 : (0 < l.length) = False := eq_false h0
        have HF : Hid (¬ EcP bs l) := hid (fun hp => h0 hp.2)
        replace h0 := hid h0
        clear HS
        go_wp2
        go_ret
        exact EqA.no HF.out hb.out
/-- A writing step, at its place. -/
def WoP (bs : List BV) (n i : Nat) (s : IN) : Prop := (16 ≤ s.op ∧ s.op ≤ 25) ∧ ¬ (s.op = 24 ∧ (i : Int) < (n : Int) - 1) ∧ nuI bs s = true ∧ ¬ (s.op = 16 ∧ (s.b ≤ i ∨ (n : Int) ≤ s.b))
structure EnP (bs : List BV) (l : List IN) : Prop where
  pos : 0 < l.length
  last : ∀ h : l.length - 1 < l.length, l[l.length - 1].op = 24
  all : ∀ i (h : i < l.length), WoP bs l.length i l[i]
/-- A reading step, at its place. -/
def RoP (bs : List BV) (n i : Nat) (s : IN) : Prop := (1 ≤ s.op ∧ s.op ≤ 15) ∧ ¬ (s.op = 1 ∧ 0 < i) ∧ nuI bs s = true ∧ ¬ (s.op = 2 ∧ (s.b ≤ i ∨ (n : Int) ≤ s.b)) ∧ ¬ (s.op = 3 ∧ (s.a ≤ i ∨ (n : Int) ≤ s.a)) ∧ ¬ (s.op = 4 ∧ (s.a < 0 ∨ (n : Int) ≤ s.a ∨ (0 < s.a ∧ s.a ≤ i)))
/-- The last Jump among the first j. -/
def LJ (l : List IN) (j p : Nat) : Prop := (p = 0 ∧ ∀ i (h : i < l.length), i < j → l[i].op ≠ 3) ∨ (∃ h : p < l.length, p < j ∧ l[p].op = 3 ∧ ∀ i (h : i < l.length), p < i → i < j → l[i].op ≠ 3)
def JmP (l : List IN) (j : Nat) : Prop := ∃ i, ∃ h : i < l.length, i < j ∧ l[i].op = 3
def RwP (l : List IN) (r : LN) : Prop := tgI r.tag = true ∧ (∀ p, LJ l l.length p → (p : Int) < r.pl) ∧ r.pl < (l.length : Int)
structure DeP (bs : List BV) (K : BK) : Prop where
  pos : 0 < K.dec.length
  last : ∀ h : K.dec.length - 1 < K.dec.length, K.dec[K.dec.length - 1].op = 4
  first : ∀ h : 0 < K.dec.length, K.dec[0].op = 1
  all : ∀ i (h : i < K.dec.length), RoP bs K.dec.length i K.dec[i]
  jump : JmP K.dec K.dec.length ↔ 0 < K.rows.length
  rows : ∀ r ∈ K.rows, RwP K.dec r
theorem LJ.no {l : List IN} {j p : Nat} (h : LJ l j p) (hj : j < l.length) (hn : l[j].op ≠ 3) : LJ l (j + 1) p := by
  rcases h with ⟨e, h⟩ | ⟨hp, h1, h2, h3⟩
  · exact .inl ⟨e, fun i hi hij => by
      by_cases q : i = j
      · subst q; exact hn
      · exact h i hi (by omega)⟩
  · exact .inr ⟨hp, by omega, h2, fun i hi hpi hij => by
      by_cases q : i = j
      · subst q; exact hn
      · exact h3 i hi hpi (by omega)⟩
theorem LJ.yes {l : List IN} {j : Nat} (hj : j < l.length) (hn : l[j].op = 3) : LJ l (j + 1) j := .inr ⟨hj, by omega, hn, fun i hi h1 h2 => by omega⟩
theorem LJ.uniq {l : List IN} {p q : Nat} (h : LJ l l.length p) (g : LJ l l.length q) : p = q := by
  rcases h with ⟨e, h⟩ | ⟨hp, h1, h2, h3⟩
  · rcases g with ⟨e', g⟩ | ⟨hq, g1, g2, g3⟩
    · omega
    · exact absurd g2 (h q hq g1)
  · rcases g with ⟨e', g⟩ | ⟨hq, g1, g2, g3⟩
    · exact absurd h2 (g p hp h1)
    · rcases Nat.lt_trichotomy p q with c | c | c
      · exact absurd g2 (h3 q hq c g1)
      · exact c
      · exact absurd h2 (g3 p hp c h1)
structure EmP (K : BK) : Prop where
  len : 1 ≤ K.rows.length ∧ K.rows.length ≤ 128
  rows : ∀ r ∈ K.rows, 0 ≤ r.tag ∧ r.tag < 2147483648 ∧ r.pl = 0
def VlP (bs : List BV) (x : BV) : Prop := RsP x.k.rows ∧ (if noS x = true then EmP x.k else DeP bs x.k ∧ EnP bs x.k.enc)
def VdP (bs : List BV) : Prop := bs.length ≤ 128 ∧ ∀ x ∈ bs, VlP bs x
/-- The numbers that stand in a program can be. -/
structure IB (x : BV) : Prop where
  dec : ∀ s ∈ x.k.dec, I5 s
  enc : ∀ s ∈ x.k.enc, I5 s
  rows : ∀ r ∈ x.k.rows, r.tag ≤ 9223372036854775807
def tgN (n p : Nat) (r : LN) : Bool := tgI r.tag && decide ((p : Int) < r.pl ∧ r.pl < (n : Int))
def TgP (l : List IN) (rows : List LN) : Prop := ∃ p, LJ l l.length p ∧ (0 < p ↔ 0 < rows.length) ∧ ∀ r ∈ rows, tgN l.length p r = true
theorem isTgtB (w : World) (pa ps p n : Nat) (sa : Option Addr) (sc : Nat) (x : LN) (h1 : Blk w pa 3 #[.int .i64 p]) (h2 : Blk w ps 32 #[.slice sa n sc]) (hn : n ≤ 140737488355328) : Calls Tryd.prog 53 #[.agg #[.int .i64 x.tag, .int .i64 x.pl], .pointer (some ⟨pa, 0, none⟩), .pointer (some ⟨ps, 0, none⟩)] w (BoA w (!tgN n p x)) := by
  have HT := hid (fun W => isTagP W x.tag)
  have x1 := h1.cellF
  have z1 := h1.lt
  have x2 := h2.cellF
  have z2 := h2.lt
  clear h1 h2
  obtain ⟨t, q⟩ := x
  dsimp only at HT ⊢
  cases ht : tgI t with
  | false =>
    rw [ht] at HT
    have e : tgN n p ⟨t, q⟩ = false := by unfold tgN; dsimp only; rw [ht]; rfl
    rw [e]
    clear e ht
    go_enter Tryd.func53, Tryd.ntmps53
    go_wp2_with (first | (go_at_call 54; refine (HT.out _).mono ?_; rintro e w1 ⟨rfl, rfl⟩))
    go_ret
    exact ⟨rfl, by exact blBy⟩
  | true =>
    rw [ht] at HT
    by_cases g1 : q ≤ (p : Int)
    · have r1 : (q ≤ (p : Int)) = True := eq_true g1
      have e : tgN n p ⟨t, q⟩ = false := by unfold tgN; dsimp only; rw [decide_eq_false (by omega)]; simp
      rw [e]
      clear e ht g1
      go_enter Tryd.func53, Tryd.ntmps53
      go_wp2_with (first | (go_at_call 54; refine (HT.out _).mono ?_; rintro e w1 ⟨rfl, rfl⟩))
      go_ret
      exact ⟨rfl, by exact blBy⟩
    have r1 : (q ≤ (p : Int)) = False := eq_false g1
    by_cases g2 : (n : Int) ≤ q
    · have r2 : ((n : Int) ≤ q) = True := eq_true g2
      have e : tgN n p ⟨t, q⟩ = false := by unfold tgN; dsimp only; rw [decide_eq_false (by omega)]; simp
      rw [e]
      clear e ht g1 g2
      go_enter Tryd.func53, Tryd.ntmps53
      go_wp2_with (first | (go_at_call 54; refine (HT.out _).mono ?_; rintro e w1 ⟨rfl, rfl⟩))
      go_ret
      exact ⟨rfl, by exact blBy⟩
    · have r2 : ((n : Int) ≤ q) = False := eq_false g2
      have e : tgN n p ⟨t, q⟩ = true := by unfold tgN; dsimp only; rw [ht, decide_eq_true (by omega)]; rfl
      rw [e]
      clear e ht g1 g2
      go_enter Tryd.func53, Tryd.ntmps53
      go_wp2_with (first | (go_at_call 54; refine (HT.out _).mono ?_; rintro e w1 ⟨rfl, rfl⟩))
      go_ret
      exact ⟨rfl, by exact blBy⟩
theorem tgp_iff {l : List IN} {rows : List LN} {p : Nat} (h : LJ l l.length p) (hp : 0 < p ↔ 0 < rows.length) : (rows.any (fun x => !tgN l.length p x)) = false ↔ TgP l rows := by
  rw [List.any_eq_false]
  constructor
  · intro g
    exact ⟨p, h, hp, fun r hr => by have := g r hr; simpa using this⟩
  · rintro ⟨p', h1, _, h3⟩ r hr
    have := h1.uniq h
    subst this
    simp [h3 r hr]
theorem areTargetsB (w : World) (rows : List LN) (la : Option Addr) (lc : Nat) (l : List IN) (da : Option Addr) (dc : Nat) (hr : RowS w AnyZ 2 (.slice la rows.length lc) rows.length (rows.flatMap cLN)) (hl : RowS w AnyZ 5 (.slice da l.length dc) l.length (l.flatMap cIN)) (hn : l.length ≤ 140737488355328) : Calls Tryd.prog 35 #[.slice la rows.length lc, .slice da l.length dc] w (EqA w (TgP l rows)) := by
  obtain ⟨_, _, e, hnr⟩ := rowS_sl hr
  clear e
  have r63 : (rows.length : Int) ≤ 9223372036854775807 := by omega
  clear hnr
  have HR := hid hl
  have n63 : (l.length : Int) ≤ 140737488355328 := by omega
  have HC : Hid (∀ (W : World) (p : Nat), Below w.heap.size w W → Blk W (w.heap.size + 1) 3 #[.int .i64 p] → Blk W w.heap.size 32 #[.slice da l.length dc] → Calls Tryd.prog 48 #[.slice la rows.length lc, .func (.func 53) #[] #[.pointer (some ⟨w.heap.size + 1, 0, none⟩), .pointer (some ⟨w.heap.size, 0, none⟩)]] W (BoA W (rows.any (fun x => !tgN l.length p x)))) := hid fun W p hW q1 q2 => conLineB W rows la lc (hr.kept hW) _ _ _ cfTarget (fun x hx W' hW' => isTgtB W' (w.heap.size + 1) w.heap.size p l.length _ dc x (q1.kept hW') (q2.kept hW') hn)
  clear hr hl hn
  go_enter Tryd.func35, Tryd.ntmps35
  go_wp2_with fail
  go_loopw [11] (fun r wr => ∃ j p : Nat, r = .int .i64 j ∧ j ≤ l.length ∧ Hid (LJ l j p) ∧ Hid (p ≤ j) ∧ Hid (Blk wr (w.heap.size + 1) 3 #[.int .i64 p]) ∧ Hid (Blk wr w.heap.size 32 #[.slice da l.length dc]) ∧ Hid (Below w.heap.size w wr)) (fun r wr => l.length - numAt wr r)
  case atStart => exact ⟨0, 0, rfl, by omega, hid (.inl ⟨rfl, fun i h hi => by omega⟩), hid (by omega), hid (Blk.newAt (by simp)), hid ((Blk.new _ _ _).kept (below_alloc _)), hid (by exact blBy)⟩
  case round =>
    obtain ⟨j, p, rfl, hj, HLJ, hpj, Bl, Bd, hb⟩ := hrel
    by_cases hlt : j < l.length
    · have h2 : (j : Int) < (l.length : Int) := by omega
      obtain ⟨pb, po, epb, hc⟩ := rowAt (g := cIN) (fun _ => rfl) (HR.out.kept hb.out) (i := j) (x := l[j]) (by simp [hlt])
      subst epb
      have c0 := hc 0 _ rfl
      have c1 := hc 1 _ rfl
      have c2 := hc 2 _ rfl
      have c3 := hc 3 _ rfl
      have c4 := hc 4 _ rfl
      clear hc
      simp only [Nat.add_zero] at c0
      have hpb : pb < wr.heap.size := World.block_lt_of_cell? _ _ c0
      have HN1 : Hid (l[j].op ≠ 3 → LJ l (j + 1) p) := hid (fun h => HLJ.out.no hlt h)
      have HY1 : Hid (l[j].op = 3 → LJ l (j + 1) j) := hid (fun h => LJ.yes hlt h)
      generalize l[j] = s at *
      by_cases k : s.op = 3
      · have k3 : (s.op == 3) = true := by simpa using k
        have HL2 := hid (HY1.out k)
        have xl := Bl.out.cellF
        have zl := Bl.out.lt
        have yl := Bl.out.frz
        clear HN1 HY1 k HLJ
        go_wp2
        exact ⟨⟨j + 1, j, by simp, by omega, HL2, hid (by omega), hid (by first | exact (Bl.out.set 0 (.int .i64 j)).kept (below_alloc _) | exact (Bl.out.kept (below_alloc _)).set 0 (.int .i64 j)), hid (by first | exact (Bd.out.oth).kept (below_alloc _) | exact (Bd.out.kept (below_alloc _)).oth), hid (by have := hb.out; exact blBy)⟩, by simp [numAt]; omega⟩
      · have k3 : (s.op == 3) = false := by simpa using k
        have HL2 := hid (HN1.out k)
        clear HN1 HY1 k HLJ
        go_wp2
        exact ⟨⟨j + 1, p, by simp, by omega, HL2, hid (by have := hpj.out; omega), hid (Bl.out.kept (below_alloc _)), hid (Bd.out.kept (below_alloc _)), hid (bl_alloc hb.out _)⟩, by simp [numAt]; omega⟩
    · have h2 : ¬ (j : Int) < (l.length : Int) := by omega
      have HLP : Hid (LJ l l.length p) := hid (by have : j = l.length := by omega
                                                  rw [← this]; exact HLJ.out)
      have HCW := hid (HC.out wr p hb.out Bl.out Bd.out)
      have xl := Bl.out.cellF
      have zl := Bl.out.lt
      clear HLJ hpj HC Bl Bd HR
      by_cases a1 : 0 < p
      · have q1 : ((0 : Int) < (p : Int)) = True := eq_true (by omega)
        have q1' : (0 < p) = True := eq_true a1
        by_cases a2 : 0 < rows.length
        · have q2 : ((0 : Int) < (rows.length : Int)) = True := eq_true (by omega)
          have q2' : (0 < rows.length) = True := eq_true a2
          have HQ : Hid ((rows.any (fun x => !tgN l.length p x)) = false ↔ TgP l rows) := hid (tgp_iff HLP.out ⟨fun _ => a2, fun _ => a1⟩)
          clear a1 a2 HLP
          generalize rows.any (fun x => !tgN l.length p x) = q at *
          go_wp2_with fail
          refine HCW.out.mono ?_
          rintro e w1 ⟨rfl, hb1⟩
          replace hb1 := hid (bl_then hb.out hb1)
          cases q
          · have HE := hid (HQ.out.1 rfl)
            go_wp2
            go_ret
            exact EqA.yes HE.out hb1.out
          · have HF : Hid (¬ TgP l rows) := hid (fun h => by have := HQ.out.2 h; cases this)
            go_wp2
            go_ret
            exact EqA.no HF.out hb1.out
        · have q2 : ((0 : Int) < (rows.length : Int)) = False := eq_false (by omega)
          have q2' : (0 < rows.length) = False := eq_false a2
          have HF : Hid (¬ TgP l rows) := hid (fun ⟨p', h1, h2, _⟩ => by
            have := h1.uniq HLP.out
            subst this
            exact a2 (h2.1 a1))
          clear a1 a2 HLP HCW
          go_wp2
          go_ret
          exact EqA.no HF.out hb.out
      · have q1 : ((0 : Int) < (p : Int)) = False := eq_false (by omega)
        have q1' : (0 < p) = False := eq_false a1
        by_cases a2 : 0 < rows.length
        · have q2 : ((0 : Int) < (rows.length : Int)) = True := eq_true (by omega)
          have q2' : (0 < rows.length) = True := eq_true a2
          have HF : Hid (¬ TgP l rows) := hid (fun ⟨p', h1, h2, _⟩ => by
            have := h1.uniq HLP.out
            subst this
            exact a1 (h2.2 a2))
          clear a1 a2 HLP HCW
          go_wp2
          go_ret
          exact EqA.no HF.out hb.out
        · have q2 : ((0 : Int) < (rows.length : Int)) = False := eq_false (by omega)
          have q2' : (0 < rows.length) = False := eq_false a2
          have HQ : Hid ((rows.any (fun x => !tgN l.length p x)) = false ↔ TgP l rows) := hid (tgp_iff HLP.out ⟨fun h => absurd h a1, fun h => absurd h a2⟩)
          clear a1 a2 HLP
          generalize rows.any (fun x => !tgN l.length p x) = q at *
          go_wp2_with fail
          refine HCW.out.mono ?_
          rintro e w1 ⟨rfl, hb1⟩
          replace hb1 := hid (bl_then hb.out hb1)
          cases q
          · have HE := hid (HQ.out.1 rfl)
            go_wp2
            go_ret
            exact EqA.yes HE.out hb1.out
          · have HF : Hid (¬ TgP l rows) := hid (fun h => by have := HQ.out.2 h; cases this)
            go_wp2
            go_ret
            exact EqA.no HF.out hb1.out
set_option maxHeartbeats 1000000
theorem rd_iff (bs : List BV) {n i : Nat} (hi : i < n) (s : IN) (h1 : s.op = 1 ↔ i = 0) : rdI bs (ahI n i) s = true ↔ RoP bs n i s := by
  unfold rdI RoP ahI
  by_cases h2 : s.op = 2
  · rw [if_pos h2]
    simp only [Bool.and_eq_true, decide_eq_true_eq]
    constructor
    · rintro ⟨a, b⟩
      exact ⟨by omega, by omega, a, by omega, by omega, by omega⟩
    · rintro ⟨a, b, c, d, e, f⟩
      exact ⟨c, by omega⟩
  rw [if_neg h2]
  by_cases h3 : s.op = 3
  · rw [if_pos h3]
    simp only [Bool.and_eq_true, decide_eq_true_eq]
    constructor
    · rintro ⟨a, b⟩
      exact ⟨by omega, by omega, a, by omega, by omega, by omega⟩
    · rintro ⟨a, b, c, d, e, f⟩
      exact ⟨c, by omega⟩
  rw [if_neg h3]
  by_cases h4 : s.op = 4
  · rw [if_pos h4]
    simp only [Bool.and_eq_true, Bool.or_eq_true, decide_eq_true_eq]
    constructor
    · rintro ⟨a, b⟩
      exact ⟨by omega, by omega, a, by omega, by omega, by omega⟩
    · rintro ⟨a, b, c, d, e, f⟩
      exact ⟨c, by omega⟩
  rw [if_neg h4]
  simp only [Bool.and_eq_true, decide_eq_true_eq]
  constructor
  · rintro ⟨a, b⟩
    exact ⟨by omega, by omega, b, by omega, by omega, by omega⟩
  · rintro ⟨a, b, c, d, e, f⟩
    exact ⟨a, c⟩
theorem wr_iff (bs : List BV) {n i : Nat} (hi : i < n) (s : IN) (h1 : s.op = 24 ↔ i + 1 = n) : wrI' bs (ahI n i) s = true ↔ WoP bs n i s := by
  unfold wrI' WoP ahI
  by_cases h2 : s.op = 16
  · rw [if_pos h2]
    simp only [Bool.and_eq_true, decide_eq_true_eq]
    constructor
    · rintro ⟨a, b⟩
      exact ⟨by omega, by omega, a, by omega⟩
    · rintro ⟨a, b, c, d⟩
      exact ⟨c, by omega⟩
  rw [if_neg h2]
  simp only [Bool.and_eq_true, decide_eq_true_eq]
  constructor
  · rintro ⟨a, b⟩
    exact ⟨by omega, by omega, b, by omega⟩
  · rintro ⟨a, b, c, d⟩
    exact ⟨a, c⟩
theorem lj_ex (l : List IN) : ∀ j, j ≤ l.length → ∃ p, LJ l j p := by
  intro j
  induction j with
  | zero => exact fun _ => ⟨0, .inl ⟨rfl, fun i h hi => by omega⟩⟩
  | succ j ih =>
    intro hj
    obtain ⟨p, hp⟩ := ih (by omega)
    by_cases h : l[j].op = 3
    · exact ⟨j, LJ.yes (by omega) h⟩
    · exact ⟨p, hp.no (by omega) h⟩
theorem enc_iff (bs : List BV) (l : List IN) : EcP bs l ↔ EnP bs l := by
  constructor
  · rintro ⟨h1, h2⟩
    exact ⟨h2, fun h => (h1 _ h).1.2 (by omega), fun i h => (wr_iff bs h _ (h1 i h).1).1 (h1 i h).2⟩
  · rintro ⟨h0, hl, ha⟩
    refine ⟨fun i h => ?_, h0⟩
    have e : l[i].op = 24 ↔ i + 1 = l.length := by
      constructor
      · intro q
        have := (ha i h).2.1
        omega
      · intro q
        have e2 : i = l.length - 1 := by omega
        subst e2
        exact hl _
    exact ⟨e, (wr_iff bs h _ e).2 (ha i h)⟩
theorem jm_iff {l : List IN} {p : Nat} (h : LJ l l.length p) (h0 : ∀ h : 0 < l.length, l[0].op = 1) : 0 < p ↔ JmP l l.length := by
  rcases h with ⟨e, h⟩ | ⟨hp, h1, h2, h3⟩
  · constructor
    · intro q
      omega
    · rintro ⟨i, hi, hj, hk⟩
      exact absurd hk (h i hi hj)
  · constructor
    · intro q
      exact ⟨p, hp, h1, h2⟩
    · rintro ⟨i, hi, hj, hk⟩
      rcases Nat.eq_zero_or_pos p with e | e
      · subst e
        have := h0 hp
        omega
      · exact e
theorem rw_iff {l : List IN} {p : Nat} (h : LJ l l.length p) (r : LN) : tgN l.length p r = true ↔ RwP l r := by
  unfold tgN RwP
  simp only [Bool.and_eq_true, decide_eq_true_eq]
  constructor
  · rintro ⟨a, b, c⟩
    exact ⟨a, fun p' h' => by rw [h'.uniq h]; exact b, c⟩
  · rintro ⟨a, b, c⟩
    exact ⟨a, b p h, c⟩
theorem dec_iff (bs : List BV) (K : BK) : (DcP bs K.dec ∧ TgP K.dec K.rows) ↔ DeP bs K := by
  constructor
  · rintro ⟨⟨h1, h2, h3⟩, p, g1, g2, g3⟩
    have h0 : ∀ h : 0 < K.dec.length, K.dec[0].op = 1 := fun h => (h1 0 h).1.2 rfl
    exact ⟨by omega, fun _ => h3, h0, fun i h => (rd_iff bs h _ (h1 i h).1).1 (h1 i h).2, (jm_iff g1 h0).symm.trans g2, fun r hr => (rw_iff g1 r).1 (g3 r hr)⟩
  · intro h
    obtain ⟨p, hp⟩ := lj_ex K.dec K.dec.length (Nat.le_refl _)
    refine ⟨⟨fun i hi => ?_, by have := h.pos; omega, h.last _⟩, p, hp, (jm_iff hp h.first).trans h.jump, fun r hr => (rw_iff hp r).2 (h.rows r hr)⟩
    have e : K.dec[i].op = 1 ↔ i = 0 := by
      constructor
      · intro q
        have := (h.all i hi).2.1
        omega
      · intro q
        subst q
        exact h.first hi
    exact ⟨e, (rd_iff bs hi _ e).2 (h.all i hi)⟩
theorem em_iff (K : BK) : (decide (0 < K.rows.length ∧ K.rows.length ≤ 128) && !K.rows.any (fun x => !syI x)) = true ↔ EmP K := by
  simp only [Bool.and_eq_true, decide_eq_true_eq, Bool.not_eq_true', List.any_eq_false]
  constructor
  · rintro ⟨a, b⟩
    refine ⟨by omega, fun r hr => ?_⟩
    have := b r hr
    simp only [Bool.not_eq_true', syI, decide_eq_false_iff_not, Decidable.not_not] at this
    omega
  · rintro ⟨a, b⟩
    refine ⟨by omega, fun r hr => ?_⟩
    have := b r hr
    simp only [Bool.not_eq_true', syI, decide_eq_false_iff_not, Decidable.not_not]
    omega
set_option maxHeartbeats 4000000
theorem isValidB (w : World) (bs : List BV) (ba : Option Addr) (bc : Nat) (hp : PgR w (.slice ba bs.length bc) bs) (hz : ∀ x ∈ bs, x.k.dec.length ≤ 140737488355328 ∧ x.k.enc.length ≤ 140737488355328) (x : BV) (hx : x.k.dec.length ≤ 140737488355328 ∧ x.k.enc.length ≤ 140737488355328) (hI : IB x) (da ea ra : Option Addr) (dc ec rc : Nat) (hk : BkR w x.k (.slice da x.k.dec.length dc) (.slice ea x.k.enc.length ec) (.slice ra x.k.rows.length rc)) : Calls Tryd.prog 18 #[.slice ba bs.length bc, .agg #[.slice da x.k.dec.length dc, .slice ea x.k.enc.length ec, .slice ra x.k.rows.length rc]] w (EqA w (VlP bs x)) := by
  have HRI := hid (fun W hW => doRiseB W x.k.rows ra rc (hk.hr.kept (w' := W) hW))
  have HAS := hid (fun W hW => areSymbolsB W x.k.rows ra rc (hk.hr.kept (w' := W) hW))
  have HD := hid (fun W hW => isDecB W bs ba bc (hp.kept hW) hz x.k.dec da dc (hk.hd.kept (w' := W) hW) hx.1 hI.dec)
  have HE := hid (fun W hW => isEncB W bs ba bc (hp.kept hW) hz x.k.enc ea ec (hk.he.kept (w' := W) hW) hx.2 hI.enc)
  have HTA := hid (fun W hW => areTargetsB W x.k.rows ra rc x.k.dec da dc (hk.hr.kept (w' := W) hW) (hk.hd.kept (w' := W) hW) hx.1)
  have HHS := hid (fun W => hasStepsP W da ea ra x.k.dec.length dc x.k.enc.length ec x.k.rows.length rc hx.1 hx.2)
  have HNS : Hid (decide (0 < x.k.dec.length + x.k.enc.length) = !noS x) := hid (by
    unfold noS
    by_cases h1 : x.k.dec.length = 0 <;> by_cases h2 : x.k.enc.length = 0
    · rw [decide_eq_false (by omega), decide_eq_true h1, decide_eq_true h2]; rfl
    · rw [decide_eq_true (by omega), decide_eq_false h2]; simp
    · rw [decide_eq_true (by omega), decide_eq_false h1]; simp
    · rw [decide_eq_true (by omega), decide_eq_false h1]; simp)
  rw [HNS.out] at HHS
  have HV : Hid (VlP bs x ↔ (RsP x.k.rows ∧ (if noS x = true then EmP x.k else DeP bs x.k ∧ EnP bs x.k.enc))) := hid Iff.rfl
  have HEM := hid (em_iff x.k)
  have HDI := hid (dec_iff bs x.k)
  have HEI := hid (enc_iff bs x.k.enc)
  generalize (decide (0 < x.k.rows.length ∧ x.k.rows.length ≤ 128) && !x.k.rows.any (fun x => !syI x)) = em at *
  clear hk hI hp hz hx HNS
  generalize x.k.dec.length = n1 at *
  generalize x.k.enc.length = n2 at *
  generalize x.k.rows.length = n3 at *
  go_enter Tryd.func18, Tryd.ntmps18
  go_wp2_with fail
  refine (HRI.out _ (by exact blBy)).mono ?_
  rintro e w1 ⟨r, rfl, hr, hb1⟩
  have Bb : Blk w1 w.heap.size 35 #[.slice da n1 dc, .slice ea n2 ec, .slice ra n3 rc] := (Blk.new _ _ _).kept hb1
  replace hb1 : Hid (Below w.heap.size w w1) := hid (bl_then (by exact blBy) hb1)
  have xb := Bb.cellF
  have zb := Bb.lt
  cases r with
  | false =>
    have HF : Hid (¬ VlP bs x) := hid (fun h => by have := hr.2 (HV.out.1 h).1; cases this)
    clear hr HV HEM HDI HEI HRI HAS HD HE HTA HHS
    go_wp2
    go_ret
    exact EqA.no HF.out hb1.out
  | true =>
  have HRS := hid (hr.1 rfl)
  clear hr HRI
  go_wp2_with fail
  refine (HHS.out _).mono ?_
  rintro e w2 ⟨rfl, hb2⟩
  replace Bb := Bb.kept hb2
  replace hb1 : Hid (Below w.heap.size w w2) := hid (bl_then hb1.out hb2)
  clear xb zb HHS hb2
  have xb := Bb.cellF
  have zb := Bb.lt
  cases hns : noS x with
  | true =>
    rw [hns] at HV
    replace HV : Hid (VlP bs x ↔ em = true) := hid (by
      rw [HV.out, HEM.out]
      simp only [if_true]
      exact ⟨fun h => h.2, fun h => ⟨HRS.out, h⟩⟩)
    clear hns HRS HEM HDI HEI HD HE HTA
    go_wp2_with fail
    refine (HAS.out _ hb1.out).mono ?_
    rintro e w3 ⟨rfl, hb3⟩
    replace hb3 := hid (bl_then hb1.out hb3)
    go_wp2
    go_ret
    exact ⟨em, rfl, HV.out.symm, hb3.out⟩
  | false =>
    rw [hns] at HV
    replace HV : Hid (VlP bs x ↔ (DcP bs x.k.dec ∧ EcP bs x.k.enc ∧ TgP x.k.dec x.k.rows)) := hid (by
      rw [HV.out, ← HDI.out, ← HEI.out]
      simp only [Bool.false_eq_true, if_false]
      exact ⟨fun h => ⟨h.2.1.1, h.2.2, h.2.1.2⟩, fun h => ⟨HRS.out, ⟨h.1, h.2.2⟩, h.2.1⟩⟩)
    clear hns HRS HEM HDI HEI HAS
    generalize DcP bs x.k.dec = P1 at *
    generalize EcP bs x.k.enc = P2 at *
    generalize TgP x.k.dec x.k.rows = P3 at *
    go_wp2_with fail
    refine (HD.out _ hb1.out).mono ?_
    rintro e w3 ⟨r, rfl, hr, hb3⟩
    replace Bb := Bb.kept hb3
    replace hb1 : Hid (Below w.heap.size w w3) := hid (bl_then hb1.out hb3)
    clear xb zb hb3 HD
    have xb := Bb.cellF
    have zb := Bb.lt
    cases r with
    | false =>
      have HF : Hid (¬ VlP bs x) := hid (fun h => by have := hr.2 (HV.out.1 h).1; cases this)
      clear hr HV HE HTA
      go_wp2
      go_ret
      exact EqA.no HF.out hb1.out
    | true =>
    have H1 := hid (hr.1 rfl)
    clear hr
    go_wp2_with fail
    refine (HE.out _ hb1.out).mono ?_
    rintro e w4 ⟨r, rfl, hr, hb3⟩
    replace Bb := Bb.kept hb3
    replace hb1 : Hid (Below w.heap.size w w4) := hid (bl_then hb1.out hb3)
    clear xb zb hb3 HE
    have xb := Bb.cellF
    have zb := Bb.lt
    cases r with
    | false =>
      have HF : Hid (¬ VlP bs x) := hid (fun h => by have := hr.2 (HV.out.1 h).2.1; cases this)
      clear hr HV HTA
      go_wp2
      go_ret
      exact EqA.no HF.out hb1.out
    | true =>
    have H2 := hid (hr.1 rfl)
    clear hr
    go_wp2_with fail
    refine (HTA.out _ hb1.out).mono ?_
    rintro e w5 ⟨r, rfl, hr, hb3⟩
    replace hb1 : Hid (Below w.heap.size w w5) := hid (bl_then hb1.out hb3)
    have HR : Hid (r = true ↔ VlP bs x) := hid (by
      rw [HV.out, hr]
      exact ⟨fun h => ⟨H1.out, H2.out, h⟩, fun h => h.2.2⟩)
    clear hr HV hb3
    go_wp2
    go_ret
    exact ⟨r, rfl, HR.out, hb1.out⟩
theorem valid1B (w : World) (bs : List BV) (ba : Option Addr) (bc p : Nat) (hp : PgR w (.slice ba bs.length bc) bs) (hz : ∀ x ∈ bs, x.k.dec.length ≤ 140737488355328 ∧ x.k.enc.length ≤ 140737488355328) (hB : Blk w p 52 #[.slice ba bs.length bc]) (x : BV) (hx : x.k.dec.length ≤ 140737488355328 ∧ x.k.enc.length ≤ 140737488355328) (hI : IB x) (da ea ra : Option Addr) (dc ec rc : Nat) (hk : BkR w x.k (.slice da x.k.dec.length dc) (.slice ea x.k.enc.length ec) (.slice ra x.k.rows.length rc)) : Calls Tryd.prog 17 #[.agg #[.slice da x.k.dec.length dc, .slice ea x.k.enc.length ec, .slice ra x.k.rows.length rc], .pointer (some ⟨p, 0, none⟩)] w (EqA w (¬ VlP bs x)) := by
  have HC := hid (fun W hW => isValidB W bs ba bc (hp.kept hW) hz x hx hI da ea ra dc ec rc (hk.kept (w' := W) hW))
  have xp := hB.cellF
  have zp := hB.lt
  clear hp hk hz hI hx
  generalize VlP bs x = P at *
  generalize x.k.dec.length = n1 at *
  generalize x.k.enc.length = n2 at *
  generalize x.k.rows.length = n3 at *
  go_enter Tryd.func17, Tryd.ntmps17
  go_wp2_with fail
  refine (HC.out _ (by exact blBy)).mono ?_
  rintro e w1 ⟨r, rfl, hr, hb1⟩
  replace hb1 : Hid (Below w.heap.size w w1) := hid (bl_then (by exact blBy) hb1)
  cases r with
  | false =>
    have HF : Hid (¬ P) := hid (fun h => by have := hr.2 h; cases this)
    clear hr
    go_wp2
    go_ret
    exact EqA.yes HF.out hb1.out
  | true =>
    have HF : Hid (¬ ¬ P) := hid (fun h => h (hr.1 rfl))
    clear hr
    go_wp2
    go_ret
    exact EqA.no HF.out hb1.out
def IxB (w : World) (P : Prop) (e : Ending) (w' : World) : Prop := Below w.heap.size w w' ∧ ((e = .returned (.int .i64 (-1)) ∧ ¬ P) ∨ ∃ j : Nat, e = .returned (.int .i64 (j : Int)) ∧ P)
theorem idxBlockB (w : World) (l : List BV) (la : Option Addr) (lc : Nat) (hl : PgR w (.slice la l.length lc) l) (fn : FuncId) (caps : Array Value) (P : BV → Prop) (hcf : ∀ (args : Array Value) (W : World), (callFunc fn args).run Tryd.prog W = .ok (.enter fn args) W) (hc : ∀ (j : Nat) (hj : j < l.length) W, Below w.heap.size w W → ∀ da ea ra dc ec rc, BkR W l[j].k (.slice da l[j].k.dec.length dc) (.slice ea l[j].k.enc.length ec) (.slice ra l[j].k.rows.length rc) → Calls Tryd.prog fn (#[.agg #[.slice da l[j].k.dec.length dc, .slice ea l[j].k.enc.length ec, .slice ra l[j].k.rows.length rc]] ++ caps) W (EqA W (P l[j]))) : Calls Tryd.prog 29 #[.slice la l.length lc, .func (.func fn) #[] caps] w (IxB w (∃ x ∈ l, P x)) := by
  obtain ⟨_, _, e, hn⟩ := rowS_sl hl.row
  clear e
  have n63 : (l.length : Int) ≤ 9223372036854775807 := by omega
  have HR := hid hl
  have HC := hid hc
  clear hl hc
  go_enter Tryd.func29, Tryd.ntmps29
  go_wp2
  go_loopw [8] (fun r wr => ∃ j : Nat, r = .int .i64 j ∧ j ≤ l.length ∧ Hid (∀ i (h : i < l.length), i < j → ¬ P l[i]) ∧ Hid (Below w.heap.size w wr)) (fun r wr => l.length - numAt wr r)
  case atStart => exact ⟨0, rfl, by omega, hid (fun i h hi => by omega), hid (Below.refl _ _)⟩
  case round =>
    obtain ⟨j, rfl, hj, HS, hb⟩ := hrel
    by_cases hlt : j < l.length
    · have h2 : (j : Int) < (l.length : Int) := by omega
      obtain ⟨pb, po, da, dc, ea, ec, ra, rc, epb, hpb, c0, c1, c2, hbk⟩ := pg_at (HR.out.kept hb.out) hlt
      subst epb
      have HCJ := hid (HC.out j hlt wr hb.out da ea ra dc ec rc hbk)
      have HNX : Hid (¬ P l[j] → ∀ i (h : i < l.length), i < j + 1 → ¬ P l[i]) := hid (fun ht i h hi => by
        by_cases e : i = j
        · subst e; exact ht
        · exact HS.out i h (by omega))
      have HNO : Hid (P l[j] → ∃ x ∈ l, P x) := hid (fun ht => ⟨_, List.getElem_mem hlt, ht⟩)
      clear hbk HS
      generalize l[j] = x at *
      generalize P x = Q at *
      go_wp2_with fail
      refine HCJ.out.mono ?_
      rintro e w1 ⟨r, rfl, hr, hb1⟩
      have HB1 := hid (bl_then hb.out hb1)
      cases r with
      | false =>
        have HS2 := hid (HNX.out (fun h => by have := hr.2 h; cases this))
        clear HNX HNO hr
        go_wp2
        exact ⟨⟨j + 1, by simp, by omega, HS2, HB1⟩, by simp [numAt]; omega⟩
      | true =>
        have HF := hid (HNO.out (hr.1 rfl))
        clear HNX HNO hr
        go_wp2
        go_ret
        exact ⟨HB1.out, .inr ⟨j, rfl, HF.out⟩⟩
    · have h2 : ¬ (j : Int) < (l.length : Int) := by omega
      have HE : Hid (¬ ∃ x ∈ l, P x) := hid (by
        rintro ⟨x, hx, hp⟩
        obtain ⟨i, hi, rfl⟩ := List.getElem_of_mem hx
        exact HS.out i hi (by omega) hp)
      clear HS
      go_wp2
      go_ret
      exact ⟨hb.out, .inl ⟨rfl, HE.out⟩⟩
theorem conBlockB (w : World) (l : List BV) (la : Option Addr) (lc : Nat) (hl : PgR w (.slice la l.length lc) l) (fn : FuncId) (caps : Array Value) (P : BV → Prop) (hcf : ∀ (args : Array Value) (W : World), (callFunc fn args).run Tryd.prog W = .ok (.enter fn args) W) (hc : ∀ (j : Nat) (hj : j < l.length) W, Below w.heap.size w W → ∀ da ea ra dc ec rc, BkR W l[j].k (.slice da l[j].k.dec.length dc) (.slice ea l[j].k.enc.length ec) (.slice ra l[j].k.rows.length rc) → Calls Tryd.prog fn (#[.agg #[.slice da l[j].k.dec.length dc, .slice ea l[j].k.enc.length ec, .slice ra l[j].k.rows.length rc]] ++ caps) W (EqA W (P l[j]))) : Calls Tryd.prog 16 #[.slice la l.length lc, .func (.func fn) #[] caps] w (EqA w (∃ x ∈ l, P x)) := by
  have HI := hid (idxBlockB w l la lc hl fn caps P hcf hc)
  clear hl hc
  generalize (∃ x ∈ l, P x) = Q at *
  go_enter Tryd.func16, Tryd.ntmps16
  go_wp2_with fail
  refine HI.out.mono ?_
  rintro e w1 ⟨hb1, ⟨rfl, hq⟩ | ⟨j, rfl, hq⟩⟩
  · go_wp2
    go_ret
    exact EqA.no hq hb1
  · have k0 : ((0 : Int) ≤ (j : Int)) = True := eq_true (by omega)
    go_wp2
    go_ret
    exact EqA.yes hq hb1
theorem validB (w : World) (bs : List BV) (ba : Option Addr) (bc : Nat) (hp : PgR w (.slice ba bs.length bc) bs) (hz : ∀ x ∈ bs, x.k.dec.length ≤ 140737488355328 ∧ x.k.enc.length ≤ 140737488355328) (hI : ∀ x ∈ bs, IB x) : Calls Tryd.prog 10 #[.agg #[.slice ba bs.length bc]] w (EqA w (VdP bs)) := by
  obtain ⟨_, _, e, hn⟩ := rowS_sl hp.row
  clear e
  have n63 : (bs.length : Int) ≤ 9223372036854775807 := by omega
  have HC : Hid (∀ W p, Below w.heap.size w W → Blk W p 52 #[.slice ba bs.length bc] → Calls Tryd.prog 16 #[.slice ba bs.length bc, .func (.func 17) #[] #[.pointer (some ⟨p, 0, none⟩)]] W (EqA W (∃ x ∈ bs, ¬ VlP bs x))) := hid fun W p hW hB => conBlockB W bs ba bc (hp.kept hW) _ _ (fun x => ¬ VlP bs x) cfValid (fun j hj W' hW' da ea ra dc ec rc hbk => valid1B W' bs ba bc p ((hp.kept hW).kept hW') hz (hB.kept hW') _ (hz _ (List.getElem_mem hj)) (hI _ (List.getElem_mem hj)) da ea ra dc ec rc hbk)
  clear hp hz hI hn
  by_cases h128 : bs.length ≤ 128
  · have r1 : ((128 : Int) < (bs.length : Int)) = False := eq_false (by omega)
    have r2 : (128 < bs.length) = False := eq_false (by omega)
    have HV : Hid (VdP bs ↔ ¬ ∃ x ∈ bs, ¬ VlP bs x) := hid ⟨fun h ⟨x, hx, hn⟩ => hn (h.2 x hx), fun h => ⟨h128, fun x hx => Classical.byContradiction fun hn => h ⟨x, hx, hn⟩⟩⟩
    replace h128 := hid h128
    generalize (∃ x ∈ bs, ¬ VlP bs x) = Q at *
    go_enter Tryd.func10, Tryd.ntmps10
    go_wp2_with fail
    refine (HC.out _ _ (by exact blBy) (Blk.newAt (by simp))).mono ?_
    rintro e w1 ⟨r, rfl, hr, hb1⟩
    replace hb1 : Hid (Below w.heap.size w w1) := hid (bl_then (by exact blBy) hb1)
    cases r with
    | false =>
      have HE : Hid (VdP bs) := hid (HV.out.2 (fun h => by have := hr.2 h; cases this))
      clear hr HV
      go_wp2
      go_ret
      exact EqA.yes HE.out hb1.out
    | true =>
      have HF : Hid (¬ VdP bs) := hid (fun h => HV.out.1 h (hr.1 rfl))
      clear hr HV
      go_wp2
      go_ret
      exact EqA.no HF.out hb1.out
  · have r1 : ((128 : Int) < (bs.length : Int)) = True := eq_true (by omega)
    have r2 : (128 < bs.length) = True := eq_true (by omega)
    have HF : Hid (¬ VdP bs) := hid (fun h => h128 h.1)
    clear HC h128
    go_enter Tryd.func10, Tryd.ntmps10
    go_wp2
    go_ret
    exact EqA.no HF.out (by exact blBy)
/-- An operation's name, and how many numbers it names. -/
def opNm : List (List Int) := [[116, 97, 103], [99, 97, 115, 101], [106, 117, 109, 112], [103, 111], [114, 101, 97, 100], [115, 121, 109], [115, 101, 116], [97, 100, 100], [99, 108, 101, 97, 114], [109, 115, 103], [114, 111, 119], [112, 97, 105, 114], [107, 101, 101, 112], [114, 101, 97, 100, 115, 101, 116], [114, 101, 97, 100, 97, 100, 100], [104, 97, 115], [112, 117, 116], [118, 97, 108], [115, 117, 98], [101, 97, 99, 104], [114, 117, 110], [112, 97, 105, 114, 115], [114, 101, 115, 116], [101, 110, 100], [112, 117, 116, 118, 97, 108]]
def opCt : List Nat := [0, 2, 1, 1, 1, 1, 1, 1, 1, 3, 3, 4, 0, 2, 2, 3, 1, 1, 1, 3, 2, 4, 0, 0, 2]
def opV (k : Nat) : List Value := [.int .i64 ((k : Int) + 1), .string (strOfNums (opNm[k]?.getD [])), .int .i64 ((opCt[k]?.getD 0 : Nat) : Int)]
def opAll : List Value := (List.range 25).flatMap opV
def OpA (w : World) (e : Ending) (w' : World) : Prop := e = .returned (.agg opAll.toArray) ∧ Below w.heap.size w w'
theorem opAll_len : opAll.length = 75 := by kernel_rfl
theorem opStore (w : World) (L : List Value) (hL : L = opAll) : (storeCells ⟨w.heap.size, 0, none⟩ L 0).run Tryd.prog (w.alloc (.cells Tryd.zeroCells58 58)) = .ok () (w.alloc (.cells opAll.toArray 58)) := by
  subst hL
  have := run_storeCells_new (P := Tryd.prog) w 58 Tryd.zeroCells58 opAll.toArray (by kernel_rfl) (by kernel_rfl) (by kernel_rfl)
  simpa using this
theorem allOpsT (w : World) : Calls Tryd.prog 19 #[] w (OpA w) := by
  go_enter Tryd.func19, Tryd.ntmps19
  go_wp2
  rw [opStore]
  · simp only [Result.andThen]
    rw [Oper.upon_skip]
    generalize hA : opAll.toArray = A
    go_wp2
    subst hA
    exact bodyPost_ret (v := .agg opAll.toArray) (results_cell_row rfl _ _ w.heap.size 58 opAll.toArray (0, 0) _ rfl (heap_alloc_last w _) (show Tryd.prog.underlying 58 = some (.array 25 56) by kernel_rfl) rfl (by kernel_rfl)) rfl ⟨rfl, by exact blBy⟩
  · kernel_rfl
set_option maxHeartbeats 1000000
theorem opAt (k j : Nat) (v : Value) (hk : k < 25) (hv : (opV k)[j]? = some v) : opAll.toArray[k * 3 + j]? = some v := by
  have := flatM_get (g := opV) (k := 3) (fun _ => rfl) (List.range 25) k j k v (by simp [hk]) hv
  simpa [opAll] using this
/-- What numbered answers. -/
def numV (n : Int) : Value := if 1 ≤ n ∧ n ≤ 25 then .tuple #[.agg (opV (n - 1).toNat).toArray, .bool true] else .tuple #[.agg #[.int .i64 0, .string ⟨#[]⟩, .int .i64 0], .bool false]
theorem numV_yes (k : Nat) (hk : k < 25) : numV ((k : Int) + 1) = .tuple #[.agg #[.int .i64 ((k : Int) + 1), .string (strOfNums (opNm[k]?.getD [])), .int .i64 ((opCt[k]?.getD 0 : Nat) : Int)], .bool true] := by
  unfold numV
  rw [if_pos (by omega)]
  have : ((k : Int) + 1 - 1).toNat = k := by omega
  rw [this]
  rfl
theorem numV_no (n : Int) (h : ¬ (1 ≤ n ∧ n ≤ 25)) : numV n = .tuple #[.agg #[.int .i64 0, .string ⟨#[]⟩, .int .i64 0], .bool false] := by
  unfold numV
  rw [if_neg h]
theorem numberedC (w : World) (p : Nat) (n : Int) (hp : p < w.heap.size) (hB : ∀ i, i < 75 → w.cell? ⟨p, i, none⟩ = opAll.toArray[i]?) : Calls Tryd.prog 37 #[.pointer (some ⟨p, 0, none⟩), .int .i64 n] w fun e w' => e = .returned (numV n) ∧ Below w.heap.size w w' := by
  have HB := hid hB
  clear hB
  have HR : Hid (Blk (w.alloc (.cells #[.int .i64 0, .string ⟨#[]⟩, .int .i64 0] 56)) w.heap.size 56 #[.int .i64 0, .string ⟨#[]⟩, .int .i64 0]) := hid (Blk.new _ _ _)
  go_enter Tryd.func37, Tryd.ntmps37
  go_wp2
  go_loopw [10] (fun s10 wr => ∃ i : Nat, s10 = .int .i64 (i : Int) ∧ i ≤ 25 ∧ Hid (¬ (1 ≤ n ∧ n ≤ (i : Int))) ∧ Hid (Blk wr w.heap.size 56 #[.int .i64 0, .string ⟨#[]⟩, .int .i64 0]) ∧ Hid (Below w.heap.size w wr)) (fun s10 wr => 25 - numAt wr s10)
  case atStart => exact ⟨0, rfl, by decide, hid (by omega), HR, hid (by exact blBy)⟩
  case round =>
    obtain ⟨i, rfl, hi, HN, BR, hb⟩ := hrel
    have xr := BR.out.cellF
    have yr := BR.out.frz
    have zr := BR.out.lt
    by_cases hlt : i < 25
    · have h2 : (i : Int) < 25 := by omega
      have c0 : wr.cell? ⟨p, i * 3, none⟩ = some (.int .i64 ((i : Int) + 1)) := cell_below ((HB.out (i * 3) (by omega)).trans (by simpa using opAt i 0 _ hlt rfl)) hb.out
      have c1 : wr.cell? ⟨p, i * 3 + 1, none⟩ = some (.string (strOfNums (opNm[i]?.getD []))) := cell_below ((HB.out (i * 3 + 1) (by omega)).trans (opAt i 1 _ hlt rfl)) hb.out
      have c2 : wr.cell? ⟨p, i * 3 + 2, none⟩ = some (.int .i64 ((opCt[i]?.getD 0 : Nat) : Int)) := cell_below ((HB.out (i * 3 + 2) (by omega)).trans (opAt i 2 _ hlt rfl)) hb.out
      have hpw : p < wr.heap.size := Nat.lt_of_lt_of_le hp hb.out.size
      have HY := hid (numV_yes i hlt)
      by_cases hn : (i : Int) + 1 = n
      · subst hn
        have HYY := hid (numV_yes i hlt)
        generalize strOfNums (opNm[i]?.getD []) = sv at *
        generalize ((opCt[i]?.getD 0 : Nat) : Int) = cv at *
        go_wp2
        exact bodyPost_ret (v := .tuple #[.agg #[.int .i64 ((i : Int) + 1), .string sv, .int .i64 cv], .bool true]) (by simp [results, Tryd.results37, go_sem, xr, zr]) rfl ⟨by rw [HYY.out], by have := hb.out; exact blBy⟩
      · have hn2 : ((i : Int) + 1 == n) = false := by simpa using hn
        have HN2 : Hid (¬ (1 ≤ n ∧ n ≤ ((i + 1 : Nat) : Int))) := hid (by have := HN.out; omega)
        have BR2 := hid (BR.out.kept (below_alloc (w := wr) (.cells #[.int .i64 ((i : Int) + 1), .string (strOfNums (opNm[i]?.getD [])), .int .i64 ((opCt[i]?.getD 0 : Nat) : Int)] 56)))
        have HB2 := hid (bl_alloc hb.out (.cells #[.int .i64 ((i : Int) + 1), .string (strOfNums (opNm[i]?.getD [])), .int .i64 ((opCt[i]?.getD 0 : Nat) : Int)] 56))
        generalize strOfNums (opNm[i]?.getD []) = sv at *
        generalize ((opCt[i]?.getD 0 : Nat) : Int) = cv at *
        clear HN BR
        go_wp2
        exact ⟨⟨i + 1, by simp, by omega, HN2, BR2, HB2⟩, by simp [numAt]; omega⟩
    · have h2 : ¬ (i : Int) < 25 := by omega
      obtain rfl : i = 25 := by omega
      have HNO := hid (numV_no n HN.out)
      go_wp2
      exact bodyPost_ret (v := .tuple #[.agg #[.int .i64 0, .string ⟨#[]⟩, .int .i64 0], .bool false]) (by simp [results, Tryd.results37, go_sem, xr, zr]) rfl ⟨by rw [HNO.out], by have := hb.out; exact blBy⟩
theorem numberedT (w : World) (p : Nat) (n : Int) (hB : Blk w p 58 opAll.toArray) : Calls Tryd.prog 37 #[.pointer (some ⟨p, 0, none⟩), .int .i64 n] w fun e w' => e = .returned (numV n) ∧ Below w.heap.size w w' := numberedC w p n hB.lt (fun i _ => hB.cellF i)
/-- A step's numbers. -/
def insN (s : IN) : List Int := [s.a, s.b, s.c, s.d]
theorem numbersT (w : World) (x y : Value) (c : Nat) (hc : c ≤ 4) (s : IN) : Calls Tryd.prog 38 #[.agg #[x, y, .int .i64 (c : Int)], vIN s] w fun e w' => ∃ b : Nat, e = .returned (.slice (some ⟨b, 0, none⟩) c 4) ∧ Blk w' b 108 #[.int .i64 s.a, .int .i64 s.b, .int .i64 s.c, .int .i64 s.d] ∧ w.heap.size ≤ b ∧ Below w.heap.size w w' := by
  have hc2 : (c : Int) ≤ 4 := by omega
  unfold vIN
  go_enter Tryd.func38, Tryd.ntmps38
  go_wp2
  go_ret
  exact ⟨_, rfl, Blk.newAt (by simp), by omega, by exact blBy⟩
end Go.Proofs.YtpndejibjiojbaaDoor
