/-
  The program's: are steps those that read, or write? Both ways.
  The program's: are steps those that read, or write? Both ways.
  The document's: the writing steps of a block.
-/
import Derived.Test.YtdhkbdngmejklaaGreatDoorCVP3i
namespace Go.Proofs.YtdhkbdngmejklaaGreatDoor
open Go.RowKit
set_option maxRecDepth 1000000
set_option linter.unusedVariables false
set_option linter.unusedSimpArgs false
set_option maxHeartbeats 4000000
def DcP (bs : List BV) (l : List IN) : Prop := (∀ i (h : i < l.length), (l[i].op = 1 ↔ i = 0) ∧ rdI bs (ahI l.length i) l[i] = true) ∧ ∃ h : l.length - 1 < l.length, l[l.length - 1].op = 4
def EcP (bs : List BV) (l : List IN) : Prop := (∀ i (h : i < l.length), (l[i].op = 24 ↔ i + 1 = l.length) ∧ wrI' bs (ahI l.length i) l[i] = true) ∧ 0 < l.length
theorem isDecB (w : World) (bs : List BV) (ba : Option Addr) (bc : Nat) (hp : PgR w (.slice ba bs.length bc) bs) (hz : ∀ x ∈ bs, x.k.dec.length ≤ 140737488355328 ∧ x.k.enc.length ≤ 140737488355328) (l : List IN) (la : Option Addr) (lc : Nat) (hl : RowS w AnyZ 5 (.slice la l.length lc) l.length (l.flatMap cIN)) (hn : l.length ≤ 140737488355328) (hI : ∀ s ∈ l, I5 s) : Calls Tryz.prog 28 #[.slice ba bs.length bc, .slice la l.length lc] w (EqA w (DcP bs l)) := by
  have HR := hid hl
  have HG := hid hp
  have HZ := hid hz
  have HI := hid hI
  have HN := hid hn
  have n63 : (l.length : Int) ≤ 140737488355328 := by omega
  clear hl hp hz hI
  go_enter Tryz.func28, Tryz.ntmps28
  go_wp2_with fail
  go_loopw [10] (fun r wr => ∃ j : Nat, r = .int .i64 j ∧ j ≤ l.length ∧ Hid (∀ i (h : i < l.length), i < j → (l[i].op = 1 ↔ i = 0) ∧ rdI bs (ahI l.length i) l[i] = true) ∧ Hid (Blk wr w.heap.size 28 #[.slice la l.length lc]) ∧ Hid (Below w.heap.size w wr)) (fun r wr => l.length - numAt wr r)
  case atStart => exact ⟨0, rfl, by omega, hid (fun i h hi => by omega), hid (Blk.new _ _ _), hid (by exact blBy)⟩
  case round =>
    obtain ⟨j, rfl, hj, HS, Bl, hb⟩ := hrel
    have xl := Bl.out.cellF
    have zl := Bl.out.lt
    by_cases hlt : j < l.length
    · have h2 : (j : Int) < (l.length : Int) := by omega
      obtain ⟨pb, po, epb, hc⟩ := rowAt (g := cIN) (fun _ => rfl) (HR.out.kept hb.out) (i := j) (x := l[j]) (by simp [hlt])
      subst epb
      have c0 := hc 0 _ rfl
      have c1 := hc 1 _ rfl
      have c2 := hc 2 _ rfl
      have c3 := hc 3 _ rfl
      have c4 := hc 4 _ rfl
      clear hc
      simp only [Nat.add_zero] at c0
      have hpb : pb < wr.heap.size := World.block_lt_of_cell? _ _ c0
      have HIJ := hid (HI.out _ (List.getElem_mem hlt))
      have HNX : Hid ((l[j].op = 1 ↔ j = 0) → rdI bs (ahI l.length j) l[j] = true → ∀ i (h : i < l.length), i < j + 1 → (l[i].op = 1 ↔ i = 0) ∧ rdI bs (ahI l.length i) l[i] = true) := hid (fun ht hr i h hi => by
        by_cases e : i = j
        · subst e; exact ⟨ht, hr⟩
        · exact HS.out i h (by omega))
      have HNO : Hid (¬ ((l[j].op = 1 ↔ j = 0) ∧ rdI bs (ahI l.length j) l[j] = true) → ¬ DcP bs l) := hid (fun ht hp => ht (hp.1 j hlt))
      have HTP : Hid (((j : Int) == 0) = decide (j = 0)) := hid (by rw [Bool.eq_iff_iff]; simp <;> omega)
      clear HS
      generalize l[j] = s at *
      have HOP : Hid ((s.op == 1) = decide (s.op = 1)) := hid (by rw [Bool.eq_iff_iff]; simp)
      have HCA : Hid (∀ W tg, Below wr.heap.size ((wr.alloc (.cells #[.int .i64 j] 3)).alloc (.cells #[.int .i64 s.op, .int .i64 s.a, .int .i64 s.b, .int .i64 s.c, .int .i64 s.d] 63)) W → Blk W wr.heap.size 3 #[.int .i64 j] → Blk W w.heap.size 28 #[.slice (some ⟨pb, po, none⟩) l.length lc] → Calls Tryz.prog 43 (#[.int .i64 tg] ++ #[.pointer (some ⟨wr.heap.size, 0, none⟩), .pointer (some ⟨w.heap.size, 0, none⟩)]) W (BoA W (ahI l.length j tg))) := hid fun W tg _ q1 q2 => isDecP W wr.heap.size w.heap.size j l.length _ lc tg q1 q2 HN.out
      have Bj : Blk ((wr.alloc (.cells #[.int .i64 j] 3)).alloc (.cells #[.int .i64 s.op, .int .i64 s.a, .int .i64 s.b, .int .i64 s.c, .int .i64 s.d] 63)) wr.heap.size 3 #[.int .i64 j] := (Blk.new _ _ _).kept (below_alloc _)
      have Bl2 : Blk ((wr.alloc (.cells #[.int .i64 j] 3)).alloc (.cells #[.int .i64 s.op, .int .i64 s.a, .int .i64 s.b, .int .i64 s.c, .int .i64 s.d] 63)) w.heap.size 28 #[.slice (some ⟨pb, po, none⟩) l.length lc] := (Bl.out.kept (below_alloc _)).kept (below_alloc _)
      have HC := hid (isReadingP _ bs ba bc (HG.out.kept (show Below w.heap.size w ((wr.alloc (.cells #[.int .i64 j] 3)).alloc (.cells #[.int .i64 s.op, .int .i64 s.a, .int .i64 s.b, .int .i64 s.c, .int .i64 s.d] 63)) from bl_alloc (bl_alloc hb.out _) _)) HZ.out #[.pointer (some ⟨wr.heap.size, 0, none⟩), .pointer (some ⟨w.heap.size, 0, none⟩)] (ahI l.length j) (fun tg W hW => HCA.out W tg (hW.mono (by simp; omega)) (Bj.kept hW) (Bl2.kept hW)) s HIJ.out)
      replace Bl2 := hid Bl2
      clear Bj HCA
      by_cases kk : (s.op = 1 ↔ j = 0)
      · obtain ⟨cc, kq1, kq2⟩ : ∃ cc : Bool, (s.op == 1) = cc ∧ ((j : Int) == 0) = cc := ⟨decide (s.op = 1), HOP.out, by rw [HTP.out]; exact decide_eq_decide.2 kk.symm⟩
        replace kk := hid kk
        cases hrd : rdI bs (ahI l.length j) s with
        | false =>
          rw [hrd] at HC
          have HF := hid (HNO.out (fun h => by rw [hrd] at h; cases h.2))
          clear HNX HNO HTP HOP hrd kk
          cases cc <;>
          · go_wp2_with fail
            refine HC.out.mono ?_
            rintro e w1 ⟨rfl, hb1⟩
            have HB1 := hid (bl_then (bl_alloc (bl_alloc hb.out _) _) hb1)
            go_wp2
            go_ret
            exact EqA.no HF.out HB1.out
        | true =>
          rw [hrd] at HC
          have HS2 := hid (HNX.out kk.out hrd)
          clear HNX HNO HTP HOP hrd kk
          cases cc <;>
          · go_wp2_with fail
            refine HC.out.mono ?_
            rintro e w1 ⟨rfl, hb1⟩
            have Bl3 := hid (Bl2.out.kept hb1)
            have HB1 := hid (bl_then (bl_alloc (bl_alloc hb.out _) _) hb1)
            go_wp2
            exact ⟨⟨j + 1, by simp, by omega, HS2, Bl3, HB1⟩, by simp [numAt]; omega⟩
      · obtain ⟨cc, kq1, kq2⟩ : ∃ cc : Bool, (s.op == 1) = cc ∧ ((j : Int) == 0) = !cc := ⟨decide (s.op = 1), HOP.out, by
          rw [HTP.out, Bool.eq_iff_iff]
          by_cases a1 : s.op = 1 <;> by_cases a2 : j = 0 <;> simp_all⟩
        have HF := hid (HNO.out (fun h => kk h.1))
        have HB1 : Hid (Below w.heap.size w ((wr.alloc (.cells #[.int .i64 j] 3)).alloc (.cells #[.int .i64 s.op, .int .i64 s.a, .int .i64 s.b, .int .i64 s.c, .int .i64 s.d] 63))) := hid (bl_alloc (bl_alloc hb.out _) _)
        clear HNX HNO HTP HOP kk HC
        cases cc <;>
        · (try simp only [Bool.not_true, Bool.not_false] at kq2)
          go_wp2
          go_ret
          exact EqA.no HF.out HB1.out
    · have h2 : ¬ (j : Int) < (l.length : Int) := by omega
      by_cases h0 : 0 < l.length
      · have n0 : (0 : Int) < (l.length : Int) := by omega
        have hl1 : l.length - 1 < l.length := by omega
        obtain ⟨n2, en2⟩ : ∃ n2, n2 = l.length - 1 := ⟨_, rfl⟩
        have k4 : (l.length : Int) - 1 = (n2 : Int) := by omega
        have k5 : (n2 : Int) < (l.length : Int) := by omega
        obtain ⟨pb, po, epb, hc⟩ := rowAt (g := cIN) (fun _ => rfl) (HR.out.kept hb.out) (i := n2) (x := l[l.length - 1]) (by rw [en2]; simp [hl1])
        subst epb
        have c0 := hc 0 _ rfl
        clear hc en2
        simp only [Nat.add_zero] at c0
        have HE : Hid (l[l.length - 1].op = 4 → DcP bs l) := hid (fun h => ⟨fun i hi => HS.out i hi (by omega), hl1, h⟩)
        have HF : Hid (¬ l[l.length - 1].op = 4 → ¬ DcP bs l) := hid (fun h hp => h hp.2.2)
        have hpb : pb < wr.heap.size := World.block_lt_of_cell? _ _ c0
        have w64 : IntKind.i64.wrap (n2 : Int) = (n2 : Int) := wraps_i64 _ (by omega) (by omega)
        clear HS
        generalize l[l.length - 1].op = o at *
        replace h0 := hid h0
        by_cases ho : o = 4
        · subst ho
          replace HE := hid (HE.out rfl)
          clear HF
          go_wp2
          first
            | (go_ret; exact EqA.yes HE.out hb.out)
            | (go_quiet (fail); go_wp2; go_ret; exact EqA.yes HE.out (by have := hb.out; first | exact bl_drewN this _ | exact this))
        · have ko : (o == 4) = false := by simpa using ho
          replace HF := hid (HF.out ho)
          clear HE ho
          go_wp2
          first
            | (go_ret; exact EqA.no HF.out hb.out)
            | (go_quiet (fail); go_wp2; go_ret; exact EqA.no HF.out (by have := hb.out; first | exact bl_drewN this _ | exact this))
      · have n0 : ((0 : Int) < (l.length : Int)) = False := eq_false (by omega)
        have n1 : (0 < l.length) = False := eq_false h0
        have HF : Hid (¬ DcP bs l) := hid (fun hp => by have := hp.2.1; omega)
        replace h0 := hid h0
        clear HS
        go_wp2
        first
          | (go_ret; exact EqA.no HF.out hb.out)
          | (go_quiet (fail); go_wp2; go_ret; exact EqA.no HF.out (by have := hb.out; first | exact bl_drewN this _ | exact this))
theorem isEncB (w : World) (bs : List BV) (ba : Option Addr) (bc : Nat) (hp : PgR w (.slice ba bs.length bc) bs) (hz : ∀ x ∈ bs, x.k.dec.length ≤ 140737488355328 ∧ x.k.enc.length ≤ 140737488355328) (l : List IN) (la : Option Addr) (lc : Nat) (hl : RowS w AnyZ 5 (.slice la l.length lc) l.length (l.flatMap cIN)) (hn : l.length ≤ 140737488355328) (hI : ∀ s ∈ l, I5 s) : Calls Tryz.prog 29 #[.slice ba bs.length bc, .slice la l.length lc] w (EqA w (EcP bs l)) := by
  have HR := hid hl
  have HG := hid hp
  have HZ := hid hz
  have HI := hid hI
  have HN := hid hn
  have n63 : (l.length : Int) ≤ 140737488355328 := by omega
  clear hl hp hz hI
  go_enter Tryz.func29, Tryz.ntmps29
  go_wp2_with fail
  go_loopw [10] (fun r wr => ∃ j : Nat, r = .int .i64 j ∧ j ≤ l.length ∧ Hid (∀ i (h : i < l.length), i < j → (l[i].op = 24 ↔ i + 1 = l.length) ∧ wrI' bs (ahI l.length i) l[i] = true) ∧ Hid (Blk wr w.heap.size 28 #[.slice la l.length lc]) ∧ Hid (Below w.heap.size w wr)) (fun r wr => l.length - numAt wr r)
  case atStart => exact ⟨0, rfl, by omega, hid (fun i h hi => by omega), hid (Blk.new _ _ _), hid (by exact blBy)⟩
  case round =>
    obtain ⟨j, rfl, hj, HS, Bl, hb⟩ := hrel
    have xl := Bl.out.cellF
    have zl := Bl.out.lt
    by_cases hlt : j < l.length
    · have h2 : (j : Int) < (l.length : Int) := by omega
      obtain ⟨pb, po, epb, hc⟩ := rowAt (g := cIN) (fun _ => rfl) (HR.out.kept hb.out) (i := j) (x := l[j]) (by simp [hlt])
      subst epb
      have c0 := hc 0 _ rfl
      have c1 := hc 1 _ rfl
      have c2 := hc 2 _ rfl
      have c3 := hc 3 _ rfl
      have c4 := hc 4 _ rfl
      clear hc
      simp only [Nat.add_zero] at c0
      have hpb : pb < wr.heap.size := World.block_lt_of_cell? _ _ c0
      have HIJ := hid (HI.out _ (List.getElem_mem hlt))
      have HNX : Hid ((l[j].op = 24 ↔ j + 1 = l.length) → wrI' bs (ahI l.length j) l[j] = true → ∀ i (h : i < l.length), i < j + 1 → (l[i].op = 24 ↔ i + 1 = l.length) ∧ wrI' bs (ahI l.length i) l[i] = true) := hid (fun ht hr i h hi => by
        by_cases e : i = j
        · subst e; exact ⟨ht, hr⟩
        · exact HS.out i h (by omega))
      have HNO : Hid (¬ ((l[j].op = 24 ↔ j + 1 = l.length) ∧ wrI' bs (ahI l.length j) l[j] = true) → ¬ EcP bs l) := hid (fun ht hp => ht (hp.1 j hlt))
      have HTP : Hid (((j : Int) == (l.length : Int) - 1) = decide (j + 1 = l.length)) := hid (by rw [Bool.eq_iff_iff]; simp <;> omega)
      clear HS
      generalize l[j] = s at *
      have HOP : Hid ((s.op == 24) = decide (s.op = 24)) := hid (by rw [Bool.eq_iff_iff]; simp)
      have HCA : Hid (∀ W tg, Below wr.heap.size ((wr.alloc (.cells #[.int .i64 j] 3)).alloc (.cells #[.int .i64 s.op, .int .i64 s.a, .int .i64 s.b, .int .i64 s.c, .int .i64 s.d] 63)) W → Blk W wr.heap.size 3 #[.int .i64 j] → Blk W w.heap.size 28 #[.slice (some ⟨pb, po, none⟩) l.length lc] → Calls Tryz.prog 45 (#[.int .i64 tg] ++ #[.pointer (some ⟨wr.heap.size, 0, none⟩), .pointer (some ⟨w.heap.size, 0, none⟩)]) W (BoA W (ahI l.length j tg))) := hid fun W tg _ q1 q2 => isEncP W wr.heap.size w.heap.size j l.length _ lc tg q1 q2 HN.out
      have Bj : Blk ((wr.alloc (.cells #[.int .i64 j] 3)).alloc (.cells #[.int .i64 s.op, .int .i64 s.a, .int .i64 s.b, .int .i64 s.c, .int .i64 s.d] 63)) wr.heap.size 3 #[.int .i64 j] := (Blk.new _ _ _).kept (below_alloc _)
      have Bl2 : Blk ((wr.alloc (.cells #[.int .i64 j] 3)).alloc (.cells #[.int .i64 s.op, .int .i64 s.a, .int .i64 s.b, .int .i64 s.c, .int .i64 s.d] 63)) w.heap.size 28 #[.slice (some ⟨pb, po, none⟩) l.length lc] := (Bl.out.kept (below_alloc _)).kept (below_alloc _)
      have HC := hid (isWritingP _ bs ba bc (HG.out.kept (show Below w.heap.size w ((wr.alloc (.cells #[.int .i64 j] 3)).alloc (.cells #[.int .i64 s.op, .int .i64 s.a, .int .i64 s.b, .int .i64 s.c, .int .i64 s.d] 63)) from bl_alloc (bl_alloc hb.out _) _)) HZ.out #[.pointer (some ⟨wr.heap.size, 0, none⟩), .pointer (some ⟨w.heap.size, 0, none⟩)] (ahI l.length j) (fun tg W hW => HCA.out W tg (hW.mono (by simp; omega)) (Bj.kept hW) (Bl2.kept hW)) s HIJ.out)
      replace Bl2 := hid Bl2
      clear Bj HCA
      by_cases kk : (s.op = 24 ↔ j + 1 = l.length)
      · obtain ⟨cc, kq1, kq2⟩ : ∃ cc : Bool, (s.op == 24) = cc ∧ ((j : Int) == (l.length : Int) - 1) = cc := ⟨decide (s.op = 24), HOP.out, by rw [HTP.out]; exact decide_eq_decide.2 kk.symm⟩
        replace kk := hid kk
        cases hrd : wrI' bs (ahI l.length j) s with
        | false =>
          rw [hrd] at HC
          have HF := hid (HNO.out (fun h => by rw [hrd] at h; cases h.2))
          clear HNX HNO HTP HOP hrd kk
          cases cc <;>
          · go_wp2_with fail
            refine HC.out.mono ?_
            rintro e w1 ⟨rfl, hb1⟩
            have HB1 := hid (bl_then (bl_alloc (bl_alloc hb.out _) _) hb1)
            go_wp2
            go_ret
            exact EqA.no HF.out HB1.out
        | true =>
          rw [hrd] at HC
          have HS2 := hid (HNX.out kk.out hrd)
          clear HNX HNO HTP HOP hrd kk
          cases cc <;>
          · go_wp2_with fail
            refine HC.out.mono ?_
            rintro e w1 ⟨rfl, hb1⟩
            have Bl3 := hid (Bl2.out.kept hb1)
            have HB1 := hid (bl_then (bl_alloc (bl_alloc hb.out _) _) hb1)
            go_wp2
            exact ⟨⟨j + 1, by simp, by omega, HS2, Bl3, HB1⟩, by simp [numAt]; omega⟩
      · obtain ⟨cc, kq1, kq2⟩ : ∃ cc : Bool, (s.op == 24) = cc ∧ ((j : Int) == (l.length : Int) - 1) = !cc := ⟨decide (s.op = 24), HOP.out, by
          rw [HTP.out, Bool.eq_iff_iff]
          by_cases a1 : s.op = 24 <;> by_cases a2 : j + 1 = l.length <;> simp_all⟩
        have HF := hid (HNO.out (fun h => kk h.1))
        have HB1 : Hid (Below w.heap.size w ((wr.alloc (.cells #[.int .i64 j] 3)).alloc (.cells #[.int .i64 s.op, .int .i64 s.a, .int .i64 s.b, .int .i64 s.c, .int .i64 s.d] 63))) := hid (bl_alloc (bl_alloc hb.out _) _)
        clear HNX HNO HTP HOP kk HC
        cases cc <;>
        · (try simp only [Bool.not_true, Bool.not_false] at kq2)
          go_wp2
          go_ret
          exact EqA.no HF.out HB1.out
    · have h2 : ¬ (j : Int) < (l.length : Int) := by omega
      by_cases h0 : 0 < l.length
      · have n0 : (0 : Int) < (l.length : Int) := by omega
        have HE : Hid (EcP bs l) := hid ⟨fun i hi => HS.out i hi (by omega), h0⟩
        have n1 : (0 < l.length) = True := eq_true h0
        replace h0 := hid h0
        clear HS
        go_wp2
        go_ret
        exact EqA.yes HE.out hb.out
      · have n0 : ((0 : Int) < (l.length : Int)) = False := eq_false (by omega)
        have n1 : (0 < l.length) = False := eq_false h0
        have HF : Hid (¬ EcP bs l) := hid (fun hp => h0 hp.2)
        replace h0 := hid h0
        clear HS
        go_wp2
        go_ret
        exact EqA.no HF.out hb.out
/-- A writing step, at its place. -/
def WoP (bs : List BV) (n i : Nat) (s : IN) : Prop := (16 ≤ s.op ∧ s.op ≤ 25) ∧ ¬ (s.op = 24 ∧ (i : Int) < (n : Int) - 1) ∧ nuI bs s = true ∧ ¬ (s.op = 16 ∧ (s.b ≤ i ∨ (n : Int) ≤ s.b))
structure EnP (bs : List BV) (l : List IN) : Prop where
  pos : 0 < l.length
  last : ∀ h : l.length - 1 < l.length, l[l.length - 1].op = 24
  all : ∀ i (h : i < l.length), WoP bs l.length i l[i]
theorem encR (w : World) (bs : List BV) (ba : Option Addr) (bc : Nat) (hp : PgR w (.slice ba bs.length bc) bs) (K : BK) (da ea ra : Option Addr) (dc ec rc : Nat) (hk : BkR w K (.slice da K.dec.length dc) (.slice ea K.enc.length ec) (.slice ra K.rows.length rc)) (hI : ∀ s ∈ K.enc, I5 s) : Calls Tryz.prog 19 #[.agg #[.slice ba bs.length bc], .agg #[.slice da K.dec.length dc, .slice ea K.enc.length ec, .slice ra K.rows.length rc]] w (EqA w (EnP bs K.enc)) := by
  obtain ⟨_, _, e, hn⟩ := rowS_sl hk.he
  clear e
  have h63 : (K.enc.length : Int) ≤ 9223372036854775807 := by omega
  have HR := hid hk.he
  have HG := hid hp
  have HI := hid hI
  clear hk hp hI
  generalize K.dec.length = n1 at *
  generalize K.rows.length = n3 at *
  generalize K.enc = l at *
  by_cases h0 : l.length = 0
  · have q0 : ((l.length : Int) == 0) = true := by simp [h0]
    have HF : Hid (¬ EnP bs l) := hid (fun h => by have := h.pos; omega)
    rw [h0] at *
    clear h0 HR HG HI
    go_enter Tryz.func19, Tryz.ntmps19
    go_wp2
    first
      | (go_ret; exact EqA.no HF.out (by exact blBy))
      | (go_quiet (fail); go_wp2; go_ret; exact EqA.no HF.out (by first | exact bl_drewN (by exact blBy) _ | exact blBy))
  have q0 : ((l.length : Int) == 0) = false := by rw [beq_eq_false_iff_ne]; omega
  obtain ⟨m, em⟩ : ∃ m, l.length = m + 1 := ⟨l.length - 1, by omega⟩
  have w1 : (m : Int) + 1 - 1 = (m : Int) := by omega
  have w2 : (m : Int) < (m : Int) + 1 := by omega
  have HLO : Hid (l[m] = l[l.length - 1]'(by omega)) := hid (by congr 1; omega)
  replace HR : Hid (RowS w AnyZ 5 (.slice ea (m + 1) ec) l.length (l.flatMap cIN)) := hid (by rw [← em]; exact HR.out)
  rw [em]
  have h62 : (m : Int) ≤ 9223372036854775806 := by omega
  clear h63 q0
  have q0 : ((m : Int) + 1 == 0) = false := by rw [beq_eq_false_iff_ne]; omega
  replace h0 := hid h0
  have hml : m < l.length := by omega
  replace em := hid em
  have BB0 : Hid (Blk ((w.alloc (.cells #[.slice ba bs.length bc] 24)).alloc (.cells #[.slice da n1 dc, .slice ea (m + 1) ec, .slice ra n3 rc] 31)) (w.heap.size + 1) 31 #[.slice da n1 dc, .slice ea (m + 1) ec, .slice ra n3 rc]) := hid (Blk.newAt (by simp))
  have BP0 : Hid (Blk ((w.alloc (.cells #[.slice ba bs.length bc] 24)).alloc (.cells #[.slice da n1 dc, .slice ea (m + 1) ec, .slice ra n3 rc] 31)) w.heap.size 24 #[.slice ba bs.length bc]) := hid ((Blk.new _ _ _).kept (below_alloc _))
  have HB0 : Hid (Below w.heap.size w ((w.alloc (.cells #[.slice ba bs.length bc] 24)).alloc (.cells #[.slice da n1 dc, .slice ea (m + 1) ec, .slice ra n3 rc] 31))) := hid (by exact blBy)
  obtain ⟨eb, eo, eeb, hc⟩ := rowAt (g := cIN) (fun _ => rfl) HR.out (i := m) (x := l[m]) (by rw [List.getElem?_eq_getElem])
  subst eeb
  have c0 := hc 0 _ rfl
  clear hc
  simp only [Nat.add_zero] at c0
  have heb : eb < w.heap.size := World.block_lt_of_cell? _ _ c0
  have HLP : Hid (¬ (l[m]).op = 24 → ¬ EnP bs l) := hid (fun h hp => h (by rw [HLO.out]; exact hp.last _))
  have HLQ : Hid ((l[m]).op = 24 → ∀ h : l.length - 1 < l.length, l[l.length - 1].op = 24) := hid (fun h _ => by rw [← HLO.out]; exact h)
  generalize (l[m]).op = lo at *
  clear HLO
  by_cases h24 : lo = 24
  case neg =>
    have q24 : (lo != 24) = true := by simpa using h24
    have HF := hid (HLP.out h24)
    clear h24 HLP HLQ HR HG HI
    go_enter Tryz.func19, Tryz.ntmps19
    go_wp2
    first
      | (go_ret; exact EqA.no HF.out (by exact blBy))
      | (go_quiet (fail); go_wp2; go_ret; exact EqA.no HF.out (by first | exact bl_drewN (by exact blBy) _ | exact blBy))
  have q24 : (lo != 24) = false := by simpa using h24
  have HLA := hid (HLQ.out h24)
  clear HLP HLQ h24
  have HB0' := HB0
  go_enter Tryz.func19, Tryz.ntmps19
  go_wp2
  clear c0 q24
  generalize ((w.alloc (.cells #[.slice ba bs.length bc] 24)).alloc (.cells #[.slice da n1 dc, .slice (some ⟨eb, eo, none⟩) (m + 1) ec, .slice ra n3 rc] 31)) = V at *
  go_loopw [6] (fun r wr => ∃ j : Nat, r = .int .i64 j ∧ j ≤ m + 1 ∧ Hid (∀ i (h : i < l.length), i < j → WoP bs l.length i l[i]) ∧ Hid (Below V.heap.size V wr)) (fun r wr => m + 1 - numAt wr r)
  case atStart => exact ⟨0, rfl, by omega, hid (fun i h hi => by omega), hid (Below.refl _ _)⟩
  case round =>
    obtain ⟨j, rfl, hj, HS, hb⟩ := hrel
    have BB := hid (BB0.out.kept hb.out)
    have BP := hid (BP0.out.kept hb.out)
    have HBW : Hid (Below w.heap.size w wr) := hid (bl_then HB0.out hb.out)
    by_cases hlt0 : j < m + 1
    · skip
      have j2 : (j : Int) < (m : Int) + 1 := by omega
      have hlt : j < l.length := by have := em.out; omega
      obtain ⟨sb, so, esb, hc⟩ := rowAt (g := cIN) (fun _ => rfl) (HR.out.kept HBW.out) (i := j) (x := l[j]) (by simp [hlt])
      cases esb
      have s0 := hc 0 _ rfl
      have s1 := hc 1 _ rfl
      have s2 := hc 2 _ rfl
      have s3 := hc 3 _ rfl
      have s4 := hc 4 _ rfl
      clear hc
      simp only [Nat.add_zero] at s0
      have hsb : eb < wr.heap.size := World.block_lt_of_cell? _ _ s0
      have HI5 := hid (HI.out _ (List.getElem_mem hlt))
      have HNX : Hid (WoP bs l.length j l[j] → ∀ i (h : i < l.length), i < j + 1 → WoP bs l.length i l[i]) := hid (fun ht i h hi => by
        by_cases e : i = j
        · subst e; exact ht
        · exact HS.out i h (by omega))
      have HNO : Hid (¬ WoP bs l.length j l[j] → ¬ EnP bs l) := hid (fun ht hp => ht (hp.all j hlt))
      generalize l[j] = s at *
      have xb := BB.out.cellF
      have zb := BB.out.lt
      have BS : Hid (Blk (wr.alloc (.cells #[.int .i64 s.op, .int .i64 s.a, .int .i64 s.b, .int .i64 s.c, .int .i64 s.d] 63)) wr.heap.size 63 #[.int .i64 s.op, .int .i64 s.a, .int .i64 s.b, .int .i64 s.c, .int .i64 s.d]) := hid (Blk.new _ _ _)
      replace BP := hid (BP.out.kept (below_alloc (.cells #[.int .i64 s.op, .int .i64 s.a, .int .i64 s.b, .int .i64 s.c, .int .i64 s.d] 63)))
      replace BB := hid (BB.out.kept (below_alloc (.cells #[.int .i64 s.op, .int .i64 s.a, .int .i64 s.b, .int .i64 s.c, .int .i64 s.d] 63)))
      have hb2 : Hid (Below V.heap.size V (wr.alloc (.cells #[.int .i64 s.op, .int .i64 s.a, .int .i64 s.b, .int .i64 s.c, .int .i64 s.d] 63))) := hid (bl_alloc hb.out _)
      have HNU := hid (fun W (hW : Below w.heap.size w W) => numbersR W bs ba bc (HG.out.kept hW) s HI5.out)
      go_upto_region 8 with fail
      have HU : Hid (Below w.heap.size w (wr.alloc (.cells #[.int .i64 s.op, .int .i64 s.a, .int .i64 s.b, .int .i64 s.c, .int .i64 s.d] 63))) := hid (bl_then HB0.out hb2.out)
      clear s0 s1 s2 s3 s4 xb zb hsb HS HBW hb
      generalize wr.alloc (.cells #[.int .i64 s.op, .int .i64 s.a, .int .i64 s.b, .int .i64 s.c, .int .i64 s.d] 63) = U at *
      generalize wr.heap.size = p at *
      have xs := BS.out.cellF
      have zs := BS.out.lt
      have xp := BP.out.cellF
      have zp := BP.out.lt
      by_cases g1 : s.op < 16
      · have r1 : (s.op < 16) = True := eq_true g1
        have HF := hid (HNO.out (fun h => by have := h.1.1; omega))
        clear g1 HNO HNX
        go_wp2_with (first | (go_at_call 31; refine (HNU.out _ HU.out).mono ?_; rintro e w1 ⟨rfl, hbx⟩; replace HU := hid (bl_then HU.out hbx); replace BS := hid (BS.out.kept hbx); clear xs zs; have xs := BS.out.cellF; have zs := BS.out.lt; clear hbx))
        go_ret
        exact EqA.no HF.out HU.out
      have r1 : (s.op < 16) = False := eq_false g1
      by_cases g2 : 25 < s.op
      · have r2 : (25 < s.op) = True := eq_true g2
        have HF := hid (HNO.out (fun h => by have := h.1.2; omega))
        clear g1 g2 HNO HNX
        go_wp2_with (first | (go_at_call 31; refine (HNU.out _ HU.out).mono ?_; rintro e w1 ⟨rfl, hbx⟩; replace HU := hid (bl_then HU.out hbx); replace BS := hid (BS.out.kept hbx); clear xs zs; have xs := BS.out.cellF; have zs := BS.out.lt; clear hbx))
        go_ret
        exact EqA.no HF.out HU.out
      have r2 : (25 < s.op) = False := eq_false g2
      by_cases g3 : s.op = 24 ∧ (j : Int) < (m : Int)
      · have r3 : (s.op == 24) = true := by simp [g3.1]
        have r4 : ((j : Int) < (m : Int)) = True := eq_true g3.2
        have r5 : (j < m) = True := eq_true (by omega)
        have HF := hid (HNO.out (fun h => h.2.1 ⟨g3.1, by have := em.out; have := g3.2; omega⟩))
        clear g1 g2 g3 HNO HNX
        go_wp2_with (first | (go_at_call 31; refine (HNU.out _ HU.out).mono ?_; rintro e w1 ⟨rfl, hbx⟩; replace HU := hid (bl_then HU.out hbx); replace BS := hid (BS.out.kept hbx); clear xs zs; have xs := BS.out.cellF; have zs := BS.out.lt; clear hbx))
        go_ret
        exact EqA.no HF.out HU.out
      obtain ⟨b3, e3⟩ : ∃ b3, (s.op == 24) = b3 := ⟨_, rfl⟩
      have r5 : b3 = true → ¬ (j : Int) < (m : Int) := fun hb3 h => g3 ⟨by rw [hb3] at e3; simpa using e3, h⟩
      have r4 : b3 = true → ((j : Int) < (m : Int)) = False := fun h => eq_false (r5 h)
      have r6 : b3 = true → (j < m) = False := fun h => eq_false (fun hh => r5 h (by omega))
      clear r5
      cases hnu : nuI bs s with
      | false =>
        have HF := hid (HNO.out (fun h => by have := h.2.2.1; rw [hnu] at this; cases this))
        rw [hnu] at HNU
        clear g1 g2 g3 hnu HNO HNX
        cases b3 with
        | true =>
          replace r4 := r4 rfl
          replace r6 := r6 rfl
          go_wp2_with (first | (go_at_call 31; refine (HNU.out _ HU.out).mono ?_; rintro e w1 ⟨rfl, hbx⟩; replace HU := hid (bl_then HU.out hbx); replace BS := hid (BS.out.kept hbx); replace hb2 := hid (bl_then hb2.out hbx); clear xs zs; have xs := BS.out.cellF; have zs := BS.out.lt; clear hbx))
          go_ret
          exact EqA.no HF.out HU.out
        | false =>
          clear r4 r6
          go_wp2_with (first | (go_at_call 31; refine (HNU.out _ HU.out).mono ?_; rintro e w1 ⟨rfl, hbx⟩; replace HU := hid (bl_then HU.out hbx); replace BS := hid (BS.out.kept hbx); replace hb2 := hid (bl_then hb2.out hbx); clear xs zs; have xs := BS.out.cellF; have zs := BS.out.lt; clear hbx))
          go_ret
          exact EqA.no HF.out HU.out
      | true =>
        rw [hnu] at HNU
        by_cases g4 : s.op = 16 ∧ (s.b ≤ (j : Int) ∨ (m : Int) + 1 ≤ s.b)
        · have r7 : (s.op == 16) = true := by simp [g4.1]
          obtain rfl : b3 = false := by rw [← e3]; simp [g4.1]
          have HF := hid (HNO.out (fun h => h.2.2.2 ⟨g4.1, by have := em.out; have := g4.2; omega⟩))
          clear r4 r6
          by_cases g5 : s.b ≤ (j : Int)
          · have r8 : (s.b ≤ (j : Int)) = True := eq_true g5
            clear g1 g2 g3 g4 g5 hnu HNO HNX
            go_wp2_with (first | (go_at_call 31; refine (HNU.out _ HU.out).mono ?_; rintro e w1 ⟨rfl, hbx⟩; replace HU := hid (bl_then HU.out hbx); replace BS := hid (BS.out.kept hbx); replace hb2 := hid (bl_then hb2.out hbx); clear xs zs; have xs := BS.out.cellF; have zs := BS.out.lt; clear hbx))
            go_ret
            exact EqA.no HF.out HU.out
          · have r8 : (s.b ≤ (j : Int)) = False := eq_false g5
            have r9 : ((m : Int) + 1 ≤ s.b) = True := eq_true (by have := g4.2; omega)
            clear g1 g2 g3 g4 g5 hnu HNO HNX
            go_wp2_with (first | (go_at_call 31; refine (HNU.out _ HU.out).mono ?_; rintro e w1 ⟨rfl, hbx⟩; replace HU := hid (bl_then HU.out hbx); replace BS := hid (BS.out.kept hbx); replace hb2 := hid (bl_then hb2.out hbx); clear xs zs; have xs := BS.out.cellF; have zs := BS.out.lt; clear hbx))
            go_ret
            exact EqA.no HF.out HU.out
        have HS2 := hid (HNX.out ⟨⟨by omega, by omega⟩, fun h => g3 ⟨h.1, by have := em.out; have := h.2; omega⟩, hnu, fun h => g4 ⟨h.1, by have := em.out; have := h.2; omega⟩⟩)
        obtain ⟨b6, e6⟩ : ∃ b6, (s.op == 16) = b6 := ⟨_, rfl⟩
        have r8 : b6 = true → (s.b ≤ (j : Int)) = False := fun h => eq_false (fun q => g4 ⟨by rw [h] at e6; simpa using e6, .inl q⟩)
        have r9 : b6 = true → ((m : Int) + 1 ≤ s.b) = False := fun h => eq_false (fun q => g4 ⟨by rw [h] at e6; simpa using e6, .inr q⟩)
        clear g1 g2 g3 g4 hnu HNO HNX
        have hjm : j + 1 ≤ m + 1 := by omega
        cases b6 with
        | true =>
          replace r8 := r8 rfl
          replace r9 := r9 rfl
          obtain rfl : b3 = false := by
            have h1 : s.op = 16 := by simpa using e6
            rw [← e3]
            simp [h1]
          clear r4 r6
          go_wp2_with (first | (go_at_call 31; refine (HNU.out _ HU.out).mono ?_; rintro e w1 ⟨rfl, hbx⟩; replace HU := hid (bl_then HU.out hbx); replace BS := hid (BS.out.kept hbx); replace hb2 := hid (bl_then hb2.out hbx); clear xs zs; have xs := BS.out.cellF; have zs := BS.out.lt; clear hbx))
          exact ⟨⟨j + 1, by simp, hjm, HS2, hb2⟩, by simp [numAt]; omega⟩
        | false =>
          clear r8 r9
          cases b3 with
          | true =>
            replace r4 := r4 rfl
            replace r6 := r6 rfl
            go_wp2_with (first | (go_at_call 31; refine (HNU.out _ HU.out).mono ?_; rintro e w1 ⟨rfl, hbx⟩; replace HU := hid (bl_then HU.out hbx); replace BS := hid (BS.out.kept hbx); replace hb2 := hid (bl_then hb2.out hbx); clear xs zs; have xs := BS.out.cellF; have zs := BS.out.lt; clear hbx))
            exact ⟨⟨j + 1, by simp, hjm, HS2, hb2⟩, by simp [numAt]; omega⟩
          | false =>
            clear r4 r6
            go_wp2_with (first | (go_at_call 31; refine (HNU.out _ HU.out).mono ?_; rintro e w1 ⟨rfl, hbx⟩; replace HU := hid (bl_then HU.out hbx); replace BS := hid (BS.out.kept hbx); replace hb2 := hid (bl_then hb2.out hbx); clear xs zs; have xs := BS.out.cellF; have zs := BS.out.lt; clear hbx))
            exact ⟨⟨j + 1, by simp, hjm, HS2, hb2⟩, by simp [numAt]; omega⟩
    · skip
      have j2 : ¬ (j : Int) < (m : Int) + 1 := by omega
      have HE : Hid (EnP bs l) := hid ⟨by have := em.out; omega, HLA.out, fun i h => HS.out i h (by have := em.out; omega)⟩
      go_wp2
      go_ret
      exact EqA.yes HE.out HBW.out
end Go.Proofs.YtdhkbdngmejklaaGreatDoor
