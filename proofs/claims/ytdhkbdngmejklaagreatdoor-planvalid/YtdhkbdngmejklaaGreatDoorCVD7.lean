/-
  The document's: the reading steps of a block.
  The document's: is a program one?
  The program's: are rows those of the Jumps? Both ways.
-/
import Derived.Test.YtdhkbdngmejklaaGreatDoorCVP11
namespace Go.Proofs.YtdhkbdngmejklaaGreatDoor
open Go.RowKit
set_option maxRecDepth 1000000
set_option linter.unusedVariables false
set_option linter.unusedSimpArgs false
set_option maxHeartbeats 4000000
/-- A reading step, at its place. -/
def RoP (bs : List BV) (n i : Nat) (s : IN) : Prop := (1 ≤ s.op ∧ s.op ≤ 15) ∧ ¬ (s.op = 1 ∧ 0 < i) ∧ nuI bs s = true ∧ ¬ (s.op = 2 ∧ (s.b ≤ i ∨ (n : Int) ≤ s.b)) ∧ ¬ (s.op = 3 ∧ (s.a ≤ i ∨ (n : Int) ≤ s.a)) ∧ ¬ (s.op = 4 ∧ (s.a < 0 ∨ (n : Int) ≤ s.a ∨ (0 < s.a ∧ s.a ≤ i)))
/-- The last Jump among the first j. -/
def LJ (l : List IN) (j p : Nat) : Prop := (p = 0 ∧ ∀ i (h : i < l.length), i < j → l[i].op ≠ 3) ∨ (∃ h : p < l.length, p < j ∧ l[p].op = 3 ∧ ∀ i (h : i < l.length), p < i → i < j → l[i].op ≠ 3)
def JmP (l : List IN) (j : Nat) : Prop := ∃ i, ∃ h : i < l.length, i < j ∧ l[i].op = 3
def RwP (l : List IN) (r : LN) : Prop := tgI r.tag = true ∧ (∀ p, LJ l l.length p → (p : Int) < r.pl) ∧ r.pl < (l.length : Int)
structure DeP (bs : List BV) (K : BK) : Prop where
  pos : 0 < K.dec.length
  last : ∀ h : K.dec.length - 1 < K.dec.length, K.dec[K.dec.length - 1].op = 4
  first : ∀ h : 0 < K.dec.length, K.dec[0].op = 1
  all : ∀ i (h : i < K.dec.length), RoP bs K.dec.length i K.dec[i]
  jump : JmP K.dec K.dec.length ↔ 0 < K.rows.length
  rows : ∀ r ∈ K.rows, RwP K.dec r
theorem LJ.no {l : List IN} {j p : Nat} (h : LJ l j p) (hj : j < l.length) (hn : l[j].op ≠ 3) : LJ l (j + 1) p := by
  rcases h with ⟨e, h⟩ | ⟨hp, h1, h2, h3⟩
  · exact .inl ⟨e, fun i hi hij => by
      by_cases q : i = j
      · subst q; exact hn
      · exact h i hi (by omega)⟩
  · exact .inr ⟨hp, by omega, h2, fun i hi hpi hij => by
      by_cases q : i = j
      · subst q; exact hn
      · exact h3 i hi hpi (by omega)⟩
theorem LJ.yes {l : List IN} {j : Nat} (hj : j < l.length) (hn : l[j].op = 3) : LJ l (j + 1) j := .inr ⟨hj, by omega, hn, fun i hi h1 h2 => by omega⟩
theorem LJ.uniq {l : List IN} {p q : Nat} (h : LJ l l.length p) (g : LJ l l.length q) : p = q := by
  rcases h with ⟨e, h⟩ | ⟨hp, h1, h2, h3⟩
  · rcases g with ⟨e', g⟩ | ⟨hq, g1, g2, g3⟩
    · omega
    · exact absurd g2 (h q hq g1)
  · rcases g with ⟨e', g⟩ | ⟨hq, g1, g2, g3⟩
    · exact absurd h2 (g p hp h1)
    · rcases Nat.lt_trichotomy p q with c | c | c
      · exact absurd g2 (h3 q hq c g1)
      · exact c
      · exact absurd h2 (g3 p hp c h1)
theorem decR (w : World) (bs : List BV) (ba : Option Addr) (bc : Nat) (hp : PgR w (.slice ba bs.length bc) bs) (K : BK) (ea da ra : Option Addr) (ec dc rc : Nat) (hk : BkR w K (.slice ea K.dec.length ec) (.slice da K.enc.length dc) (.slice ra K.rows.length rc)) (hI : ∀ s ∈ K.dec, I5 s) (hT : ∀ r ∈ K.rows, r.tag ≤ 9223372036854775807) : Calls Tryz.prog 18 #[.agg #[.slice ba bs.length bc], .agg #[.slice ea K.dec.length ec, .slice da K.enc.length dc, .slice ra K.rows.length rc]] w (EqA w (DeP bs K)) := by
  obtain ⟨_, _, e, hn⟩ := rowS_sl hk.hd
  clear e
  obtain ⟨_, _, e, hnr⟩ := rowS_sl hk.hr
  clear e
  have r63 : (K.rows.length : Int) ≤ 9223372036854775807 := by omega
  have HR := hid hk.hd
  have HQ := hid hk.hr
  have HG := hid hp
  have HI := hid hI
  have HTG := hid hT
  clear hk hp hI hT
  generalize K.enc.length = n1 at *
  obtain ⟨l, el⟩ : ∃ l, l = K.dec := ⟨_, rfl⟩
  rw [← el] at HR HI hn ⊢
  replace el := hid el
  by_cases h0 : l.length = 0
  · have q0 : ((l.length : Int) == 0) = true := by simp [h0]
    have HF : Hid (¬ DeP bs K) := hid (fun h => by have := h.pos; rw [← el.out] at this; omega)
    rw [h0] at *
    clear h0 HR HG HI HQ
    go_enter Tryz.func18, Tryz.ntmps18
    go_wp2
    go_ret
    exact EqA.no HF.out (by exact blBy)
  obtain ⟨m, em⟩ : ∃ m, l.length = m + 1 := ⟨l.length - 1, by omega⟩
  have w1 : (m : Int) + 1 - 1 = (m : Int) := by omega
  have w2 : (m : Int) < (m : Int) + 1 := by omega
  have w0 : (0 : Int) < (m : Int) + 1 := by omega
  have hml : m < l.length := by omega
  have h0l : 0 < l.length := by omega
  have HLO : Hid (l[m] = l[l.length - 1]'(by omega)) := hid (by congr 1; omega)
  replace HR : Hid (RowS w AnyZ 5 (.slice ea (m + 1) ec) l.length (l.flatMap cIN)) := hid (by rw [← em]; exact HR.out)
  rw [em]
  have h62 : (m : Int) ≤ 9223372036854775806 := by omega
  replace h0 := hid h0
  have q0 : ((m : Int) + 1 == 0) = false := by rw [beq_eq_false_iff_ne]; omega
  replace em := hid em
  obtain ⟨eb, eo, eeb, hc⟩ := rowAt (g := cIN) (fun _ => rfl) HR.out (i := m) (x := l[m]) (by rw [List.getElem?_eq_getElem])
  obtain ⟨eb', eo', eeb', hc'⟩ := rowAt (g := cIN) (fun _ => rfl) HR.out (i := 0) (x := l[0]) (by rw [List.getElem?_eq_getElem])
  subst eeb
  cases eeb'
  have c0 := hc 0 _ rfl
  have d0 := hc' 0 _ rfl
  clear hc hc'
  simp only [Nat.add_zero, Nat.zero_mul] at c0 d0
  have heb : eb < w.heap.size := World.block_lt_of_cell? _ _ c0
  have HLP : Hid (¬ l[m].op = 4 → ¬ DeP bs K) := hid (fun h hp => h (by rw [HLO.out]; have := hp.last; rw [← el.out] at this; exact this (by omega)))
  have HLQ : Hid (l[m].op = 4 → ∀ h : l.length - 1 < l.length, l[l.length - 1].op = 4) := hid (fun h _ => by rw [← HLO.out]; exact h)
  have HFP : Hid (¬ l[0].op = 1 → ¬ DeP bs K) := hid (fun h hp => h (by have := hp.first; rw [← el.out] at this; exact this h0l))
  have HFQ : Hid (l[0].op = 1 → ∀ h : 0 < l.length, l[0].op = 1) := hid (fun h _ => h)
  generalize l[m].op = lo at *
  generalize l[0].op = fo at *
  clear HLO
  by_cases h4 : lo = 4
  case neg =>
    have q4 : (lo != 4) = true := by simpa using h4
    have HF := hid (HLP.out h4)
    clear h4 HLP HLQ HR HG HI HQ HFP HFQ
    go_enter Tryz.func18, Tryz.ntmps18
    go_wp2
    go_ret
    exact EqA.no HF.out (by exact blBy)
  have q4 : (lo != 4) = false := by simpa using h4
  have HLA := hid (HLQ.out h4)
  clear HLP HLQ h4
  by_cases h1 : fo = 1
  case neg =>
    have q1 : (fo != 1) = true := by simpa using h1
    have HF := hid (HFP.out h1)
    clear h1 HR HG HI HQ HFP HFQ HLA
    go_enter Tryz.func18, Tryz.ntmps18
    go_wp2
    go_ret
    exact EqA.no HF.out (by exact blBy)
  have q1 : (fo != 1) = false := by simpa using h1
  have HFA : Hid (∀ h : 0 < l.length, l[0].op = 1) := hid (by first | exact HFQ.out h1 | exact fun _ => (by have := HFQ.out h1; exact this h0l))
  clear HFP HFQ h1
  have BB0 : Hid (Blk ((w.alloc (.cells #[.slice ba bs.length bc] 24)).alloc (.cells #[.slice (some ⟨eb, eo, none⟩) (m + 1) ec, .slice da n1 dc, .slice ra K.rows.length rc] 31)) (w.heap.size + 1) 31 #[.slice (some ⟨eb, eo, none⟩) (m + 1) ec, .slice da n1 dc, .slice ra K.rows.length rc]) := hid (Blk.newAt (by simp))
  have BP0 : Hid (Blk ((w.alloc (.cells #[.slice ba bs.length bc] 24)).alloc (.cells #[.slice (some ⟨eb, eo, none⟩) (m + 1) ec, .slice da n1 dc, .slice ra K.rows.length rc] 31)) w.heap.size 24 #[.slice ba bs.length bc]) := hid ((Blk.new _ _ _).kept (below_alloc _))
  have HB0 : Hid (Below w.heap.size w ((w.alloc (.cells #[.slice ba bs.length bc] 24)).alloc (.cells #[.slice (some ⟨eb, eo, none⟩) (m + 1) ec, .slice da n1 dc, .slice ra K.rows.length rc] 31))) := hid (by exact blBy)
  go_enter Tryz.func18, Tryz.ntmps18
  go_wp2
  clear c0 d0 q4 q1
  generalize ((w.alloc (.cells #[.slice ba bs.length bc] 24)).alloc (.cells #[.slice (some ⟨eb, eo, none⟩) (m + 1) ec, .slice da n1 dc, .slice ra K.rows.length rc] 31)) = V at *
  go_loopw [6, 7, 8] (fun r6 r7 r wr => ∃ (j jn lj : Nat), r = .int .i64 j ∧ r6 = .int .i64 jn ∧ r7 = .int .i64 lj ∧ j ≤ m + 1 ∧ jn ≤ j ∧ Hid (∀ i (h : i < l.length), i < j → RoP bs l.length i l[i]) ∧ Hid (0 < jn ↔ JmP l j) ∧ Hid (LJ l j lj) ∧ Hid (Below V.heap.size V wr)) (fun r6 r7 r wr => m + 1 - numAt wr r)
  case atStart => exact ⟨0, 0, 0, rfl, rfl, rfl, by omega, by omega, hid (fun i h hi => by omega), hid ⟨fun h => by omega, fun ⟨i, h, hi, _⟩ => by omega⟩, hid (.inl ⟨rfl, fun i h hi => by omega⟩), hid (Below.refl _ _)⟩
  case round =>
    obtain ⟨j, jn, lj, rfl, rfl, rfl, hj, hjn, HS, HJM, HLJ, hb⟩ := hrel
    have BB := hid (BB0.out.kept hb.out)
    have BP := hid (BP0.out.kept hb.out)
    have HBW : Hid (Below w.heap.size w wr) := hid (bl_then HB0.out hb.out)
    by_cases hlt0 : j < m + 1
    · have j2 : (j : Int) < (m : Int) + 1 := by omega
      have hlt : j < l.length := by have := em.out; omega
      obtain ⟨sb, so, esb, hc⟩ := rowAt (g := cIN) (fun _ => rfl) (HR.out.kept HBW.out) (i := j) (x := l[j]) (by simp [hlt])
      cases esb
      have s0 := hc 0 _ rfl
      have s1 := hc 1 _ rfl
      have s2 := hc 2 _ rfl
      have s3 := hc 3 _ rfl
      have s4 := hc 4 _ rfl
      clear hc
      simp only [Nat.add_zero] at s0
      have hsb : eb < wr.heap.size := World.block_lt_of_cell? _ _ s0
      have HI5 := hid (HI.out _ (List.getElem_mem hlt))
      have HNX : Hid (RoP bs l.length j l[j] → ∀ i (h : i < l.length), i < j + 1 → RoP bs l.length i l[i]) := hid (fun ht i h hi => by
        by_cases e : i = j
        · subst e; exact ht
        · exact HS.out i h (by omega))
      have HNO : Hid (¬ RoP bs l.length j l[j] → ¬ DeP bs K) := hid (fun ht hp => ht (by have := hp.all; rw [← el.out] at this; exact this j hlt))
      have HLN : Hid (l[j].op ≠ 3 → (0 < jn ↔ JmP l (j + 1)) ∧ LJ l (j + 1) lj) := hid (fun h => ⟨⟨fun q => by
          obtain ⟨i, hi, h1, h2⟩ := HJM.out.1 q
          exact ⟨i, hi, by omega, h2⟩, fun ⟨i, hi, h1, h2⟩ => HJM.out.2 ⟨i, hi, by
            by_cases e : i = j
            · subst e; exact absurd h2 h
            · omega, h2⟩⟩, HLJ.out.no hlt h⟩)
      have HLY : Hid (l[j].op = 3 → JmP l (j + 1) ∧ LJ l (j + 1) j) := hid (fun h => ⟨⟨j, hlt, by omega, h⟩, LJ.yes hlt h⟩)
      generalize l[j] = s at *
      have xb := BB.out.cellF
      have zb := BB.out.lt
      have BS : Hid (Blk (wr.alloc (.cells #[.int .i64 s.op, .int .i64 s.a, .int .i64 s.b, .int .i64 s.c, .int .i64 s.d] 63)) wr.heap.size 63 #[.int .i64 s.op, .int .i64 s.a, .int .i64 s.b, .int .i64 s.c, .int .i64 s.d]) := hid (Blk.new _ _ _)
      replace BP := hid (BP.out.kept (below_alloc (.cells #[.int .i64 s.op, .int .i64 s.a, .int .i64 s.b, .int .i64 s.c, .int .i64 s.d] 63)))
      replace BB := hid (BB.out.kept (below_alloc (.cells #[.int .i64 s.op, .int .i64 s.a, .int .i64 s.b, .int .i64 s.c, .int .i64 s.d] 63)))
      have hb2 : Hid (Below V.heap.size V (wr.alloc (.cells #[.int .i64 s.op, .int .i64 s.a, .int .i64 s.b, .int .i64 s.c, .int .i64 s.d] 63))) := hid (bl_alloc hb.out _)
      have HNU := hid (fun W (hW : Below w.heap.size w W) => numbersR W bs ba bc (HG.out.kept hW) s HI5.out)
      have hjm : j + 1 ≤ m + 1 := by omega
      have jb : (jn : Int) ≤ 9223372036854775806 := by omega
      have jw : wrap64 ((jn : Int) + 1) = (jn : Int) + 1 := by unfold wrap64; omega
      have jw2 : IntKind.i64.wrap ((jn : Int) + 1) = (jn : Int) + 1 := by rw [IntKind.wrap_i64]; omega
      go_upto_region 10 with fail
      have HU : Hid (Below w.heap.size w (wr.alloc (.cells #[.int .i64 s.op, .int .i64 s.a, .int .i64 s.b, .int .i64 s.c, .int .i64 s.d] 63))) := hid (bl_then HB0.out hb2.out)
      clear s0 s1 s2 s3 s4 xb zb hsb HS HBW hb HJM HLJ
      generalize wr.alloc (.cells #[.int .i64 s.op, .int .i64 s.a, .int .i64 s.b, .int .i64 s.c, .int .i64 s.d] 63) = U at *
      generalize wr.heap.size = p at *
      have xs := BS.out.cellF
      have zs := BS.out.lt
      have xp := BP.out.cellF
      have zp := BP.out.lt
      by_cases g1 : s.op < 1
      · have r1 : (s.op < 1) = True := eq_true g1
        have HF := hid (HNO.out (fun h => by have := h.1.1; omega))
        clear g1 HNO HNX HLN HLY
        go_wp2_with (first | (go_at_call 31; refine (HNU.out _ HU.out).mono ?_; rintro e w1 ⟨rfl, hbx⟩; replace HU := hid (bl_then HU.out hbx); replace BS := hid (BS.out.kept hbx); replace hb2 := hid (bl_then hb2.out hbx); clear xs zs; have xs := BS.out.cellF; have zs := BS.out.lt; clear hbx))
        go_ret
        exact EqA.no HF.out HU.out
      have r1 : (s.op < 1) = False := eq_false g1
      by_cases g2 : 15 < s.op
      · have r2 : (15 < s.op) = True := eq_true g2
        have HF := hid (HNO.out (fun h => by have := h.1.2; omega))
        clear g1 g2 HNO HNX HLN HLY
        go_wp2_with (first | (go_at_call 31; refine (HNU.out _ HU.out).mono ?_; rintro e w1 ⟨rfl, hbx⟩; replace HU := hid (bl_then HU.out hbx); replace BS := hid (BS.out.kept hbx); replace hb2 := hid (bl_then hb2.out hbx); clear xs zs; have xs := BS.out.cellF; have zs := BS.out.lt; clear hbx))
        go_ret
        exact EqA.no HF.out HU.out
      have r2 : (15 < s.op) = False := eq_false g2
      by_cases o1 : s.op = 1
      · have t2 : (s.op == 2) = false := by simp [o1]
        have t3 : (s.op == 3) = false := by simp [o1]
        have t4 : (s.op == 4) = false := by simp [o1]
        have t1 : (s.op == 1) = true := by simp [o1]
        rcases Nat.eq_zero_or_pos j with j0 | j0
        case inr =>
          have r3 : ((0 : Int) < (j : Int)) = True := eq_true (by omega)
          have r4 : (0 < j) = True := eq_true j0
          have HF := hid (HNO.out (fun h => h.2.1 ⟨o1, j0⟩))
          clear g1 g2 o1 HNO HNX HLN HLY j0
          go_wp2_with (first | (go_at_call 31; refine (HNU.out _ HU.out).mono ?_; rintro e w1 ⟨rfl, hbx⟩; replace HU := hid (bl_then HU.out hbx); replace BS := hid (BS.out.kept hbx); replace hb2 := hid (bl_then hb2.out hbx); clear xs zs; have xs := BS.out.cellF; have zs := BS.out.lt; clear hbx))
          go_ret
          exact EqA.no HF.out HU.out
        have r3 : ((0 : Int) < (j : Int)) = False := eq_false (by omega)
        have r4 : (0 < j) = False := eq_false (by omega)
        cases hnu : nuI bs s with
        | false =>
          have HF := hid (HNO.out (fun h => by have := h.2.2.1; rw [hnu] at this; cases this))
          rw [hnu] at HNU
          clear g1 g2 o1 hnu HNO HNX HLN HLY j0
          go_wp2_with (first | (go_at_call 31; refine (HNU.out _ HU.out).mono ?_; rintro e w1 ⟨rfl, hbx⟩; replace HU := hid (bl_then HU.out hbx); replace BS := hid (BS.out.kept hbx); replace hb2 := hid (bl_then hb2.out hbx); clear xs zs; have xs := BS.out.cellF; have zs := BS.out.lt; clear hbx))
          go_ret
          exact EqA.no HF.out HU.out
        | true =>
          rw [hnu] at HNU
          have HS2 := hid (HNX.out ⟨⟨by omega, by omega⟩, fun h => by omega, hnu, fun h => by omega, fun h => by omega, fun h => by omega⟩)
          have HJ2 := hid (HLN.out (by omega))
          clear g1 g2 o1 hnu HNO HNX HLN HLY j0
          go_wp2_with (first | (go_at_call 31; refine (HNU.out _ HU.out).mono ?_; rintro e w1 ⟨rfl, hbx⟩; replace HU := hid (bl_then HU.out hbx); replace BS := hid (BS.out.kept hbx); replace hb2 := hid (bl_then hb2.out hbx); clear xs zs; have xs := BS.out.cellF; have zs := BS.out.lt; clear hbx))
          exact ⟨⟨j + 1, jn, lj, by simp, by simp, by simp, hjm, by omega, HS2, hid HJ2.out.1, hid HJ2.out.2, hb2⟩, by simp [numAt]; omega⟩
      have t1 : (s.op == 1) = false := by simpa using o1
      cases hnu : nuI bs s with
      | false =>
        have HF := hid (HNO.out (fun h => by have := h.2.2.1; rw [hnu] at this; cases this))
        rw [hnu] at HNU
        clear g1 g2 o1 hnu HNO HNX HLN HLY
        go_wp2_with (first | (go_at_call 31; refine (HNU.out _ HU.out).mono ?_; rintro e w1 ⟨rfl, hbx⟩; replace HU := hid (bl_then HU.out hbx); replace BS := hid (BS.out.kept hbx); replace hb2 := hid (bl_then hb2.out hbx); clear xs zs; have xs := BS.out.cellF; have zs := BS.out.lt; clear hbx))
        go_ret
        exact EqA.no HF.out HU.out
      | true =>
      rw [hnu] at HNU
      by_cases o2 : s.op = 2
      · have t2 : (s.op == 2) = true := by simp [o2]
        have t3 : (s.op == 3) = false := by simp [o2]
        have t4 : (s.op == 4) = false := by simp [o2]
        by_cases g5 : s.b ≤ (j : Int)
        · have r8 : (s.b ≤ (j : Int)) = True := eq_true g5
          have HF := hid (HNO.out (fun h => h.2.2.2.1 ⟨o2, .inl g5⟩))
          clear g1 g2 o1 o2 g5 hnu HNO HNX HLN HLY
          go_wp2_with (first | (go_at_call 31; refine (HNU.out _ HU.out).mono ?_; rintro e w1 ⟨rfl, hbx⟩; replace HU := hid (bl_then HU.out hbx); replace BS := hid (BS.out.kept hbx); replace hb2 := hid (bl_then hb2.out hbx); clear xs zs; have xs := BS.out.cellF; have zs := BS.out.lt; clear hbx))
          go_ret
          exact EqA.no HF.out HU.out
        have r8 : (s.b ≤ (j : Int)) = False := eq_false g5
        by_cases g6 : (m : Int) + 1 ≤ s.b
        · have r9 : ((m : Int) + 1 ≤ s.b) = True := eq_true g6
          have HF := hid (HNO.out (fun h => h.2.2.2.1 ⟨o2, .inr (by have := em.out; omega)⟩))
          clear g1 g2 o1 o2 g5 g6 hnu HNO HNX HLN HLY
          go_wp2_with (first | (go_at_call 31; refine (HNU.out _ HU.out).mono ?_; rintro e w1 ⟨rfl, hbx⟩; replace HU := hid (bl_then HU.out hbx); replace BS := hid (BS.out.kept hbx); replace hb2 := hid (bl_then hb2.out hbx); clear xs zs; have xs := BS.out.cellF; have zs := BS.out.lt; clear hbx))
          go_ret
          exact EqA.no HF.out HU.out
        have r9 : ((m : Int) + 1 ≤ s.b) = False := eq_false g6
        have HS2 := hid (HNX.out ⟨⟨by omega, by omega⟩, fun h => by omega, hnu, fun h => by have := em.out; have := h.2; omega, fun h => by omega, fun h => by omega⟩)
        have HJ2 := hid (HLN.out (by omega))
        clear g1 g2 o1 o2 g5 g6 hnu HNO HNX HLN HLY
        go_wp2_with (first | (go_at_call 31; refine (HNU.out _ HU.out).mono ?_; rintro e w1 ⟨rfl, hbx⟩; replace HU := hid (bl_then HU.out hbx); replace BS := hid (BS.out.kept hbx); replace hb2 := hid (bl_then hb2.out hbx); clear xs zs; have xs := BS.out.cellF; have zs := BS.out.lt; clear hbx))
        exact ⟨⟨j + 1, jn, lj, by simp, by simp, by simp, hjm, by omega, HS2, hid HJ2.out.1, hid HJ2.out.2, hb2⟩, by simp [numAt]; omega⟩
      have t2 : (s.op == 2) = false := by simpa using o2
      by_cases o3 : s.op = 3
      · have t3 : (s.op == 3) = true := by simp [o3]
        have t4 : (s.op == 4) = false := by simp [o3]
        by_cases g5 : s.a ≤ (j : Int)
        · have r8 : (s.a ≤ (j : Int)) = True := eq_true g5
          have HF := hid (HNO.out (fun h => h.2.2.2.2.1 ⟨o3, .inl g5⟩))
          clear g1 g2 o1 o2 o3 g5 hnu HNO HNX HLN HLY
          go_wp2_with (first | (go_at_call 31; refine (HNU.out _ HU.out).mono ?_; rintro e w1 ⟨rfl, hbx⟩; replace HU := hid (bl_then HU.out hbx); replace BS := hid (BS.out.kept hbx); replace hb2 := hid (bl_then hb2.out hbx); clear xs zs; have xs := BS.out.cellF; have zs := BS.out.lt; clear hbx))
          go_ret
          exact EqA.no HF.out HU.out
        have r8 : (s.a ≤ (j : Int)) = False := eq_false g5
        by_cases g6 : (m : Int) + 1 ≤ s.a
        · have r9 : ((m : Int) + 1 ≤ s.a) = True := eq_true g6
          have HF := hid (HNO.out (fun h => h.2.2.2.2.1 ⟨o3, .inr (by have := em.out; omega)⟩))
          clear g1 g2 o1 o2 o3 g5 g6 hnu HNO HNX HLN HLY
          go_wp2_with (first | (go_at_call 31; refine (HNU.out _ HU.out).mono ?_; rintro e w1 ⟨rfl, hbx⟩; replace HU := hid (bl_then HU.out hbx); replace BS := hid (BS.out.kept hbx); replace hb2 := hid (bl_then hb2.out hbx); clear xs zs; have xs := BS.out.cellF; have zs := BS.out.lt; clear hbx))
          go_ret
          exact EqA.no HF.out HU.out
        have r9 : ((m : Int) + 1 ≤ s.a) = False := eq_false g6
        have HS2 := hid (HNX.out ⟨⟨by omega, by omega⟩, fun h => by omega, hnu, fun h => by omega, fun h => by have := em.out; have := h.2; omega, fun h => by omega⟩)
        have HJ2 := hid (HLY.out o3)
        clear g1 g2 o1 o2 o3 g5 g6 hnu HNO HNX HLN HLY
        go_wp2_with (first | (go_at_call 31; refine (HNU.out _ HU.out).mono ?_; rintro e w1 ⟨rfl, hbx⟩; replace HU := hid (bl_then HU.out hbx); replace BS := hid (BS.out.kept hbx); replace hb2 := hid (bl_then hb2.out hbx); clear xs zs; have xs := BS.out.cellF; have zs := BS.out.lt; clear hbx))
        exact ⟨⟨j + 1, jn + 1, j, by simp, by simp, by simp, hjm, by omega, HS2, hid ⟨fun _ => HJ2.out.1, fun _ => by omega⟩, hid HJ2.out.2, hb2⟩, by simp [numAt]; omega⟩
      have t3 : (s.op == 3) = false := by simpa using o3
      by_cases o4 : s.op = 4
      · have t4 : (s.op == 4) = true := by simp [o4]
        by_cases g5 : s.a < 0
        · have r8 : (s.a < 0) = True := eq_true g5
          have HF := hid (HNO.out (fun h => h.2.2.2.2.2 ⟨o4, .inl g5⟩))
          clear g1 g2 o1 o2 o3 o4 g5 hnu HNO HNX HLN HLY
          go_wp2_with (first | (go_at_call 31; refine (HNU.out _ HU.out).mono ?_; rintro e w1 ⟨rfl, hbx⟩; replace HU := hid (bl_then HU.out hbx); replace BS := hid (BS.out.kept hbx); replace hb2 := hid (bl_then hb2.out hbx); clear xs zs; have xs := BS.out.cellF; have zs := BS.out.lt; clear hbx))
          go_ret
          exact EqA.no HF.out HU.out
        have r8 : (s.a < 0) = False := eq_false g5
        by_cases g6 : (m : Int) + 1 ≤ s.a
        · have r9 : ((m : Int) + 1 ≤ s.a) = True := eq_true g6
          have HF := hid (HNO.out (fun h => h.2.2.2.2.2 ⟨o4, .inr (.inl (by have := em.out; omega))⟩))
          clear g1 g2 o1 o2 o3 o4 g5 g6 hnu HNO HNX HLN HLY
          go_wp2_with (first | (go_at_call 31; refine (HNU.out _ HU.out).mono ?_; rintro e w1 ⟨rfl, hbx⟩; replace HU := hid (bl_then HU.out hbx); replace BS := hid (BS.out.kept hbx); replace hb2 := hid (bl_then hb2.out hbx); clear xs zs; have xs := BS.out.cellF; have zs := BS.out.lt; clear hbx))
          go_ret
          exact EqA.no HF.out HU.out
        have r9 : ((m : Int) + 1 ≤ s.a) = False := eq_false g6
        by_cases g7 : 0 < s.a
        · have ra1 : (0 < s.a) = True := eq_true g7
          by_cases g8 : s.a ≤ (j : Int)
          · have ra2 : (s.a ≤ (j : Int)) = True := eq_true g8
            have HF := hid (HNO.out (fun h => h.2.2.2.2.2 ⟨o4, .inr (.inr ⟨g7, g8⟩)⟩))
            clear g1 g2 o1 o2 o3 o4 g5 g6 g7 g8 hnu HNO HNX HLN HLY
            go_wp2_with (first | (go_at_call 31; refine (HNU.out _ HU.out).mono ?_; rintro e w1 ⟨rfl, hbx⟩; replace HU := hid (bl_then HU.out hbx); replace BS := hid (BS.out.kept hbx); replace hb2 := hid (bl_then hb2.out hbx); clear xs zs; have xs := BS.out.cellF; have zs := BS.out.lt; clear hbx))
            go_ret
            exact EqA.no HF.out HU.out
          have ra2 : (s.a ≤ (j : Int)) = False := eq_false g8
          have HS2 := hid (HNX.out ⟨⟨by omega, by omega⟩, fun h => by omega, hnu, fun h => by omega, fun h => by omega, fun h => by have := em.out; have := h.2; omega⟩)
          have HJ2 := hid (HLN.out (by omega))
          clear g1 g2 o1 o2 o3 o4 g5 g6 g7 g8 hnu HNO HNX HLN HLY
          go_wp2_with (first | (go_at_call 31; refine (HNU.out _ HU.out).mono ?_; rintro e w1 ⟨rfl, hbx⟩; replace HU := hid (bl_then HU.out hbx); replace BS := hid (BS.out.kept hbx); replace hb2 := hid (bl_then hb2.out hbx); clear xs zs; have xs := BS.out.cellF; have zs := BS.out.lt; clear hbx))
          exact ⟨⟨j + 1, jn, lj, by simp, by simp, by simp, hjm, by omega, HS2, hid HJ2.out.1, hid HJ2.out.2, hb2⟩, by simp [numAt]; omega⟩
        have ra1 : (0 < s.a) = False := eq_false g7
        have HS2 := hid (HNX.out ⟨⟨by omega, by omega⟩, fun h => by omega, hnu, fun h => by omega, fun h => by omega, fun h => by have := em.out; have := h.2; omega⟩)
        have HJ2 := hid (HLN.out (by omega))
        clear g1 g2 o1 o2 o3 o4 g5 g6 g7 hnu HNO HNX HLN HLY
        go_wp2_with (first | (go_at_call 31; refine (HNU.out _ HU.out).mono ?_; rintro e w1 ⟨rfl, hbx⟩; replace HU := hid (bl_then HU.out hbx); replace BS := hid (BS.out.kept hbx); replace hb2 := hid (bl_then hb2.out hbx); clear xs zs; have xs := BS.out.cellF; have zs := BS.out.lt; clear hbx))
        exact ⟨⟨j + 1, jn, lj, by simp, by simp, by simp, hjm, by omega, HS2, hid HJ2.out.1, hid HJ2.out.2, hb2⟩, by simp [numAt]; omega⟩
      have t4 : (s.op == 4) = false := by simpa using o4
      have HS2 := hid (HNX.out ⟨⟨by omega, by omega⟩, fun h => by omega, hnu, fun h => by omega, fun h => by omega, fun h => by omega⟩)
      have HJ2 := hid (HLN.out (by omega))
      clear g1 g2 o1 o2 o3 o4 hnu HNO HNX HLN HLY
      go_wp2_with (first | (go_at_call 31; refine (HNU.out _ HU.out).mono ?_; rintro e w1 ⟨rfl, hbx⟩; replace HU := hid (bl_then HU.out hbx); replace BS := hid (BS.out.kept hbx); replace hb2 := hid (bl_then hb2.out hbx); clear xs zs; have xs := BS.out.cellF; have zs := BS.out.lt; clear hbx))
      exact ⟨⟨j + 1, jn, lj, by simp, by simp, by simp, hjm, by omega, HS2, hid HJ2.out.1, hid HJ2.out.2, hb2⟩, by simp [numAt]; omega⟩
    · have j2 : ¬ (j : Int) < (m : Int) + 1 := by omega
      have HAL : Hid (∀ i (h : i < l.length), RoP bs l.length i l[i]) := hid (fun i h => HS.out i h (by have := em.out; omega))
      have ejl : j = l.length := by have := em.out; omega
      rw [ejl] at HJM HLJ
      have hljm : (lj : Int) ≤ (m : Int) := by
        have := em.out
        rcases HLJ.out with ⟨e, _⟩ | ⟨h, h1, _⟩ <;> omega
      clear HS ejl
      have xb := BB.out.cellF
      have zb := BB.out.lt
      have HNJ : Hid (¬ (0 < jn ↔ 0 < K.rows.length) → ¬ DeP bs K) := hid (fun h hp => h (by have := hp.jump; rw [← el.out] at this; exact HJM.out.trans this))
      by_cases k1 : 0 < jn
      · have u1 : ((0 : Int) < (jn : Int)) = True := eq_true (by omega)
        have u2 : (0 < jn) = True := eq_true k1
        rcases Nat.eq_zero_or_pos K.rows.length with z | z
        · have HF := hid (HNJ.out (fun h => by have := h.1 k1; omega))
          rw [z] at xb
          clear k1 HNJ HAL HJM HLJ
          go_wp2
          go_ret
          exact EqA.no HF.out HBW.out
        have u3 : ((0 : Int) < (K.rows.length : Int)) = True := eq_true (by omega)
        have u4 : (0 < K.rows.length) = True := eq_true z
        have HJP : Hid (JmP K.dec K.dec.length ↔ 0 < K.rows.length) := hid (by rw [← el.out]; exact ⟨fun _ => z, fun _ => HJM.out.1 k1⟩)
        clear k1 z HNJ
        go_wp2
        clear u1 u2 u3 u4 xb zb
        generalize wr = wo at *
        go_loopw [10] (fun r wq => ∃ i : Nat, r = .int .i64 i ∧ i ≤ K.rows.length ∧ Hid (∀ r ∈ K.rows.take i, RwP l r) ∧ Hid (Below wo.heap.size wo wq)) (fun r wq => K.rows.length - numAt wq r)
        case atStart => exact ⟨0, rfl, by omega, hid (fun r hr => by simp at hr), hid (Below.refl _ _)⟩
        case round =>
          obtain ⟨i, rfl, hi, HRW, hq⟩ := hrel
          have BB2 := hid (BB.out.kept hq.out)
          have xb := BB2.out.cellF
          have zb := BB2.out.lt
          have HBQ : Hid (Below w.heap.size w wr) := hid (bl_then HBW.out hq.out)
          by_cases hil : i < K.rows.length
          · have i1 : (i : Int) < (K.rows.length : Int) := by omega
            obtain ⟨qb, qo, eqb, hd⟩ := rowAt (g := cLN) (fun _ => rfl) (HQ.out.kept HBQ.out) (i := i) (x := K.rows[i]) (by simp [hil])
            have y0 := hd 0 _ rfl
            have y1 := hd 1 _ rfl
            clear hd
            simp only [Nat.add_zero] at y0
            subst eqb
            have hqb : qb < wr.heap.size := World.block_lt_of_cell? _ _ y0
            have HTK : Hid (RwP l K.rows[i] → ∀ r ∈ K.rows.take (i + 1), RwP l r) := hid (fun h r hr => by
              rw [List.take_succ_eq_append_getElem hil] at hr
              rcases List.mem_append.1 hr with hr | hr
              · exact HRW.out r hr
              · rw [List.mem_singleton] at hr; subst hr; exact h)
            have HNR : Hid (¬ RwP l K.rows[i] → ¬ DeP bs K) := hid (fun h hp => h (by have := hp.rows _ (List.getElem_mem hil); rw [← el.out] at this; exact this))
            have HTI := hid (fun W => isTagR W K.rows[i].tag (HTG.out _ (List.getElem_mem hil)))
            generalize K.rows[i] = y at *
            have HLJ2 := HLJ
            cases ht : tgI y.tag with
            | false =>
              have HF := hid (HNR.out (fun h => by have := h.1; rw [ht] at this; cases this))
              rw [ht] at HTI
              clear ht HNR HTK
              go_wp2_with (first | (go_at_call 32; refine (HTI.out _).mono ?_; rintro e w1 ⟨rfl, hbx⟩; replace HBQ := hid (bl_then HBQ.out hbx); replace hq := hid (bl_then hq.out hbx); replace BB2 := hid (BB2.out.kept hbx); clear xb zb; have xb := BB2.out.cellF; have zb := BB2.out.lt; replace y0 := cell_below y0 hbx; replace y1 := cell_below y1 hbx; clear hqb; have hqb := World.block_lt_of_cell? _ _ y0; clear hbx))
              go_ret
              exact EqA.no HF.out HBQ.out
            | true =>
            rw [ht] at HTI
            by_cases g1 : y.pl ≤ (lj : Int)
            · have r1 : (y.pl ≤ (lj : Int)) = True := eq_true g1
              have HF := hid (HNR.out (fun h => by have := h.2.1 lj HLJ2.out; omega))
              clear ht g1 HNR HTK
              go_wp2_with (first | (go_at_call 32; refine (HTI.out _).mono ?_; rintro e w1 ⟨rfl, hbx⟩; replace HBQ := hid (bl_then HBQ.out hbx); replace hq := hid (bl_then hq.out hbx); replace BB2 := hid (BB2.out.kept hbx); clear xb zb; have xb := BB2.out.cellF; have zb := BB2.out.lt; replace y0 := cell_below y0 hbx; replace y1 := cell_below y1 hbx; clear hqb; have hqb := World.block_lt_of_cell? _ _ y0; clear hbx))
              go_ret
              exact EqA.no HF.out HBQ.out
            have r1 : (y.pl ≤ (lj : Int)) = False := eq_false g1
            by_cases g2 : (m : Int) + 1 ≤ y.pl
            · have r2 : ((m : Int) + 1 ≤ y.pl) = True := eq_true g2
              have HF := hid (HNR.out (fun h => by have := h.2.2; have := em.out; omega))
              clear ht g1 g2 HNR HTK
              go_wp2_with (first | (go_at_call 32; refine (HTI.out _).mono ?_; rintro e w1 ⟨rfl, hbx⟩; replace HBQ := hid (bl_then HBQ.out hbx); replace hq := hid (bl_then hq.out hbx); replace BB2 := hid (BB2.out.kept hbx); clear xb zb; have xb := BB2.out.cellF; have zb := BB2.out.lt; replace y0 := cell_below y0 hbx; replace y1 := cell_below y1 hbx; clear hqb; have hqb := World.block_lt_of_cell? _ _ y0; clear hbx))
              go_ret
              exact EqA.no HF.out HBQ.out
            have r2 : ((m : Int) + 1 ≤ y.pl) = False := eq_false g2
            have HTK2 := hid (HTK.out ⟨ht, fun p hp => by have := LJ.uniq hp HLJ2.out; omega, by have := em.out; omega⟩)
            clear ht g1 g2 HNR HTK
            go_wp2_with (first | (go_at_call 32; refine (HTI.out _).mono ?_; rintro e w1 ⟨rfl, hbx⟩; replace HBQ := hid (bl_then HBQ.out hbx); replace hq := hid (bl_then hq.out hbx); replace BB2 := hid (BB2.out.kept hbx); clear xb zb; have xb := BB2.out.cellF; have zb := BB2.out.lt; replace y0 := cell_below y0 hbx; replace y1 := cell_below y1 hbx; clear hqb; have hqb := World.block_lt_of_cell? _ _ y0; clear hbx))
            exact ⟨⟨i + 1, by simp, by omega, HTK2, hq⟩, by simp [numAt]; omega⟩
          · have i1 : ¬ (i : Int) < (K.rows.length : Int) := by omega
            have HE : Hid (DeP bs K) := hid ⟨by rw [← el.out]; omega, by rw [← el.out]; exact HLA.out, by rw [← el.out]; exact HFA.out, by rw [← el.out]; exact HAL.out, HJP.out, fun r hr => by rw [← el.out]; exact HRW.out r (by rw [List.take_of_length_le (by omega)]; exact hr)⟩
            go_wp2
            go_ret
            exact EqA.yes HE.out HBQ.out
      · have u1 : ((0 : Int) < (jn : Int)) = False := eq_false (by omega)
        have u2 : (0 < jn) = False := eq_false k1
        rcases Nat.eq_zero_or_pos K.rows.length with z | z
        case inr =>
          have u3 : ((0 : Int) < (K.rows.length : Int)) = True := eq_true (by omega)
          have u4 : (0 < K.rows.length) = True := eq_true z
          have HF := hid (HNJ.out (fun h => k1 (h.2 z)))
          clear k1 z HNJ HAL HJM HLJ
          go_wp2
          go_ret
          exact EqA.no HF.out HBW.out
        have HJP : Hid (JmP K.dec K.dec.length ↔ 0 < K.rows.length) := hid (by rw [← el.out]; exact ⟨fun h => absurd (HJM.out.2 h) k1, fun h => by omega⟩)
        have HE : Hid (DeP bs K) := hid ⟨by rw [← el.out]; omega, by rw [← el.out]; exact HLA.out, by rw [← el.out]; exact HFA.out, by rw [← el.out]; exact HAL.out, HJP.out, fun r hr => by have : K.rows = [] := List.eq_nil_of_length_eq_zero z; rw [this] at hr; simp at hr⟩
        rw [z] at xb
        clear k1 HNJ HAL HJM HLJ
        go_wp2
        go_loopw [10] (fun r wq => r = .int .i64 0 ∧ wq = wr) (fun r wq => 0)
        case atStart => exact ⟨rfl, rfl⟩
        case round =>
          obtain ⟨rfl, rfl⟩ := hrel
          go_wp2
          go_ret
          exact EqA.yes HE.out HBW.out
structure EmP (K : BK) : Prop where
  len : 1 ≤ K.rows.length ∧ K.rows.length ≤ 128
  rows : ∀ r ∈ K.rows, 0 ≤ r.tag ∧ r.tag < 2147483648 ∧ r.pl = 0
def VlP (bs : List BV) (x : BV) : Prop := RsP x.k.rows ∧ (if noS x = true then EmP x.k else DeP bs x.k ∧ EnP bs x.k.enc)
def VdP (bs : List BV) : Prop := bs.length ≤ 128 ∧ ∀ x ∈ bs, VlP bs x
/-- The numbers that stand in a program can be. -/
structure IB (x : BV) : Prop where
  dec : ∀ s ∈ x.k.dec, I5 s
  enc : ∀ s ∈ x.k.enc, I5 s
  rows : ∀ r ∈ x.k.rows, r.tag ≤ 9223372036854775807
theorem validR (w : World) (bs : List BV) (ba : Option Addr) (bc : Nat) (hp : PgR w (.slice ba bs.length bc) bs) (hI : ∀ x ∈ bs, IB x) : Calls Tryz.prog 6 #[.agg #[.slice ba bs.length bc]] w (EqA w (VdP bs)) := by
  obtain ⟨_, _, e, hn⟩ := rowS_sl hp.row
  clear e
  have h63 : (bs.length : Int) ≤ 9223372036854775807 := by omega
  have HG := hid hp
  have HI := hid hI
  clear hp hI
  by_cases h128 : 128 < bs.length
  · have r1 : ((128 : Int) < (bs.length : Int)) = True := eq_true (by omega)
    have r2 : (128 < bs.length) = True := eq_true h128
    have HF : Hid (¬ VdP bs) := hid (fun h => by have := h.1; omega)
    clear HG HI h128
    go_enter Tryz.func6, Tryz.ntmps6
    go_wp2
    go_ret
    exact EqA.no HF.out (by exact blBy)
  have r1 : ((128 : Int) < (bs.length : Int)) = False := eq_false (by omega)
  have r2 : (128 < bs.length) = False := eq_false h128
  replace h128 := hid h128
  have BP0 : Hid (Blk (w.alloc (.cells #[.slice ba bs.length bc] 24)) w.heap.size 24 #[.slice ba bs.length bc]) := hid (Blk.new _ _ _)
  have HB0 : Hid (Below w.heap.size w (w.alloc (.cells #[.slice ba bs.length bc] 24))) := hid (by exact blBy)
  go_enter Tryz.func6, Tryz.ntmps6
  go_wp2
  clear r1 r2
  generalize w.alloc (.cells #[.slice ba bs.length bc] 24) = V at *
  go_loopw [3] (fun r wr => ∃ j : Nat, r = .int .i64 j ∧ j ≤ bs.length ∧ Hid (∀ x ∈ bs.take j, VlP bs x) ∧ Hid (Below V.heap.size V wr)) (fun r wr => bs.length - numAt wr r)
  case atStart => exact ⟨0, rfl, by omega, hid (fun x hx => by simp at hx), hid (Below.refl _ _)⟩
  case round =>
    obtain ⟨j, rfl, hj, HS, hb⟩ := hrel
    have BP := hid (BP0.out.kept hb.out)
    have HBW : Hid (Below w.heap.size w wr) := hid (bl_then HB0.out hb.out)
    have xp := BP.out.cellF
    have zp := BP.out.lt
    by_cases hlt : j < bs.length
    · have j1 : (j : Int) < (bs.length : Int) := by omega
      obtain ⟨pb, po, da, dc, ea, ec, ra, rc, epb, hpb, c0, c1, c2, hbk⟩ := pg_at (HG.out.kept HBW.out) hlt
      subst epb
      have HTK : Hid (VlP bs bs[j] → ∀ x ∈ bs.take (j + 1), VlP bs x) := hid (fun h x hx => by
        rw [List.take_succ_eq_append_getElem hlt] at hx
        rcases List.mem_append.1 hx with hx | hx
        · exact HS.out x hx
        · rw [List.mem_singleton] at hx; subst hx; exact h)
      have HNO : Hid (¬ VlP bs bs[j] → ¬ VdP bs) := hid (fun h hp => h (hp.2 _ (List.getElem_mem hlt)))
      have HIB := hid (HI.out _ (List.getElem_mem hlt))
      have HK := hid hbk
      have HMS := hid (fun W (hW : Below w.heap.size w W) => isMessageR W bs (some ⟨pb, po, none⟩) bc (HG.out.kept hW) (j : Int))
      rw [msI_at hlt] at HMS
      clear hbk HS
      generalize bs[j] = X at *
      have BX : Hid (Blk (wr.alloc (.cells #[.slice da X.k.dec.length dc, .slice ea X.k.enc.length ec, .slice ra X.k.rows.length rc] 31)) wr.heap.size 31 #[.slice da X.k.dec.length dc, .slice ea X.k.enc.length ec, .slice ra X.k.rows.length rc]) := hid (Blk.new _ _ _)
      have hb2 : Hid (Below V.heap.size V (wr.alloc (.cells #[.slice da X.k.dec.length dc, .slice ea X.k.enc.length ec, .slice ra X.k.rows.length rc] 31))) := hid (bl_alloc hb.out _)
      replace HK := hid (HK.out.kept (below_alloc (.cells #[.slice da X.k.dec.length dc, .slice ea X.k.enc.length ec, .slice ra X.k.rows.length rc] 31)))
      go_wp2_with fail
      replace BP := hid (BP.out.kept (below_alloc (.cells #[.slice da X.k.dec.length dc, .slice ea X.k.enc.length ec, .slice ra X.k.rows.length rc] 31)))
      have HU : Hid (Below w.heap.size w (wr.alloc (.cells #[.slice da X.k.dec.length dc, .slice ea X.k.enc.length ec, .slice ra X.k.rows.length rc] 31))) := hid (bl_then HB0.out hb2.out)
      clear c0 c1 c2 hpb xp zp hb HBW
      generalize wr.alloc (.cells #[.slice da X.k.dec.length dc, .slice ea X.k.enc.length ec, .slice ra X.k.rows.length rc] 31) = U at *
      generalize wr.heap.size = p at *
      refine (risingR U X.k.rows ra rc HK.out.hr).mono ?_
      rintro e w1 ⟨r, rfl, hr, hb1⟩
      replace BX := hid (BX.out.kept hb1)
      replace BP := hid (BP.out.kept hb1)
      replace HK := hid (HK.out.kept hb1)
      replace hb2 : Hid (Below V.heap.size V w1) := hid (bl_then hb2.out hb1)
      replace HU : Hid (Below w.heap.size w w1) := hid (bl_then HU.out hb1)
      clear hb1
      have xx := BX.out.cellF
      have zx := BX.out.lt
      have xp := BP.out.cellF
      have zp := BP.out.lt
      cases r with
      | false =>
        have HF := hid (HNO.out (fun h => by have := hr.2 h.1; cases this))
        clear hr HNO HTK HMS
        go_wp2
        go_ret
        exact EqA.no HF.out HU.out
      | true =>
      have HRS := hid (hr.1 rfl)
      clear hr
      go_wp2_with fail
      refine (HMS.out w1 HU.out).mono ?_
      rintro e w2 ⟨rfl, hb3⟩
      replace BX := hid (BX.out.kept hb3)
      replace BP := hid (BP.out.kept hb3)
      replace HK := hid (HK.out.kept hb3)
      replace hb2 : Hid (Below V.heap.size V w2) := hid (bl_then hb2.out hb3)
      replace HU : Hid (Below w.heap.size w w2) := hid (bl_then HU.out hb3)
      clear hb3 xx zx xp zp HMS
      have xx := BX.out.cellF
      have zx := BX.out.lt
      have xp := BP.out.cellF
      have zp := BP.out.lt
      have HVE : Hid (VlP bs X ↔ (if noS X = true then EmP X.k else DeP bs X.k ∧ EnP bs X.k.enc)) := hid ⟨fun h => h.2, fun h => ⟨HRS.out, h⟩⟩
      cases hns : noS X with
      | false =>
        rw [hns] at HVE
        replace HVE : Hid (VlP bs X ↔ (DeP bs X.k ∧ EnP bs X.k.enc)) := hid (by have := HVE.out; simpa using this)
        clear hns HRS
        go_wp2_with fail
        refine (decR w2 bs _ bc (HG.out.kept HU.out) X.k da ea ra dc ec rc HK.out HIB.out.dec HIB.out.rows).mono ?_
        rintro e w3 ⟨r, rfl, hr, hb4⟩
        replace BX := hid (BX.out.kept hb4)
        replace BP := hid (BP.out.kept hb4)
        replace HK := hid (HK.out.kept hb4)
        replace hb2 : Hid (Below V.heap.size V w3) := hid (bl_then hb2.out hb4)
        replace HU : Hid (Below w.heap.size w w3) := hid (bl_then HU.out hb4)
        clear hb4 xx zx xp zp
        have xx := BX.out.cellF
        have zx := BX.out.lt
        have xp := BP.out.cellF
        have zp := BP.out.lt
        cases r with
        | false =>
          have HF := hid (HNO.out (fun h => by have := hr.2 (HVE.out.1 h).1; cases this))
          clear hr HNO HTK HVE
          go_wp2
          go_ret
          exact EqA.no HF.out HU.out
        | true =>
        have HDE := hid (hr.1 rfl)
        clear hr
        go_wp2_with fail
        refine (encR w3 bs _ bc (HG.out.kept HU.out) X.k da ea ra dc ec rc HK.out HIB.out.enc).mono ?_
        rintro e w4 ⟨r, rfl, hr, hb5⟩
        replace hb2 : Hid (Below V.heap.size V w4) := hid (bl_then hb2.out hb5)
        replace HU : Hid (Below w.heap.size w w4) := hid (bl_then HU.out hb5)
        clear hb5
        cases r with
        | false =>
          have HF := hid (HNO.out (fun h => by have := hr.2 (HVE.out.1 h).2; cases this))
          clear hr HNO HTK HVE
          go_wp2
          go_ret
          exact EqA.no HF.out HU.out
        | true =>
          have HS2 := hid (HTK.out (HVE.out.2 ⟨HDE.out, hr.1 rfl⟩))
          clear hr HNO HTK HVE
          go_wp2
          exact ⟨⟨j + 1, by simp, by omega, HS2, hb2⟩, by simp [numAt]; omega⟩
      | true =>
        rw [hns] at HVE
        replace HVE : Hid (VlP bs X ↔ EmP X.k) := hid (by have := HVE.out; simpa using this)
        clear hns HRS
        obtain ⟨_, _, e, hnr⟩ := rowS_sl HK.out.hr
        clear e
        have r63 : (X.k.rows.length : Int) ≤ 9223372036854775807 := by omega
        by_cases g1 : X.k.rows.length < 1
        · have r1 : ((X.k.rows.length : Int) < 1) = True := eq_true (by omega)
          have z : X.k.rows.length = 0 := by omega
          have HF := hid (HNO.out (fun h => by have := (HVE.out.1 h).len; omega))
          rw [z] at xx
          clear g1 HNO HTK HVE z
          go_wp2
          go_ret
          exact EqA.no HF.out HU.out
        have r1 : ((X.k.rows.length : Int) < 1) = False := eq_false (by omega)
        have r1' : (X.k.rows.length = 0) = False := eq_false (by omega)
        by_cases g2 : 128 < X.k.rows.length
        · have r2 : ((128 : Int) < (X.k.rows.length : Int)) = True := eq_true (by omega)
          have r2' : (128 < X.k.rows.length) = True := eq_true g2
          have HF := hid (HNO.out (fun h => by have := (HVE.out.1 h).len; omega))
          clear g1 g2 HNO HTK HVE
          go_wp2
          go_ret
          exact EqA.no HF.out HU.out
        have r2 : ((128 : Int) < (X.k.rows.length : Int)) = False := eq_false (by omega)
        have r2' : (128 < X.k.rows.length) = False := eq_false g2
        have HLN : Hid (1 ≤ X.k.rows.length ∧ X.k.rows.length ≤ 128) := hid ⟨by omega, by omega⟩
        clear g1 g2
        go_wp2
        clear r1 r1' r2 r2' xx zx xp zp
        generalize w2 = wo at *
        go_loopw [5] (fun r wq => ∃ i : Nat, r = .int .i64 i ∧ i ≤ X.k.rows.length ∧ Hid (∀ r ∈ X.k.rows.take i, 0 ≤ r.tag ∧ r.tag < 2147483648 ∧ r.pl = 0) ∧ Hid (Below wo.heap.size wo wq)) (fun r wq => X.k.rows.length - numAt wq r)
        case atStart => exact ⟨0, rfl, by omega, hid (fun r hr => by simp at hr), hid (Below.refl _ _)⟩
        case round =>
          obtain ⟨i, rfl, hi, HRW, hq⟩ := hrel
          have BX2 := hid (BX.out.kept hq.out)
          have xx := BX2.out.cellF
          have zx := BX2.out.lt
          have HBQ : Hid (Below w.heap.size w wr) := hid (bl_then HU.out hq.out)
          have hb6 : Hid (Below V.heap.size V wr) := hid (bl_then hb2.out hq.out)
          by_cases hil : i < X.k.rows.length
          · have i1 : (i : Int) < (X.k.rows.length : Int) := by omega
            obtain ⟨qb, qo, eqb, hd⟩ := rowAt (g := cLN) (fun _ => rfl) (HK.out.hr.kept hq.out) (i := i) (x := X.k.rows[i]) (by simp [hil])
            have y0 := hd 0 _ rfl
            have y1 := hd 1 _ rfl
            clear hd
            simp only [Nat.add_zero] at y0
            subst eqb
            have hqb : qb < wr.heap.size := World.block_lt_of_cell? _ _ y0
            have HTR : Hid ((0 ≤ X.k.rows[i].tag ∧ X.k.rows[i].tag < 2147483648 ∧ X.k.rows[i].pl = 0) → ∀ r ∈ X.k.rows.take (i + 1), 0 ≤ r.tag ∧ r.tag < 2147483648 ∧ r.pl = 0) := hid (fun h r hr => by
              rw [List.take_succ_eq_append_getElem hil] at hr
              rcases List.mem_append.1 hr with hr | hr
              · exact HRW.out r hr
              · rw [List.mem_singleton] at hr; subst hr; exact h)
            have HNR : Hid (¬ (0 ≤ X.k.rows[i].tag ∧ X.k.rows[i].tag < 2147483648 ∧ X.k.rows[i].pl = 0) → ¬ VdP bs) := hid (fun h => HNO.out (fun hv => h ((HVE.out.1 hv).rows _ (List.getElem_mem hil))))
            generalize X.k.rows[i] = y at *
            by_cases g1 : y.tag < 0
            · have r1 : (y.tag < 0) = True := eq_true g1
              have HF := hid (HNR.out (fun h => by omega))
              clear g1 HNR HTR HNO HTK HVE
              go_wp2
              go_ret
              exact EqA.no HF.out HBQ.out
            have r1 : (y.tag < 0) = False := eq_false g1
            by_cases g2 : 2147483648 ≤ y.tag
            · have r2 : (2147483648 ≤ y.tag) = True := eq_true g2
              have HF := hid (HNR.out (fun h => by omega))
              clear g1 g2 HNR HTR HNO HTK HVE
              go_wp2
              go_ret
              exact EqA.no HF.out HBQ.out
            have r2 : (2147483648 ≤ y.tag) = False := eq_false g2
            by_cases g3 : y.pl = 0
            · have r3 : (y.pl != 0) = false := by simpa using g3
              have HR2 := hid (HTR.out ⟨by omega, by omega, g3⟩)
              clear g1 g2 g3 HNR HTR
              go_wp2
              exact ⟨⟨i + 1, by simp, by omega, HR2, hq⟩, by simp [numAt]; omega⟩
            · have r3 : (y.pl != 0) = true := by simpa using g3
              have HF := hid (HNR.out (fun h => g3 h.2.2))
              clear g1 g2 g3 HNR HTR HNO HTK HVE
              go_wp2
              go_ret
              exact EqA.no HF.out HBQ.out
          · have i1 : ¬ (i : Int) < (X.k.rows.length : Int) := by omega
            have HS2 := hid (HTK.out (HVE.out.2 ⟨HLN.out, fun r hr => HRW.out r (by rw [List.take_of_length_le (by omega)]; exact hr)⟩))
            clear HNO HTK HVE
            go_wp2
            exact ⟨⟨j + 1, by simp, by omega, HS2, hb6⟩, by simp [numAt]; omega⟩
    · have j1 : ¬ (j : Int) < (bs.length : Int) := by omega
      have HE : Hid (VdP bs) := hid ⟨by have := h128.out; omega, fun x hx => HS.out x (by rw [List.take_of_length_le (by omega)]; exact hx)⟩
      go_wp2
      go_ret
      exact EqA.yes HE.out HBW.out
def tgN (n p : Nat) (r : LN) : Bool := tgI r.tag && decide ((p : Int) < r.pl ∧ r.pl < (n : Int))
def TgP (l : List IN) (rows : List LN) : Prop := ∃ p, LJ l l.length p ∧ (0 < p ↔ 0 < rows.length) ∧ ∀ r ∈ rows, tgN l.length p r = true
theorem isTgtB (w : World) (pa ps p n : Nat) (sa : Option Addr) (sc : Nat) (x : LN) (h1 : Blk w pa 3 #[.int .i64 p]) (h2 : Blk w ps 28 #[.slice sa n sc]) (hn : n ≤ 140737488355328) : Calls Tryz.prog 47 #[.agg #[.int .i64 x.tag, .int .i64 x.pl], .pointer (some ⟨pa, 0, none⟩), .pointer (some ⟨ps, 0, none⟩)] w (BoA w (!tgN n p x)) := by
  have HT := hid (fun W => isTagP W x.tag)
  have x1 := h1.cellF
  have z1 := h1.lt
  have x2 := h2.cellF
  have z2 := h2.lt
  clear h1 h2
  obtain ⟨t, q⟩ := x
  dsimp only at HT ⊢
  cases ht : tgI t with
  | false =>
    rw [ht] at HT
    have e : tgN n p ⟨t, q⟩ = false := by unfold tgN; dsimp only; rw [ht]; rfl
    rw [e]
    clear e ht
    go_enter Tryz.func47, Tryz.ntmps47
    go_wp2_with (first | (go_at_call 48; refine (HT.out _).mono ?_; rintro e w1 ⟨rfl, rfl⟩))
    go_ret
    exact ⟨rfl, by exact blBy⟩
  | true =>
    rw [ht] at HT
    by_cases g1 : q ≤ (p : Int)
    · have r1 : (q ≤ (p : Int)) = True := eq_true g1
      have e : tgN n p ⟨t, q⟩ = false := by unfold tgN; dsimp only; rw [decide_eq_false (by omega)]; simp
      rw [e]
      clear e ht g1
      go_enter Tryz.func47, Tryz.ntmps47
      go_wp2_with (first | (go_at_call 48; refine (HT.out _).mono ?_; rintro e w1 ⟨rfl, rfl⟩))
      go_ret
      exact ⟨rfl, by exact blBy⟩
    have r1 : (q ≤ (p : Int)) = False := eq_false g1
    by_cases g2 : (n : Int) ≤ q
    · have r2 : ((n : Int) ≤ q) = True := eq_true g2
      have e : tgN n p ⟨t, q⟩ = false := by unfold tgN; dsimp only; rw [decide_eq_false (by omega)]; simp
      rw [e]
      clear e ht g1 g2
      go_enter Tryz.func47, Tryz.ntmps47
      go_wp2_with (first | (go_at_call 48; refine (HT.out _).mono ?_; rintro e w1 ⟨rfl, rfl⟩))
      go_ret
      exact ⟨rfl, by exact blBy⟩
    · have r2 : ((n : Int) ≤ q) = False := eq_false g2
      have e : tgN n p ⟨t, q⟩ = true := by unfold tgN; dsimp only; rw [ht, decide_eq_true (by omega)]; rfl
      rw [e]
      clear e ht g1 g2
      go_enter Tryz.func47, Tryz.ntmps47
      go_wp2_with (first | (go_at_call 48; refine (HT.out _).mono ?_; rintro e w1 ⟨rfl, rfl⟩))
      go_ret
      exact ⟨rfl, by exact blBy⟩
theorem tgp_iff {l : List IN} {rows : List LN} {p : Nat} (h : LJ l l.length p) (hp : 0 < p ↔ 0 < rows.length) : (rows.any (fun x => !tgN l.length p x)) = false ↔ TgP l rows := by
  rw [List.any_eq_false]
  constructor
  · intro g
    exact ⟨p, h, hp, fun r hr => by have := g r hr; simpa using this⟩
  · rintro ⟨p', h1, _, h3⟩ r hr
    have := h1.uniq h
    subst this
    simp [h3 r hr]
theorem areTargetsB (w : World) (rows : List LN) (la : Option Addr) (lc : Nat) (l : List IN) (da : Option Addr) (dc : Nat) (hr : RowS w AnyZ 2 (.slice la rows.length lc) rows.length (rows.flatMap cLN)) (hl : RowS w AnyZ 5 (.slice da l.length dc) l.length (l.flatMap cIN)) (hn : l.length ≤ 140737488355328) : Calls Tryz.prog 30 #[.slice la rows.length lc, .slice da l.length dc] w (EqA w (TgP l rows)) := by
  obtain ⟨_, _, e, hnr⟩ := rowS_sl hr
  clear e
  have r63 : (rows.length : Int) ≤ 9223372036854775807 := by omega
  clear hnr
  have HR := hid hl
  have n63 : (l.length : Int) ≤ 140737488355328 := by omega
  have HC : Hid (∀ (W : World) (p : Nat), Below w.heap.size w W → Blk W (w.heap.size + 1) 3 #[.int .i64 p] → Blk W w.heap.size 28 #[.slice da l.length dc] → Calls Tryz.prog 42 #[.slice la rows.length lc, .func (.func 47) #[] #[.pointer (some ⟨w.heap.size + 1, 0, none⟩), .pointer (some ⟨w.heap.size, 0, none⟩)]] W (BoA W (rows.any (fun x => !tgN l.length p x)))) := hid fun W p hW q1 q2 => conLineB W rows la lc (hr.kept hW) _ _ _ cfTarget (fun x hx W' hW' => isTgtB W' (w.heap.size + 1) w.heap.size p l.length _ dc x (q1.kept hW') (q2.kept hW') hn)
  clear hr hl hn
  go_enter Tryz.func30, Tryz.ntmps30
  go_wp2_with fail
  go_loopw [11] (fun r wr => ∃ j p : Nat, r = .int .i64 j ∧ j ≤ l.length ∧ Hid (LJ l j p) ∧ Hid (p ≤ j) ∧ Hid (Blk wr (w.heap.size + 1) 3 #[.int .i64 p]) ∧ Hid (Blk wr w.heap.size 28 #[.slice da l.length dc]) ∧ Hid (Below w.heap.size w wr)) (fun r wr => l.length - numAt wr r)
  case atStart => exact ⟨0, 0, rfl, by omega, hid (.inl ⟨rfl, fun i h hi => by omega⟩), hid (by omega), hid (Blk.newAt (by simp)), hid ((Blk.new _ _ _).kept (below_alloc _)), hid (by exact blBy)⟩
  case round =>
    obtain ⟨j, p, rfl, hj, HLJ, hpj, Bl, Bd, hb⟩ := hrel
    by_cases hlt : j < l.length
    · have h2 : (j : Int) < (l.length : Int) := by omega
      obtain ⟨pb, po, epb, hc⟩ := rowAt (g := cIN) (fun _ => rfl) (HR.out.kept hb.out) (i := j) (x := l[j]) (by simp [hlt])
      subst epb
      have c0 := hc 0 _ rfl
      have c1 := hc 1 _ rfl
      have c2 := hc 2 _ rfl
      have c3 := hc 3 _ rfl
      have c4 := hc 4 _ rfl
      clear hc
      simp only [Nat.add_zero] at c0
      have hpb : pb < wr.heap.size := World.block_lt_of_cell? _ _ c0
      have HN1 : Hid (l[j].op ≠ 3 → LJ l (j + 1) p) := hid (fun h => HLJ.out.no hlt h)
      have HY1 : Hid (l[j].op = 3 → LJ l (j + 1) j) := hid (fun h => LJ.yes hlt h)
      generalize l[j] = s at *
      by_cases k : s.op = 3
      · have k3 : (s.op == 3) = true := by simpa using k
        have HL2 := hid (HY1.out k)
        have xl := Bl.out.cellF
        have zl := Bl.out.lt
        have yl := Bl.out.frz
        clear HN1 HY1 k HLJ
        go_wp2
        exact ⟨⟨j + 1, j, by simp, by omega, HL2, hid (by omega), hid (by first | exact (Bl.out.set 0 (.int .i64 j)).kept (below_alloc _) | exact (Bl.out.kept (below_alloc _)).set 0 (.int .i64 j)), hid (by first | exact (Bd.out.oth).kept (below_alloc _) | exact (Bd.out.kept (below_alloc _)).oth), hid (by have := hb.out; exact blBy)⟩, by simp [numAt]; omega⟩
      · have k3 : (s.op == 3) = false := by simpa using k
        have HL2 := hid (HN1.out k)
        clear HN1 HY1 k HLJ
        go_wp2
        exact ⟨⟨j + 1, p, by simp, by omega, HL2, hid (by have := hpj.out; omega), hid (Bl.out.kept (below_alloc _)), hid (Bd.out.kept (below_alloc _)), hid (bl_alloc hb.out _)⟩, by simp [numAt]; omega⟩
    · have h2 : ¬ (j : Int) < (l.length : Int) := by omega
      have HLP : Hid (LJ l l.length p) := hid (by have : j = l.length := by omega
                                                  rw [← this]; exact HLJ.out)
      have HCW := hid (HC.out wr p hb.out Bl.out Bd.out)
      have xl := Bl.out.cellF
      have zl := Bl.out.lt
      clear HLJ hpj HC Bl Bd HR
      by_cases a1 : 0 < p
      · have q1 : ((0 : Int) < (p : Int)) = True := eq_true (by omega)
        have q1' : (0 < p) = True := eq_true a1
        by_cases a2 : 0 < rows.length
        · have q2 : ((0 : Int) < (rows.length : Int)) = True := eq_true (by omega)
          have q2' : (0 < rows.length) = True := eq_true a2
          have HQ : Hid ((rows.any (fun x => !tgN l.length p x)) = false ↔ TgP l rows) := hid (tgp_iff HLP.out ⟨fun _ => a2, fun _ => a1⟩)
          clear a1 a2 HLP
          generalize rows.any (fun x => !tgN l.length p x) = q at *
          go_wp2_with fail
          refine HCW.out.mono ?_
          rintro e w1 ⟨rfl, hb1⟩
          replace hb1 := hid (bl_then hb.out hb1)
          cases q
          · have HE := hid (HQ.out.1 rfl)
            go_wp2
            go_ret
            exact EqA.yes HE.out hb1.out
          · have HF : Hid (¬ TgP l rows) := hid (fun h => by have := HQ.out.2 h; cases this)
            go_wp2
            go_ret
            exact EqA.no HF.out hb1.out
        · have q2 : ((0 : Int) < (rows.length : Int)) = False := eq_false (by omega)
          have q2' : (0 < rows.length) = False := eq_false a2
          have HF : Hid (¬ TgP l rows) := hid (fun ⟨p', h1, h2, _⟩ => by
            have := h1.uniq HLP.out
            subst this
            exact a2 (h2.1 a1))
          clear a1 a2 HLP HCW
          go_wp2
          go_ret
          exact EqA.no HF.out hb.out
      · have q1 : ((0 : Int) < (p : Int)) = False := eq_false (by omega)
        have q1' : (0 < p) = False := eq_false a1
        by_cases a2 : 0 < rows.length
        · have q2 : ((0 : Int) < (rows.length : Int)) = True := eq_true (by omega)
          have q2' : (0 < rows.length) = True := eq_true a2
          have HF : Hid (¬ TgP l rows) := hid (fun ⟨p', h1, h2, _⟩ => by
            have := h1.uniq HLP.out
            subst this
            exact a1 (h2.2 a2))
          clear a1 a2 HLP HCW
          go_wp2
          go_ret
          exact EqA.no HF.out hb.out
        · have q2 : ((0 : Int) < (rows.length : Int)) = False := eq_false (by omega)
          have q2' : (0 < rows.length) = False := eq_false a2
          have HQ : Hid ((rows.any (fun x => !tgN l.length p x)) = false ↔ TgP l rows) := hid (tgp_iff HLP.out ⟨fun h => absurd h a1, fun h => absurd h a2⟩)
          clear a1 a2 HLP
          generalize rows.any (fun x => !tgN l.length p x) = q at *
          go_wp2_with fail
          refine HCW.out.mono ?_
          rintro e w1 ⟨rfl, hb1⟩
          replace hb1 := hid (bl_then hb.out hb1)
          cases q
          · have HE := hid (HQ.out.1 rfl)
            go_wp2
            go_ret
            exact EqA.yes HE.out hb1.out
          · have HF : Hid (¬ TgP l rows) := hid (fun h => by have := HQ.out.2 h; cases this)
            go_wp2
            go_ret
            exact EqA.no HF.out hb1.out
end Go.Proofs.YtdhkbdngmejklaaGreatDoor
