/-
  Blocks that are the same: the document's question.
  A type by its name: both answers.
  The table of the examples.
  The examples' block.
  The law's own first question.
  What a lowered message looks like.
  PlanShaped.
  The document's: a oneof's members.
  The document's: what follows the Case of a value.
  Rows of steps, appended.
  The document's Wire.
-/
import Derived.Test.YtbopddnekoocoaaGreatDoorCTX
import Derived.Deep.CutRange
import Derived.Lib.AppendZerosOnto
import Derived.Lib.AppendZeros
namespace Go.Proofs.YtbopddnekoocoaaGreatDoor
open Go.RowKit
set_option maxRecDepth 1000000
set_option linter.unusedVariables false
set_option linter.unusedSimpArgs false
set_option maxHeartbeats 1000000
/-- A block, in memory. -/
structure BkR (w : World) (k : BK) (d e r : Value) : Prop where
  hd : RowS w AnyZ 5 d k.dec.length (k.dec.flatMap cIN)
  he : RowS w AnyZ 5 e k.enc.length (k.enc.flatMap cIN)
  hr : RowS w AnyZ 2 r k.rows.length (k.rows.flatMap cLN)
theorem BkR.kept {w w' : World} {k : BK} {d e r : Value} (h : BkR w k d e r) (g : Below w.heap.size w w') : BkR w' k d e r := ⟨h.hd.kept g, h.he.kept g, h.hr.kept g⟩
theorem BkO.row {w : World} {base : Nat} {k : BK} {d e r : Value} (h : BkO w base k d e r) : BkR w k d e r := ⟨own_row h.hd (fun _ _ => trivial), own_row h.he (fun _ _ => trivial), own_row h.hr (fun _ _ => trivial)⟩
/-- A bool that says P. -/
def EqA (w : World) (P : Prop) (e : Ending) (w' : World) : Prop := ∃ r : Bool, e = .returned (.bool r) ∧ (r = true ↔ P) ∧ Below w.heap.size w w'
theorem EqA.yes {w w' : World} {P : Prop} (h : P) (hb : Below w.heap.size w w') : EqA w P (.returned (.bool true)) w' := ⟨true, rfl, ⟨fun _ => h, fun _ => rfl⟩, hb⟩
theorem EqA.no {w w' : World} {P : Prop} (h : ¬ P) (hb : Below w.heap.size w w') : EqA w P (.returned (.bool false)) w' := ⟨false, rfl, ⟨fun q => (by cases q), fun q => absurd q h⟩, hb⟩
theorem bk_eq {A B : BK} (h1 : A.dec = B.dec) (h2 : A.enc = B.enc) (h3 : A.rows = B.rows) : A = B := by
  cases A
  cases B
  simp only [BK.mk.injEq]
  exact ⟨h1, h2, h3⟩
theorem sameBlockD (w : World) (A B : BK) (aa ba ca da ea fa : Option Addr) (ac bc cc dc ec fc : Nat) (hA : BkR w A (.slice aa A.dec.length ac) (.slice ba A.enc.length bc) (.slice ca A.rows.length cc)) (hB : BkR w B (.slice da B.dec.length dc) (.slice ea B.enc.length ec) (.slice fa B.rows.length fc)) : Calls Tryz.prog 10 #[.agg #[.slice aa A.dec.length ac, .slice ba A.enc.length bc, .slice ca A.rows.length cc], .agg #[.slice da B.dec.length dc, .slice ea B.enc.length ec, .slice fa B.rows.length fc]] w (EqA w (A = B)) := by
  have HA := hid hA
  have HB := hid hB
  obtain ⟨_, _, e, hn1⟩ := rowS_sl hA.hd
  clear e
  obtain ⟨_, _, e, hn2⟩ := rowS_sl hA.he
  clear e
  obtain ⟨_, _, e, hn3⟩ := rowS_sl hA.hr
  clear e
  obtain ⟨_, _, e, hm1⟩ := rowS_sl hB.hd
  clear e
  obtain ⟨_, _, e, hm2⟩ := rowS_sl hB.he
  clear e
  obtain ⟨_, _, e, hm3⟩ := rowS_sl hB.hr
  clear e
  clear hA hB
  by_cases h1 : A.dec.length = B.dec.length
  case neg =>
    have q1 : ((A.dec.length : Int) == (B.dec.length : Int)) = false := by rw [beq_eq_false_iff_ne]; omega
    go_enter Tryz.func10, Tryz.ntmps10
    go_wp2
    go_ret
    exact ⟨false, rfl, ⟨fun q => (by cases q), fun q => absurd (by rw [q]) h1⟩, by exact blBy⟩
  by_cases h2 : A.enc.length = B.enc.length
  case neg =>
    have q1 : ((A.dec.length : Int) == (B.dec.length : Int)) = true := by simp [h1]
    have q2 : ((A.enc.length : Int) == (B.enc.length : Int)) = false := by rw [beq_eq_false_iff_ne]; omega
    go_enter Tryz.func10, Tryz.ntmps10
    go_wp2
    go_ret
    exact ⟨false, rfl, ⟨fun q => (by cases q), fun q => absurd (by rw [q]) h2⟩, by exact blBy⟩
  by_cases h3 : A.rows.length = B.rows.length
  case neg =>
    have q1 : ((A.dec.length : Int) == (B.dec.length : Int)) = true := by simp [h1]
    have q2 : ((A.enc.length : Int) == (B.enc.length : Int)) = true := by simp [h2]
    have q3 : ((A.rows.length : Int) == (B.rows.length : Int)) = false := by rw [beq_eq_false_iff_ne]; omega
    go_enter Tryz.func10, Tryz.ntmps10
    go_wp2
    go_ret
    exact ⟨false, rfl, ⟨fun q => (by cases q), fun q => absurd (by rw [q]) h3⟩, by exact blBy⟩
  rw [← h1, ← h2, ← h3] at HB ⊢
  have z1 : (A.dec.length : Int) ≤ 9223372036854775807 := by omega
  have z2 : (A.enc.length : Int) ≤ 9223372036854775807 := by omega
  have z3 : (A.rows.length : Int) ≤ 9223372036854775807 := by omega
  clear hn1 hn2 hn3 hm1 hm2 hm3
  replace h1 := hid h1
  replace h2 := hid h2
  replace h3 := hid h3
  go_enter Tryz.func10, Tryz.ntmps10
  go_wp2
  go_loopw [5] (fun r wr => ∃ j : Nat, r = .int .i64 j ∧ j ≤ A.dec.length ∧ Hid (A.dec.take j = B.dec.take j) ∧ Hid (Blk wr w.heap.size 28 #[.slice aa A.dec.length ac, .slice ba A.enc.length bc, .slice ca A.rows.length cc]) ∧ Hid (Blk wr (w.heap.size + 1) 28 #[.slice da A.dec.length dc, .slice ea A.enc.length ec, .slice fa A.rows.length fc]) ∧ Hid (Below w.heap.size w wr)) (fun r wr => A.dec.length - numAt wr r)
  case atStart => exact ⟨0, rfl, by omega, hid (by simp), hid ((Blk.new _ _ _).kept (below_alloc _)), hid (Blk.newAt (by simp)), hid (by exact blBy)⟩
  case round =>
    obtain ⟨j, rfl, hj, HT, Ba, Bb, hb⟩ := hrel
    have xa := Ba.out.cellF
    have za := Ba.out.lt
    have xb := Bb.out.cellF
    have zb := Bb.out.lt
    by_cases hlt : j < A.dec.length
    · have k1 : (j : Int) < (A.dec.length : Int) := by omega
      have hlt2 : j < B.dec.length := by have := h1.out; omega
      have HTS : Hid (A.dec.take (j + 1) = A.dec.take j ++ [A.dec[j]] ∧ B.dec.take (j + 1) = B.dec.take j ++ [B.dec[j]]) := hid ⟨List.take_succ_eq_append_getElem hlt, List.take_succ_eq_append_getElem hlt2⟩
      have HNE : Hid (A.dec[j] ≠ B.dec[j] → A ≠ B) := hid (fun q e => q (by subst e; rfl))
      obtain ⟨pb, po, epb, hc⟩ := rowAt (g := cIN) (fun _ => rfl) (HA.out.hd.kept hb.out) (i := j) (x := A.dec[j]) (by simp [hlt])
      obtain ⟨qb, qo, eqb, hd⟩ := rowAt (g := cIN) (fun _ => rfl) (HB.out.hd.kept hb.out) (i := j) (x := B.dec[j]) (by simp [hlt2])
      subst epb eqb
      have c0 := hc 0 _ rfl
      have d0 := hd 0 _ rfl
      have c1 := hc 1 _ rfl
      have d1 := hd 1 _ rfl
      have c2 := hc 2 _ rfl
      have d2 := hd 2 _ rfl
      have c3 := hc 3 _ rfl
      have d3 := hd 3 _ rfl
      have c4 := hc 4 _ rfl
      have d4 := hd 4 _ rfl
      clear hc hd
      simp only [Nat.add_zero] at c0 d0
      have hpb : pb < wr.heap.size := World.block_lt_of_cell? _ _ c0
      have hqb : qb < wr.heap.size := World.block_lt_of_cell? _ _ d0
      generalize A.dec[j] = x at *
      generalize B.dec[j] = y at *
      have hgd := gdIN
      have heq := fun W => eqIN x y W
      cases hq : inB x y with
      | false =>
        rw [hq] at heq
        go_wp2
        go_quiet (fail)
        go_wp2
        go_ret
        exact EqA.no (HNE.out (fun e => by rw [(inB_iff x y).2 e] at hq; cases hq)) (by have := hb.out; first | exact this | exact bl_drewN this _ | exact blBy)
      | true =>
        rw [hq] at heq
        have exy := hid ((inB_iff x y).1 hq)
        go_wp2
        go_quiet (fail)
        go_wp2
        exact ⟨⟨j + 1, by simp, by omega, hid (by rw [HTS.out.1, HTS.out.2, HT.out, exy.out]), hid (Ba.out.kept (below_drewN _ _)), hid (Bb.out.kept (below_drewN _ _)), hid (bl_drewN hb.out _)⟩, by simp [numAt]; omega⟩
    · have k1 : ¬ (j : Int) < (A.dec.length : Int) := by omega
      have Edec : Hid (A.dec = B.dec) := hid (by have := HT.out; rwa [List.take_of_length_le (by omega), List.take_of_length_le (by have := h1.out; omega)] at this)
      go_wp2
      clear hj HT xa za xb zb k1
      go_loopw [6] (fun r wr => ∃ j : Nat, r = .int .i64 j ∧ j ≤ A.enc.length ∧ Hid (A.enc.take j = B.enc.take j) ∧ Hid (Blk wr w.heap.size 28 #[.slice aa A.dec.length ac, .slice ba A.enc.length bc, .slice ca A.rows.length cc]) ∧ Hid (Blk wr (w.heap.size + 1) 28 #[.slice da A.dec.length dc, .slice ea A.enc.length ec, .slice fa A.rows.length fc]) ∧ Hid (Below w.heap.size w wr)) (fun r wr => A.enc.length - numAt wr r)
      case atStart => exact ⟨0, rfl, by omega, hid (by simp), Ba, Bb, hb⟩
      case round =>
        obtain ⟨j, rfl, hj, HT, Ba, Bb, hb⟩ := hrel
        have xa := Ba.out.cellF
        have za := Ba.out.lt
        have xb := Bb.out.cellF
        have zb := Bb.out.lt
        by_cases hlt : j < A.enc.length
        · have k1 : (j : Int) < (A.enc.length : Int) := by omega
          have hlt2 : j < B.enc.length := by have := h2.out; omega
          have HTS : Hid (A.enc.take (j + 1) = A.enc.take j ++ [A.enc[j]] ∧ B.enc.take (j + 1) = B.enc.take j ++ [B.enc[j]]) := hid ⟨List.take_succ_eq_append_getElem hlt, List.take_succ_eq_append_getElem hlt2⟩
          have HNE : Hid (A.enc[j] ≠ B.enc[j] → A ≠ B) := hid (fun q e => q (by subst e; rfl))
          obtain ⟨pb, po, epb, hc⟩ := rowAt (g := cIN) (fun _ => rfl) (HA.out.he.kept hb.out) (i := j) (x := A.enc[j]) (by simp [hlt])
          obtain ⟨qb, qo, eqb, hd⟩ := rowAt (g := cIN) (fun _ => rfl) (HB.out.he.kept hb.out) (i := j) (x := B.enc[j]) (by simp [hlt2])
          subst epb eqb
          have c0 := hc 0 _ rfl
          have d0 := hd 0 _ rfl
          have c1 := hc 1 _ rfl
          have d1 := hd 1 _ rfl
          have c2 := hc 2 _ rfl
          have d2 := hd 2 _ rfl
          have c3 := hc 3 _ rfl
          have d3 := hd 3 _ rfl
          have c4 := hc 4 _ rfl
          have d4 := hd 4 _ rfl
          clear hc hd
          simp only [Nat.add_zero] at c0 d0
          have hpb : pb < wr.heap.size := World.block_lt_of_cell? _ _ c0
          have hqb : qb < wr.heap.size := World.block_lt_of_cell? _ _ d0
          generalize A.enc[j] = x at *
          generalize B.enc[j] = y at *
          have hgd := gdIN
          have heq := fun W => eqIN x y W
          cases hq : inB x y with
          | false =>
            rw [hq] at heq
            go_wp2
            go_quiet (fail)
            go_wp2
            go_ret
            exact EqA.no (HNE.out (fun e => by rw [(inB_iff x y).2 e] at hq; cases hq)) (by have := hb.out; first | exact this | exact bl_drewN this _ | exact blBy)
          | true =>
            rw [hq] at heq
            have exy := hid ((inB_iff x y).1 hq)
            go_wp2
            go_quiet (fail)
            go_wp2
            exact ⟨⟨j + 1, by simp, by omega, hid (by rw [HTS.out.1, HTS.out.2, HT.out, exy.out]), hid (Ba.out.kept (below_drewN _ _)), hid (Bb.out.kept (below_drewN _ _)), hid (bl_drewN hb.out _)⟩, by simp [numAt]; omega⟩
        · have k1 : ¬ (j : Int) < (A.enc.length : Int) := by omega
          have Eenc : Hid (A.enc = B.enc) := hid (by have := HT.out; rwa [List.take_of_length_le (by omega), List.take_of_length_le (by have := h2.out; omega)] at this)
          go_wp2
          clear hj HT xa za xb zb k1
          go_loopw [7] (fun r wr => ∃ j : Nat, r = .int .i64 j ∧ j ≤ A.rows.length ∧ Hid (A.rows.take j = B.rows.take j) ∧ Hid (Blk wr w.heap.size 28 #[.slice aa A.dec.length ac, .slice ba A.enc.length bc, .slice ca A.rows.length cc]) ∧ Hid (Blk wr (w.heap.size + 1) 28 #[.slice da A.dec.length dc, .slice ea A.enc.length ec, .slice fa A.rows.length fc]) ∧ Hid (Below w.heap.size w wr)) (fun r wr => A.rows.length - numAt wr r)
          case atStart => exact ⟨0, rfl, by omega, hid (by simp), Ba, Bb, hb⟩
          case round =>
            obtain ⟨j, rfl, hj, HT, Ba, Bb, hb⟩ := hrel
            have xa := Ba.out.cellF
            have za := Ba.out.lt
            have xb := Bb.out.cellF
            have zb := Bb.out.lt
            by_cases hlt : j < A.rows.length
            · have k1 : (j : Int) < (A.rows.length : Int) := by omega
              have hlt2 : j < B.rows.length := by have := h3.out; omega
              have HTS : Hid (A.rows.take (j + 1) = A.rows.take j ++ [A.rows[j]] ∧ B.rows.take (j + 1) = B.rows.take j ++ [B.rows[j]]) := hid ⟨List.take_succ_eq_append_getElem hlt, List.take_succ_eq_append_getElem hlt2⟩
              have HNE : Hid (A.rows[j] ≠ B.rows[j] → A ≠ B) := hid (fun q e => q (by subst e; rfl))
              obtain ⟨pb, po, epb, hc⟩ := rowAt (g := cLN) (fun _ => rfl) (HA.out.hr.kept hb.out) (i := j) (x := A.rows[j]) (by simp [hlt])
              obtain ⟨qb, qo, eqb, hd⟩ := rowAt (g := cLN) (fun _ => rfl) (HB.out.hr.kept hb.out) (i := j) (x := B.rows[j]) (by simp [hlt2])
              subst epb eqb
              have c0 := hc 0 _ rfl
              have d0 := hd 0 _ rfl
              have c1 := hc 1 _ rfl
              have d1 := hd 1 _ rfl
              clear hc hd
              simp only [Nat.add_zero] at c0 d0
              have hpb : pb < wr.heap.size := World.block_lt_of_cell? _ _ c0
              have hqb : qb < wr.heap.size := World.block_lt_of_cell? _ _ d0
              generalize A.rows[j] = x at *
              generalize B.rows[j] = y at *
              have hgd := gdLN
              have heq := fun W => eqLN x y W
              cases hq : lnB x y with
              | false =>
                rw [hq] at heq
                go_wp2
                go_quiet (fail)
                go_wp2
                go_ret
                exact EqA.no (HNE.out (fun e => by rw [(lnB_iff x y).2 e] at hq; cases hq)) (by have := hb.out; first | exact this | exact bl_drewN this _ | exact blBy)
              | true =>
                rw [hq] at heq
                have exy := hid ((lnB_iff x y).1 hq)
                go_wp2
                go_quiet (fail)
                go_wp2
                exact ⟨⟨j + 1, by simp, by omega, hid (by rw [HTS.out.1, HTS.out.2, HT.out, exy.out]), hid (Ba.out.kept (below_drewN _ _)), hid (Bb.out.kept (below_drewN _ _)), hid (bl_drewN hb.out _)⟩, by simp [numAt]; omega⟩
            · have k1 : ¬ (j : Int) < (A.rows.length : Int) := by omega
              have Erows : Hid (A.rows = B.rows) := hid (by have := HT.out; rwa [List.take_of_length_le (by omega), List.take_of_length_le (by have := h3.out; omega)] at this)
              go_wp2
              go_ret
              exact EqA.yes (bk_eq Edec.out Eenc.out Erows.out) hb.out
def nameP (nm : List Int) (v : TV) : Bool := decide (v.t.name = nm)
theorem rowOf {w : World} {b : Nat} {t : TypeId} {cs : Array Value} (B : Blk w b t cs) (k n : Nat) (fl : List Value) (h : cs = fl.toArray) (hl : fl.length = n * k) (hn : n ≤ 9223372036854775807) : RowS w AnyZ k (.slice (some ⟨b, 0, none⟩) n n) n fl :=
  ⟨some ⟨b, 0, none⟩, n, rfl, hl, Nat.le_refl _, hn, .inr ⟨b, 0, rfl, trivial, fun j u hu => by
    rw [Nat.zero_add]
    exact B.cell j u (by rw [h, List.getElem?_toArray]; exact hu)⟩⟩
def simE (h : Nat) : TV := ⟨⟨[69], true, [], [], [⟨[65], 0⟩], []⟩, .slice none 0 0, .slice none 0 0, .slice (some ⟨h + 1, 0, none⟩) 1 1, .slice none 0 0⟩
def simF : List FT := [⟨[120], 1, 2, 0, 0, 0, 0⟩, ⟨[108], 2, 4, 0, 3, 0, 0⟩, ⟨[109], 3, 17, 1, 1, 0, 0⟩]
def simM (h : Nat) : TV := ⟨⟨[77], false, simF, [], [], []⟩, .slice (some ⟨h + 1 + 1, 0, none⟩) 3 3, .slice none 0 0, .slice none 0 0, .slice none 0 0⟩
def simL (h : Nat) : List TV := [simE h, simM h]
theorem simpleW (w : World) : Calls Tryz.prog 19 #[] w fun e w' => e = .returned (.agg #[.slice (some ⟨w.heap.size + 1 + 1 + 1, 0, none⟩) (simL w.heap.size).length 2]) ∧ TbR w' (.slice (some ⟨w.heap.size + 1 + 1 + 1, 0, none⟩) (simL w.heap.size).length 2) (simL w.heap.size) ∧ Below w.heap.size w w' := by
  have HT : Hid (∀ W : World, Blk W (w.heap.size + 1) 63 #[.string ⟨#[65]⟩, .int .i64 0] → Blk W (w.heap.size + 1 + 1) 52 #[.string ⟨#[120]⟩, .int .i64 1, .int .i64 2, .int .i64 0, .int .i64 0, .int .i64 0, .int .i64 0, .string ⟨#[108]⟩, .int .i64 2, .int .i64 4, .int .i64 0, .int .i64 3, .int .i64 0, .int .i64 0, .string ⟨#[109]⟩, .int .i64 3, .int .i64 17, .int .i64 1, .int .i64 1, .int .i64 0, .int .i64 0] → Blk W (w.heap.size + 1 + 1 + 1) 50 #[.string ⟨#[69]⟩, .bool true, .slice none 0 0, .slice none 0 0, .slice (some ⟨w.heap.size + 1, 0, none⟩) 1 1, .slice none 0 0, .string ⟨#[77]⟩, .bool false, .slice (some ⟨w.heap.size + 1 + 1, 0, none⟩) 3 3, .slice none 0 0, .slice none 0 0, .slice none 0 0] → TbR W (.slice (some ⟨w.heap.size + 1 + 1 + 1, 0, none⟩) (simL w.heap.size).length 2) (simL w.heap.size)) := hid fun W B1 B2 B3 => by
    refine ⟨rowOf B3 6 2 _ rfl rfl (by decide), fun x hx => ?_⟩
    rcases List.mem_cons.1 hx with rfl | hx
    · exact ⟨rowS_nil _ _ _, rowS_nil _ _ _, rowOf B1 2 1 _ rfl rfl (by decide), rowS_nil _ _ _⟩
    · rcases List.mem_cons.1 hx with rfl | hx
      · exact ⟨rowOf B2 7 3 _ rfl rfl (by decide), rowS_nil _ _ _, rowS_nil _ _ _, rowS_nil _ _ _⟩
      · cases hx
  go_enter Tryz.func19, Tryz.ntmps19
  go_wp2
  refine bodyPost_ret (v := .agg #[.slice (some ⟨w.heap.size + 1 + 1 + 1, 0, none⟩) 2 2]) (by simp [results, Tryz.results19, go_sem]) rfl ⟨rfl, HT.out _ ?_ ?_ ?_, by exact blBy⟩
  · exact ((Blk.newAt (by simp)).kept (below_alloc _)).kept (below_alloc _)
  · exact (Blk.newAt (by simp)).kept (below_alloc _)
  · exact Blk.newAt (by simp)
theorem simGood (h : Nat) : goodB (simL h) = true := by kernel_rfl
theorem simOk (h : Nat) : ∀ x ∈ simL h, OkV x := by
  have tx : ∀ n : List Int, n ∈ ([[69], [77], [65], [120], [108], [109]] : List (List Int)) → TxA n := by
    intro n hn
    simp only [List.mem_cons, List.not_mem_nil, or_false] at hn
    rcases hn with rfl | rfl | rfl | rfl | rfl | rfl <;> exact ⟨by decide, by decide⟩
  intro x hx
  rcases List.mem_cons.1 hx with rfl | hx
  · refine ⟨⟨tx _ (by simp [simE]), by simp [simE], by simp [simE], fun s hs => ?_⟩, by simp [simE], by simp [simE]⟩
    simp [simE] at hs
    subst hs
    exact ⟨tx _ (by simp), by unfold I64; decide⟩
  · rcases List.mem_cons.1 hx with rfl | hx
    · refine ⟨⟨tx _ (by simp [simM]), fun f hf => ?_, by simp [simM], by simp [simM]⟩, by simp [simM], by simp [simM, simF]⟩
      simp [simM, simF] at hf
      rcases hf with rfl | rfl | rfl <;> exact tx _ (by simp)
    · cases hx
def simBK : BK := ⟨decL simF, encL simF, []⟩
theorem simD : (#[.int .i64 1, .int .i64 0, .int .i64 0, .int .i64 0, .int .i64 0, .int .i64 2, .int .i64 8, .int .i64 5, .int .i64 0, .int .i64 0, .int .i64 5, .int .i64 2, .int .i64 0, .int .i64 0, .int .i64 0, .int .i64 7, .int .i64 1, .int .i64 0, .int .i64 0, .int .i64 0, .int .i64 4, .int .i64 0, .int .i64 0, .int .i64 0, .int .i64 0, .int .i64 2, .int .i64 16, .int .i64 9, .int .i64 0, .int .i64 0, .int .i64 5, .int .i64 4, .int .i64 0, .int .i64 0, .int .i64 0, .int .i64 8, .int .i64 2, .int .i64 0, .int .i64 0, .int .i64 0, .int .i64 4, .int .i64 0, .int .i64 0, .int .i64 0, .int .i64 0, .int .i64 2, .int .i64 18, .int .i64 12, .int .i64 0, .int .i64 0, .int .i64 11, .int .i64 2, .int .i64 4, .int .i64 0, .int .i64 0, .int .i64 4, .int .i64 0, .int .i64 0, .int .i64 0, .int .i64 0, .int .i64 2, .int .i64 26, .int .i64 15, .int .i64 0, .int .i64 0, .int .i64 10, .int .i64 3, .int .i64 1, .int .i64 0, .int .i64 0, .int .i64 4, .int .i64 0, .int .i64 0, .int .i64 0, .int .i64 0, .int .i64 13, .int .i64 0, .int .i64 0, .int .i64 0, .int .i64 0, .int .i64 4, .int .i64 0, .int .i64 0, .int .i64 0, .int .i64 0] : Array Value) = (simBK.dec.flatMap cIN).toArray := by kernel_rfl
theorem simE' : (#[.int .i64 16, .int .i64 1, .int .i64 3, .int .i64 2, .int .i64 0, .int .i64 17, .int .i64 8, .int .i64 0, .int .i64 0, .int .i64 0, .int .i64 18, .int .i64 2, .int .i64 0, .int .i64 0, .int .i64 0, .int .i64 16, .int .i64 2, .int .i64 5, .int .i64 0, .int .i64 0, .int .i64 21, .int .i64 18, .int .i64 4, .int .i64 0, .int .i64 0, .int .i64 16, .int .i64 3, .int .i64 8, .int .i64 0, .int .i64 0, .int .i64 17, .int .i64 26, .int .i64 0, .int .i64 0, .int .i64 0, .int .i64 19, .int .i64 1, .int .i64 0, .int .i64 0, .int .i64 0, .int .i64 23, .int .i64 0, .int .i64 0, .int .i64 0, .int .i64 0, .int .i64 24, .int .i64 0, .int .i64 0, .int .i64 0, .int .i64 0] : Array Value) = (simBK.enc.flatMap cIN).toArray := by kernel_rfl
theorem simDl : simBK.dec.length = 17 := by kernel_rfl
theorem simEl : simBK.enc.length = 10 := by kernel_rfl
def LwA (w : World) (e : Ending) (w' : World) : Prop := ∃ da ea, e = .returned (.agg #[.slice da simBK.dec.length 17, .slice ea simBK.enc.length 10, .slice none simBK.rows.length 0]) ∧ BkR w' simBK (.slice da simBK.dec.length 17) (.slice ea simBK.enc.length 10) (.slice none simBK.rows.length 0) ∧ Below w.heap.size w w'
theorem LwA.mk {w w' : World} {h1 h2 : Nat} (B1 : Blk w' h1 59 #[.int .i64 1, .int .i64 0, .int .i64 0, .int .i64 0, .int .i64 0, .int .i64 2, .int .i64 8, .int .i64 5, .int .i64 0, .int .i64 0, .int .i64 5, .int .i64 2, .int .i64 0, .int .i64 0, .int .i64 0, .int .i64 7, .int .i64 1, .int .i64 0, .int .i64 0, .int .i64 0, .int .i64 4, .int .i64 0, .int .i64 0, .int .i64 0, .int .i64 0, .int .i64 2, .int .i64 16, .int .i64 9, .int .i64 0, .int .i64 0, .int .i64 5, .int .i64 4, .int .i64 0, .int .i64 0, .int .i64 0, .int .i64 8, .int .i64 2, .int .i64 0, .int .i64 0, .int .i64 0, .int .i64 4, .int .i64 0, .int .i64 0, .int .i64 0, .int .i64 0, .int .i64 2, .int .i64 18, .int .i64 12, .int .i64 0, .int .i64 0, .int .i64 11, .int .i64 2, .int .i64 4, .int .i64 0, .int .i64 0, .int .i64 4, .int .i64 0, .int .i64 0, .int .i64 0, .int .i64 0, .int .i64 2, .int .i64 26, .int .i64 15, .int .i64 0, .int .i64 0, .int .i64 10, .int .i64 3, .int .i64 1, .int .i64 0, .int .i64 0, .int .i64 4, .int .i64 0, .int .i64 0, .int .i64 0, .int .i64 0, .int .i64 13, .int .i64 0, .int .i64 0, .int .i64 0, .int .i64 0, .int .i64 4, .int .i64 0, .int .i64 0, .int .i64 0, .int .i64 0]) (B2 : Blk w' h2 59 #[.int .i64 16, .int .i64 1, .int .i64 3, .int .i64 2, .int .i64 0, .int .i64 17, .int .i64 8, .int .i64 0, .int .i64 0, .int .i64 0, .int .i64 18, .int .i64 2, .int .i64 0, .int .i64 0, .int .i64 0, .int .i64 16, .int .i64 2, .int .i64 5, .int .i64 0, .int .i64 0, .int .i64 21, .int .i64 18, .int .i64 4, .int .i64 0, .int .i64 0, .int .i64 16, .int .i64 3, .int .i64 8, .int .i64 0, .int .i64 0, .int .i64 17, .int .i64 26, .int .i64 0, .int .i64 0, .int .i64 0, .int .i64 19, .int .i64 1, .int .i64 0, .int .i64 0, .int .i64 0, .int .i64 23, .int .i64 0, .int .i64 0, .int .i64 0, .int .i64 0, .int .i64 24, .int .i64 0, .int .i64 0, .int .i64 0, .int .i64 0]) (hb : Below w.heap.size w w') : LwA w (.returned (.agg #[.slice (some ⟨h1, 0, none⟩) 17 17, .slice (some ⟨h2, 0, none⟩) 10 10, .slice none 0 0])) w' := by
  refine ⟨some ⟨h1, 0, none⟩, some ⟨h2, 0, none⟩, by rw [simDl, simEl]; rfl, ⟨?_, ?_, rowS_nil _ _ _⟩, hb⟩
  · rw [simDl]
    exact rowOf' B1 5 17 _ simD (by rw [flatM_len (g := cIN) (k := 5) (fun _ => rfl), simDl]) (by decide)
  · rw [simEl]
    exact rowOf' B2 5 10 _ simE' (by rw [flatM_len (g := cIN) (k := 5) (fun _ => rfl), simEl]) (by decide)
theorem loweredW (w : World) : Calls Tryz.prog 20 #[] w (LwA w) := by
  go_enter Tryz.func20, Tryz.ntmps20
  go_wp2
  refine bodyPost_ret (v := .agg #[.slice (some ⟨w.heap.size + 1, 0, none⟩) 17 17, .slice (some ⟨w.heap.size + 1 + 1, 0, none⟩) 10 10, .slice none 0 0]) (by simp [results, Tryz.results20, go_sem]) rfl ?_
  refine LwA.mk ?_ ?_ (by exact blBy)
  · exact (Blk.newAt (by simp)).kept (below_alloc _)
  · exact Blk.newAt (by simp)
/-- The law's own first question. -/
theorem awakeW (w : World) (m : Int) (hm : w.cell? ⟨0, 0, none⟩ = some (.int .i64 m)) : Calls Tryz.prog 8 #[] w fun e w' => e = .returned (.bool true) ∧ Below w.heap.size w w' := by
  have HL : Hid (∀ W W' : World, Below w.heap.size w W → TbR W' (.slice (some ⟨W.heap.size + 1 + 1 + 1, 0, none⟩) (simL W.heap.size).length 2) (simL W.heap.size) → Below w.heap.size w W' → Calls Tryz.prog 6 #[.agg #[.slice (some ⟨W.heap.size + 1 + 1 + 1, 0, none⟩) (simL W.heap.size).length 2], .int .i64 1] W' (LowA W' simBK 0)) := hid fun W W' hW ht hW' => by
    have := lowerTypeT W' (simL W.heap.size) _ 2 ht (simOk _) m (cell_below hm hW') 1
    rw [lowE_ok ⟨simGood _, by decide, by show (1 : Int) < 2; decide⟩] at this
    have e : lowBK (simL W.heap.size) 1 = simBK := lowBK_at (k := 1) (simGood _) (show 1 < 2 by decide)
    rw [e] at this
    exact this
  go_enter Tryz.func8, Tryz.ntmps8
  go_wp2_with fail
  refine (simpleW _).mono ?_
  rintro e w1 ⟨rfl, ht, hb1⟩
  have HT := hid ht
  replace hb1 := hid hb1
  clear ht
  go_wp2_with fail
  refine (HL.out w w1 (Below.refl _ _) HT.out hb1.out).mono ?_
  rintro e w2 ⟨da, dc, ea, ec, ra, rc, rfl, ho, hb2⟩
  replace ho := hid ho.row
  replace hb2 : Hid (Below w.heap.size w w2) := hid (bl_then hb1.out hb2)
  clear HL HT hb1
  go_wp2_with fail
  have Bb : Hid (Blk (w2.alloc (.cells #[.slice da simBK.dec.length dc, .slice ea simBK.enc.length ec, .slice ra simBK.rows.length rc] 28)) w2.heap.size 28 #[.slice da simBK.dec.length dc, .slice ea simBK.enc.length ec, .slice ra simBK.rows.length rc]) := hid (Blk.new _ _ _)
  replace hb2 : Hid (Below w.heap.size w (w2.alloc (.cells #[.slice da simBK.dec.length dc, .slice ea simBK.enc.length ec, .slice ra simBK.rows.length rc] 28))) := hid (by have := hb2.out; exact blBy)
  replace ho : Hid (BkR (w2.alloc (.cells #[.slice da simBK.dec.length dc, .slice ea simBK.enc.length ec, .slice ra simBK.rows.length rc] 28)) simBK (.slice da simBK.dec.length dc) (.slice ea simBK.enc.length ec) (.slice ra simBK.rows.length rc)) := hid (ho.out.kept (below_alloc _))
  generalize w2.alloc (.cells #[.slice da simBK.dec.length dc, .slice ea simBK.enc.length ec, .slice ra simBK.rows.length rc] 28) = W at *
  generalize w2.heap.size = q at *
  have e0 := Bb.out.cell 0 _ rfl
  have e1 := Bb.out.cell 1 _ rfl
  have e2 := Bb.out.cell 2 _ rfl
  simp only [List.getElem_toArray, List.getElem_cons_succ, List.getElem_cons_zero] at e0 e1 e2
  go_region_held3 (fun W => W.cell? ⟨q, 0, none⟩ = some (.slice da simBK.dec.length dc) ∧ W.cell? ⟨q, 1, none⟩ = some (.slice ea simBK.enc.length ec) ∧ W.cell? ⟨q, 2, none⟩ = some (.slice ra simBK.rows.length rc)) (first | exact ⟨e0, e1, e2⟩) (first | (go_at_call 20; refine (loweredW _).mono ?_; rintro e w3 ⟨pa, qa, rfl, hl, hbx⟩; replace e0 := cell_below e0 (below_trans (by first | exact Below.refl _ _ | exact below_drew1 _ | exact below_drewN _ _) hbx); replace e1 := cell_below e1 (below_trans (by first | exact Below.refl _ _ | exact below_drew1 _ | exact below_drewN _ _) hbx); replace e2 := cell_below e2 (below_trans (by first | exact Below.refl _ _ | exact below_drew1 _ | exact below_drewN _ _) hbx); replace ho := hid (ho.out.kept (below_trans (by first | exact Below.refl _ _ | exact below_drew1 _ | exact below_drewN _ _) hbx)); replace hb2 := hid (below_trans hb2.out (below_trans (by first | exact Below.refl _ _ | exact below_drew1 _ | exact below_drewN _ _) hbx)); have HLW := hid hl; clear hl hbx) | (go_at_call 10; refine (sameBlockD _ simBK simBK _ _ _ _ _ _ _ _ _ _ _ _ ho.out HLW.out).mono ?_; rintro e w4 ⟨r, rfl, hr, hbx⟩; obtain rfl : r = true := hr.2 rfl; replace e0 := cell_below e0 hbx; replace e1 := cell_below e1 hbx; replace e2 := cell_below e2 hbx; replace hb2 := hid (below_trans hb2.out hbx); clear hr hbx))
  all_goals
    go_wp2
    go_ret
    exact ⟨rfl, hb2.out⟩
def memQ (o : Int) (f : FT) : Bool := decide (f.lab = 4) && decide (f.one = o)
def memL (fs : List FT) (o : Int) : List Int := (fs.filter (memQ o)).map FT.num
theorem memL_app (a b : List FT) (o : Int) : memL (a ++ b) o = memL a o ++ memL b o := by unfold memL; simp
theorem memL_len (a : List FT) (o : Int) : (memL a o).length ≤ a.length := by unfold memL; rw [List.length_map]; exact List.length_filter_le _ _
theorem membersR (w : World) (fs : List FT) (s : ByteArray) (b : Bool) (fa oa sa ra : Option Addr) (fc on oc sn sc rn rc : Nat) (hs : RowS w AnyZ 7 (.slice fa fs.length fc) fs.length (fs.flatMap cFT)) (hl : fs.length ≤ 128) (o : Int) : Calls Tryz.prog 45 #[.agg #[.string s, .bool b, .slice fa fs.length fc, .slice oa on oc, .slice sa sn sc, .slice ra rn rc], .int .i64 o] w fun e w' => ∃ la lc, e = .returned (.slice la (memL fs o).length lc) ∧ Hid (w'.ownsRow w.heap.size 3 1 (.slice la (memL fs o).length lc) (memL fs o).length ((memL fs o).flatMap cI64)) ∧ Hid (Below w.heap.size w w') := by
  go_enter Tryz.func45, Tryz.ntmps45
  go_wp2
  have HS : Hid (RowS (w.alloc (.cells #[.string s, .bool b, .slice fa fs.length fc, .slice oa on oc, .slice sa sn sc, .slice ra rn rc] 50)) AnyZ 7 (.slice fa fs.length fc) fs.length (fs.flatMap cFT)) := hid (hs.kept (below_alloc _))
  have Bt : Hid (Blk (w.alloc (.cells #[.string s, .bool b, .slice fa fs.length fc, .slice oa on oc, .slice sa sn sc, .slice ra rn rc] 50)) w.heap.size 50 #[.string s, .bool b, .slice fa fs.length fc, .slice oa on oc, .slice sa sn sc, .slice ra rn rc]) := hid (Blk.new _ _ _)
  have HB : Hid (Below w.heap.size w (w.alloc (.cells #[.string s, .bool b, .slice fa fs.length fc, .slice oa on oc, .slice sa sn sc, .slice ra rn rc] 50))) := hid (below_alloc _)
  clear hs
  generalize w.alloc (.cells #[.string s, .bool b, .slice fa fs.length fc, .slice oa on oc, .slice sa sn sc, .slice ra rn rc] 50) = W at *
  generalize eq : w.heap.size = q at *
  have hn63 : (fs.length : Int) ≤ 9223372036854775807 := by omega
  go_loopw [5, 6] (fun o1 r wr => ∃ (j : Nat) (la : Option Addr) (lc : Nat), r = .int .i64 j ∧ o1 = .slice la (memL (fs.take j) o).length lc ∧ j ≤ fs.length ∧ Hid (wr.ownsRow W.heap.size 3 1 (.slice la (memL (fs.take j) o).length lc) (memL (fs.take j) o).length ((memL (fs.take j) o).flatMap cI64)) ∧ Hid (Below W.heap.size W wr)) (fun o1 r wr => fs.length - numAt wr r)
  case atStart => exact ⟨0, none, 0, rfl, rfl, by omega, hid (World.ownsRow_nil _ _ _ _), hid (Below.refl _ _)⟩
  case round =>
    obtain ⟨j, la, lc, rfl, rfl, hj, HO, hb⟩ := hrel
    have Bw := Bt.out.kept hb.out
    have xb := Bw.cellF
    have zb := Bw.lt
    clear Bw
    by_cases hlt : j < fs.length
    · have j1 : (j : Int) < (fs.length : Int) := by omega
      obtain ⟨pb, po, epb, hc⟩ := rowAt (g := cFT) (fun _ => rfl) (HS.out.kept hb.out) (i := j) (x := fs[j]) (by simp [hlt])
      cases epb
      have c1 := hc 1 _ rfl
      have c4 := hc 4 _ rfl
      have c5 := hc 5 _ rfl
      clear hc
      have hpb : pb < wr.heap.size := World.block_lt_of_cell? _ _ c1
      have HTK : Hid (memL (fs.take (j + 1)) o = memL (fs.take j) o ++ memL [fs[j]] o) := hid (by rw [List.take_succ_eq_append_getElem hlt, memL_app])
      have HLJ : Hid ((memL (fs.take j) o).length ≤ 128) := hid (by have := memL_len (fs.take j) o; rw [List.length_take] at this; omega)
      generalize fs[j] = x at *
      generalize memL (fs.take j) o = C at *
      by_cases h4 : x.lab = 4
      · have q4 : (x.lab == 4) = true := by simpa using h4
        by_cases h5 : x.one = o
        · have q5 : (x.one == o) = true := by simpa using h5
          have HC1 : Hid (memL [x] o = [x.num]) := hid (by simp [memL, memQ, h4, h5])
          clear h4 h5
          obtain ⟨ma, mc, x1, HRUN, HV2, HG1⟩ := appendIn W.heap.size _ C x.num wr HO.out hb.out.size (by have := HLJ.out; omega)
          have HB1 : Hid (Below W.heap.size W x1) := hid (hb.out.trans (grow_bel HG1.out HO.out (Nat.le_refl _) hb.out.size))
          go_wp2_with (first | (at_builtin; refine wpList_append_ran rfl _ _ 84 84 rfl rfl _ _ (.slice ma (C.length + 1) mc) x1 rfl rfl HRUN.out ?_))
          exact ⟨⟨j + 1, ma, mc, by simp, by rw [HTK.out, HC1.out]; simp, by omega, hid (by rw [HTK.out, HC1.out]; have := HV2.out; simpa using this), HB1⟩, by simp [numAt]; omega⟩
        · have q5 : (x.one == o) = false := by simpa using h5
          have HC1 : Hid (memL [x] o = []) := hid (by simp [memL, memQ, h5])
          clear h4 h5
          go_wp2
          exact ⟨⟨j + 1, la, lc, by simp, by rw [HTK.out, HC1.out]; simp, by omega, hid (by rw [HTK.out, HC1.out, List.append_nil]; exact HO.out), hb⟩, by simp [numAt]; omega⟩
      · have q4 : (x.lab == 4) = false := by simpa using h4
        have HC1 : Hid (memL [x] o = []) := hid (by simp [memL, memQ, h4])
        clear h4
        go_wp2
        exact ⟨⟨j + 1, la, lc, by simp, by rw [HTK.out, HC1.out]; simp, by omega, hid (by rw [HTK.out, HC1.out, List.append_nil]; exact HO.out), hb⟩, by simp [numAt]; omega⟩
    · have j1 : ¬ (j : Int) < (fs.length : Int) := by omega
      have e1 : fs.take j = fs := List.take_of_length_le (by omega)
      rw [e1] at HO ⊢
      go_wp2
      go_ret
      exact ⟨la, lc, rfl, hid (own_mono HO.out (by have := HB.out.size; omega)), hid (by rw [← eq]; exact below_trans (by rw [eq]; exact HB.out) hb.out)⟩
def ins9 (n : Int) : IN := ⟨9, n, 0, 0, 0⟩
theorem clr_mem (fs : List FT) (f : FT) (h : f.lab = 4) : clrL fs f = (memL fs f.one).map ins9 := by
  unfold clrL memL
  rw [if_pos h, List.map_map]
  rfl
theorem clr_no (fs : List FT) (f : FT) (h : f.lab ≠ 4) : clrL fs f = [] := by unfold clrL; rw [if_neg h]
/-- Steps, new memory. -/
def InsA (w : World) (l : List IN) (e : Ending) (w' : World) : Prop := ∃ la lc, e = .returned (.slice la l.length lc) ∧ Hid (w'.ownsRow w.heap.size 59 5 (.slice la l.length lc) l.length (l.flatMap cIN)) ∧ Hid (Below w.heap.size w w')
theorem takenR (w : World) (fs : List FT) (f : FT) (s : ByteArray) (b : Bool) (fa oa sa ra : Option Addr) (fc on oc sn sc rn rc : Nat) (hs : RowS w AnyZ 7 (.slice fa fs.length fc) fs.length (fs.flatMap cFT)) (hl : fs.length ≤ 128) : Calls Tryz.prog 24 #[.agg #[.string s, .bool b, .slice fa fs.length fc, .slice oa on oc, .slice sa sn sc, .slice ra rn rc], .agg #[.string (strOfNums f.name), .int .i64 f.num, .int .i64 f.kind, .int .i64 f.ref, .int .i64 f.lab, .int .i64 f.one, .int .i64 f.key]] w (InsA w (valL fs f)) := by
  have HX : Hid (valL fs f = valL fs f) := hid rfl
  unfold valL at HX
  generalize eV : valL fs f = res at *
  replace HX : Hid (res = if f.lab = 5 then [insV 12 [f.num, f.key, f.kind, f.ref]] else if f.kind = 17 then clrL fs f ++ [insV 10 [f.num, f.ref, becV f.lab]] else [insV 5 [f.kind]] ++ (if f.kind = 16 then [insV 6 [f.ref]] else []) ++ clrL fs f ++ [insV (putV f.lab) [f.num]]) := hid (by rw [← eV]; rfl)
  clear eV
  go_enter Tryz.func24, Tryz.ntmps24
  go_upto_region 1 with fail
  have HS : Hid (RowS ((w.alloc (.cells #[.string s, .bool b, .slice fa fs.length fc, .slice oa on oc, .slice sa sn sc, .slice ra rn rc] 50)).alloc (.cells #[.string (strOfNums f.name), .int .i64 f.num, .int .i64 f.kind, .int .i64 f.ref, .int .i64 f.lab, .int .i64 f.one, .int .i64 f.key] 52)) AnyZ 7 (.slice fa fs.length fc) fs.length (fs.flatMap cFT)) := hid ((hs.kept (below_alloc _)).kept (below_alloc _))
  have Bx : Hid (Blk ((w.alloc (.cells #[.string s, .bool b, .slice fa fs.length fc, .slice oa on oc, .slice sa sn sc, .slice ra rn rc] 50)).alloc (.cells #[.string (strOfNums f.name), .int .i64 f.num, .int .i64 f.kind, .int .i64 f.ref, .int .i64 f.lab, .int .i64 f.one, .int .i64 f.key] 52)) w.heap.size 50 #[.string s, .bool b, .slice fa fs.length fc, .slice oa on oc, .slice sa sn sc, .slice ra rn rc]) := hid ((Blk.new _ _ _).kept (below_alloc _))
  have Bf : Hid (Blk ((w.alloc (.cells #[.string s, .bool b, .slice fa fs.length fc, .slice oa on oc, .slice sa sn sc, .slice ra rn rc] 50)).alloc (.cells #[.string (strOfNums f.name), .int .i64 f.num, .int .i64 f.kind, .int .i64 f.ref, .int .i64 f.lab, .int .i64 f.one, .int .i64 f.key] 52)) (w.heap.size + 1) 52 #[.string (strOfNums f.name), .int .i64 f.num, .int .i64 f.kind, .int .i64 f.ref, .int .i64 f.lab, .int .i64 f.one, .int .i64 f.key]) := hid (Blk.newAt (by simp))
  have HB : Hid (Below w.heap.size w ((w.alloc (.cells #[.string s, .bool b, .slice fa fs.length fc, .slice oa on oc, .slice sa sn sc, .slice ra rn rc] 50)).alloc (.cells #[.string (strOfNums f.name), .int .i64 f.num, .int .i64 f.kind, .int .i64 f.ref, .int .i64 f.lab, .int .i64 f.one, .int .i64 f.key] 52)) ∧ w.heap.size ≤ ((w.alloc (.cells #[.string s, .bool b, .slice fa fs.length fc, .slice oa on oc, .slice sa sn sc, .slice ra rn rc] 50)).alloc (.cells #[.string (strOfNums f.name), .int .i64 f.num, .int .i64 f.kind, .int .i64 f.ref, .int .i64 f.lab, .int .i64 f.one, .int .i64 f.key] 52)).heap.size) := hid ⟨by exact blBy, by simp; omega⟩
  clear hs
  generalize ((w.alloc (.cells #[.string s, .bool b, .slice fa fs.length fc, .slice oa on oc, .slice sa sn sc, .slice ra rn rc] 50)).alloc (.cells #[.string (strOfNums f.name), .int .i64 f.num, .int .i64 f.kind, .int .i64 f.ref, .int .i64 f.lab, .int .i64 f.one, .int .i64 f.key] 52)) = W at *
  have HM : Hid (∀ V : World, Below W.heap.size W V → Calls Tryz.prog 45 #[.agg #[.string s, .bool b, .slice fa fs.length fc, .slice oa on oc, .slice sa sn sc, .slice ra rn rc], .int .i64 f.one] V fun e w' => ∃ la lc, e = .returned (.slice la (memL fs f.one).length lc) ∧ Hid (w'.ownsRow V.heap.size 3 1 (.slice la (memL fs f.one).length lc) (memL fs f.one).length ((memL fs f.one).flatMap cI64)) ∧ Hid (Below V.heap.size V w')) := hid fun V hV => membersR V fs s b fa oa sa ra fc on oc sn sc rn rc (HS.out.kept hV) hl f.one
  have HML : Hid ((memL fs f.one).length ≤ 128) := hid (by have := memL_len fs f.one; omega)
  have f0 := Bf.out.cellF
  have z0 := Bf.out.lt
  by_cases h5 : f.lab = 5
  · have q5 : (f.lab == 5) = true := by simpa using h5
    have HL : Hid (res = [⟨12, f.num, f.key, f.kind, f.ref⟩]) := hid (by rw [HX.out, if_pos h5]; rfl)
    clear h5 HX HM
    go_wp2
    go_ret
    refine ⟨_, _, by rw [HL.out]; rfl, hid ?_, hid ?_⟩
    · rw [HL.out]
      exact World.ownsRow_lit W #[.int .i64 12, .int .i64 f.num, .int .i64 f.key, .int .i64 f.kind, .int .i64 f.ref] 1 HB.out.2 (by decide) rfl
    · have := HB.out.1
      exact blBy
  have q5 : (f.lab == 5) = false := by simpa using h5
  rw [if_neg h5] at HX
  clear h5
  obtain ⟨A1, hA1⟩ : ∃ A : List IN, A = if f.kind = 17 then [] else [⟨5, f.kind, 0, 0, 0⟩] := ⟨_, rfl⟩
  obtain ⟨A2, hA2⟩ : ∃ A : List IN, A = A1 ++ if f.kind = 16 then [⟨6, f.ref, 0, 0, 0⟩] else [] := ⟨_, rfl⟩
  obtain ⟨A3, hA3⟩ : ∃ A : List IN, A = A2 ++ clrL fs f := ⟨_, rfl⟩
  have HN1 : Hid (A1.length ≤ 1) := hid (by rw [hA1]; split <;> simp)
  have HN2 : Hid (A2.length ≤ 2) := hid (by rw [hA2]; have := HN1.out; split <;> simp <;> omega)
  have HN3 : Hid (A3.length ≤ 130) := hid (by
    rw [hA3]
    have h1 := HN2.out
    have h2 := HML.out
    by_cases h4 : f.lab = 4
    · rw [clr_mem fs f h4]; simp; omega
    · rw [clr_no fs f h4]; simp; omega)
  have HE : Hid (res = A3 ++ [if f.kind = 17 then ⟨10, f.num, f.ref, becV f.lab, 0⟩ else ⟨putV f.lab, f.num, 0, 0, 0⟩]) := hid (by
    rw [HX.out, hA3, hA2, hA1]
    by_cases k17 : f.kind = 17
    · have k16 : f.kind ≠ 16 := by omega
      simp [k17, insV]
    · simp [k17, insV])
  clear HX
  replace hA1 := hid hA1
  replace hA2 := hid hA2
  replace hA3 := hid hA3
  go_upto_if 24 with fail
  go_cut [5] from 9 (fun s5 wc => ∃ (ka : Option Addr) (kc : Nat), s5 = .slice ka A1.length kc ∧ Hid (wc.ownsRow W.heap.size 59 5 (.slice ka A1.length kc) A1.length (A1.flatMap cIN)) ∧ Hid (Below W.heap.size W wc))
  case first =>
    by_cases k17 : f.kind = 17
    · have q17 : (f.kind != 17) = false := by simp [k17]
      have e1 : A1 = [] := by rw [hA1.out, if_pos k17]
      clear k17
      go_wp2_with fail
      go_meet
      exact ⟨none, 0, by rw [e1]; rfl, hid (by rw [e1]; exact World.ownsRow_nil _ _ _ _), hid (Below.refl _ _)⟩
    · have q17 : (f.kind != 17) = true := by simp [k17]
      have e1 : A1 = [] ++ [⟨5, f.kind, 0, 0, 0⟩] := by rw [hA1.out, if_neg k17]; rfl
      replace e1 := hid e1
      clear k17
      obtain ⟨a1, c1, x1, R1, V1, G1⟩ := appendPI W.heap.size (.slice none 0 0) [] ⟨5, f.kind, 0, 0, 0⟩ W (World.ownsRow_nil _ _ 59 5) (Nat.le_refl _) (by decide)
      have B1 : Hid (Below W.heap.size W x1) := hid (grow_bel G1.out (World.ownsRow_nil _ _ 59 5) (Nat.le_refl _) (Nat.le_refl _))
      go_wp2_with (first | (at_builtin; refine wpList_append_ran rfl _ _ 25 25 rfl rfl _ _ (.slice a1 1 c1) x1 rfl rfl R1.out ?_))
      go_meet
      exact ⟨a1, c1, by rw [e1.out]; rfl, hid (by rw [e1.out]; exact V1.out), B1⟩
  case rest =>
    obtain ⟨ka, kc, rfl, HO, hb⟩ := hcut
    clear f0 z0
    have f0 := (Bf.out.kept hb.out).cellF
    have z0 := (Bf.out.kept hb.out).lt
    go_upto_if 33 with fail
    generalize wc = W1 at *
    go_cut [5] from 9 (fun s5 wc => ∃ (ka : Option Addr) (kc : Nat), s5 = .slice ka A2.length kc ∧ Hid (wc.ownsRow W.heap.size 59 5 (.slice ka A2.length kc) A2.length (A2.flatMap cIN)) ∧ Hid (Below W.heap.size W wc))
    case first =>
      by_cases k16 : f.kind = 16
      · have q16 : (f.kind == 16) = true := by simp [k16]
        have e1 : Hid (A2 = A1 ++ [⟨6, f.ref, 0, 0, 0⟩]) := hid (by rw [hA2.out, if_pos k16])
        clear k16
        obtain ⟨a1, c1, x1, R1, V1, G1⟩ := appendPI W.heap.size _ A1 ⟨6, f.ref, 0, 0, 0⟩ W1 HO.out hb.out.size (by have := HN1.out; omega)
        have B1 : Hid (Below W.heap.size W x1) := hid (hb.out.trans (grow_bel G1.out HO.out (Nat.le_refl _) hb.out.size))
        go_wp2_with (first | (at_builtin; refine wpList_append_ran rfl _ _ 25 25 rfl rfl _ _ (.slice a1 (A1.length + 1) c1) x1 rfl rfl R1.out ?_))
        go_meet
        exact ⟨a1, c1, by rw [e1.out]; simp, hid (by rw [e1.out]; have := V1.out; simpa using this), B1⟩
      · have q16 : (f.kind == 16) = false := by simp [k16]
        have e1 : Hid (A2 = A1) := hid (by rw [hA2.out, if_neg k16, List.append_nil])
        clear k16
        go_wp2_with fail
        go_meet
        exact ⟨ka, kc, by rw [e1.out], hid (by rw [e1.out]; exact HO.out), hb⟩
    case rest =>
      clear HO hb f0 z0
      obtain ⟨ka, kc, rfl, HO, hb⟩ := hcut
      have f0 := (Bf.out.kept hb.out).cellF
      have z0 := (Bf.out.kept hb.out).lt
      have g0 := (Bx.out.kept hb.out).cellF
      have y0 := (Bx.out.kept hb.out).lt
      go_upto_if 42 with fail
      generalize wc = W2 at *
      go_cut [5] from 6 (fun s5 wc => ∃ (ka : Option Addr) (kc : Nat), s5 = .slice ka A3.length kc ∧ Hid (wc.ownsRow W.heap.size 59 5 (.slice ka A3.length kc) A3.length (A3.flatMap cIN)) ∧ Hid (Below W.heap.size W wc))
      case first =>
        by_cases h4 : f.lab = 4
        · have q4 : (f.lab == 4) = true := by simp [h4]
          have e1 : Hid (A3 = A2 ++ (memL fs f.one).map ins9) := hid (by rw [hA3.out, clr_mem fs f h4])
          clear h4
          go_wp2_with (first | (go_at_call 45; refine (HM.out _ hb.out).mono ?_; rintro e Y ⟨ma, mc, rfl, HOM, hbm⟩))
          replace HOM := hid (own_mono HOM.out hb.out.size)
          replace HO := hid (own_kept HO.out hbm.out)
          replace hb : Hid (Below W.heap.size W Y) := hid (bl_then hb.out hbm.out)
          clear hbm f0 z0 g0 y0 HM
          generalize memL fs f.one = M at *
          have hM63 : (M.length : Int) ≤ 9223372036854775807 := by have := HML.out; omega
          go_loopw [5, 7] (fun o r wr => ∃ (j : Nat) (ga : Option Addr) (gc : Nat), r = .int .i64 j ∧ o = .slice ga (A2 ++ (M.take j).map ins9).length gc ∧ j ≤ M.length ∧ Hid (wr.ownsRow W.heap.size 59 5 (.slice ga (A2 ++ (M.take j).map ins9).length gc) (A2 ++ (M.take j).map ins9).length ((A2 ++ (M.take j).map ins9).flatMap cIN)) ∧ Hid (wr.ownsRow W.heap.size 3 1 (.slice ma M.length mc) M.length (M.flatMap cI64)) ∧ Hid (Below W.heap.size W wr)) (fun o r wr => M.length - numAt wr r)
          case atStart => exact ⟨0, ka, kc, rfl, by simp, by omega, hid (by have := HO.out; simpa using this), HOM, hb⟩
          case round =>
            clear HO HOM hb
            obtain ⟨j, ga, gc, rfl, rfl, hj, HO, HOM, hb⟩ := hrel
            by_cases hlt : j < M.length
            · have j1 : (j : Int) < (M.length : Int) := by omega
              obtain ⟨g, go, eg, hc⟩ := rowAt (g := cI64) (K := 1) (fun _ => rfl) (own_row HOM.out (Z := AnyZ) (fun _ _ => trivial)) (i := j) (x := M[j]) (by simp [hlt])
              cases eg
              have cc0 := hc 0 _ rfl
              clear hc
              simp only [Nat.add_zero, Nat.mul_one] at cc0
              have hgb : g < wr.heap.size := World.block_lt_of_cell? _ _ cc0
              have HC1 : Hid (A2 ++ (M.take (j + 1)).map ins9 = A2 ++ (M.take j).map ins9 ++ [⟨9, M[j], 0, 0, 0⟩]) := hid (by rw [List.take_succ_eq_append_getElem hlt, List.map_append, ← List.append_assoc]; rfl)
              have HLJ : Hid ((A2 ++ (M.take j).map ins9).length ≤ 4000000) := hid (by have := HML.out; have := HN2.out; simp; omega)
              generalize M[j] = n at *
              generalize A2 ++ (M.take j).map ins9 = C at *
              obtain ⟨a9, c9, x9, R9, V9, G9⟩ := appendPI W.heap.size _ C ⟨9, n, 0, 0, 0⟩ wr HO.out hb.out.size HLJ.out
              have B9 : Hid (Below W.heap.size W x9) := hid (hb.out.trans (grow_bel G9.out HO.out (Nat.le_refl _) hb.out.size))
              have HM9 := hid (grow_own G9.out HO.out HOM.out (by decide))
              go_wp2_with (first | (at_builtin; refine wpList_append_ran rfl _ _ 25 25 rfl rfl _ _ (.slice a9 (C.length + 1) c9) x9 rfl rfl R9.out ?_))
              exact ⟨⟨j + 1, a9, c9, by simp, by rw [HC1.out]; simp, by omega, hid (by rw [HC1.out]; have := V9.out; simpa using this), HM9, B9⟩, by simp [numAt]; omega⟩
            · have j1 : ¬ (j : Int) < (M.length : Int) := by omega
              have e2 : M.take j = M := List.take_of_length_le (by omega)
              rw [e2] at HO ⊢
              go_wp2_with fail
              go_meet
              exact ⟨ga, gc, by rw [e1.out]; simp, hid (by rw [e1.out]; exact HO.out), hb⟩
        · have q4 : (f.lab == 4) = false := by simp [h4]
          have e1 : Hid (A3 = A2) := hid (by rw [hA3.out, clr_no fs f h4, List.append_nil])
          clear h4
          go_wp2_with fail
          go_meet
          exact ⟨ka, kc, by rw [e1.out], hid (by rw [e1.out]; exact HO.out), hb⟩
      case rest =>
        clear HO hb f0 z0 g0 y0
        obtain ⟨ka, kc, rfl, HO, hb⟩ := hcut
        have f0 := (Bf.out.kept hb.out).cellF
        have z0 := (Bf.out.kept hb.out).lt
        clear hA1 hA2 hA3 HM HS Bx
        have HAP : Hid (∀ y : IN, res = A3 ++ [y] → ∃ (a : Option Addr) (c : Nat) (x : World), Hid ((Builtin.append_ #[25, 25] 25 #[.slice ka A3.length kc, .slice (some ⟨wc.heap.size, 0, none⟩) 1 1]).run Tryz.prog (wc.alloc (.cells #[.int .i64 y.op, .int .i64 y.a, .int .i64 y.b, .int .i64 y.c, .int .i64 y.d] 59)) = .ok (.slice a (A3.length + 1) c) x) ∧ Hid (InsA w res (.returned (.slice a (A3.length + 1) c)) x)) := hid fun y hy => by
          obtain ⟨a9, c9, x9, R9, V9, G9⟩ := appendPI W.heap.size _ A3 y wc HO.out hb.out.size (by have := HN3.out; omega)
          refine ⟨a9, c9, x9, R9, hid ⟨a9, c9, by rw [hy]; simp, hid ?_, hid ?_⟩⟩
          · rw [hy]
            have := own_mono V9.out HB.out.2
            simpa using this
          · exact bl_then HB.out.1 (hb.out.trans (grow_bel G9.out HO.out (Nat.le_refl _) hb.out.size))
        clear HO hb HB Bf
        by_cases k17 : f.kind = 17
        · have q17 : (f.kind == 17) = true := by simp [k17]
          by_cases h2 : f.lab = 2
          · have q2 : (f.lab == 2) = true := by simp [h2]
            have q4 : (f.lab == 4) = false := by simp [h2]
            have HE1 := hid (HAP.out ⟨10, f.num, f.ref, 1, 0⟩ (by rw [HE.out]; simp [becV, putV, k17, h2]))
            clear HAP HE HML HN1 HN2 HN3
            obtain ⟨a9, c9, x9, R9, E9⟩ := HE1.out
            clear HE1 h2 k17
            go_wp2_with (first | (at_builtin; refine wpList_append_ran rfl _ _ 25 25 rfl rfl _ _ (.slice a9 (A3.length + 1) c9) x9 rfl rfl R9.out ?_))
            go_ret
            exact E9.out
          have q2 : (f.lab == 2) = false := by simp [h2]
          by_cases h4 : f.lab = 4
          · have q4 : (f.lab == 4) = true := by simp [h4]
            have HE1 := hid (HAP.out ⟨10, f.num, f.ref, 2, 0⟩ (by rw [HE.out]; simp [becV, putV, k17, h4]))
            clear HAP HE HML HN1 HN2 HN3
            obtain ⟨a9, c9, x9, R9, E9⟩ := HE1.out
            clear HE1 h2 h4 k17
            go_wp2_with (first | (at_builtin; refine wpList_append_ran rfl _ _ 25 25 rfl rfl _ _ (.slice a9 (A3.length + 1) c9) x9 rfl rfl R9.out ?_))
            go_ret
            exact E9.out
          · have q4 : (f.lab == 4) = false := by simp [h4]
            have HE1 := hid (HAP.out ⟨10, f.num, f.ref, 0, 0⟩ (by rw [HE.out]; simp [becV, putV, k17, h2, h4]))
            clear HAP HE HML HN1 HN2 HN3
            obtain ⟨a9, c9, x9, R9, E9⟩ := HE1.out
            clear HE1 h2 h4 k17
            go_wp2_with (first | (at_builtin; refine wpList_append_ran rfl _ _ 25 25 rfl rfl _ _ (.slice a9 (A3.length + 1) c9) x9 rfl rfl R9.out ?_))
            go_ret
            exact E9.out
        have q17 : (f.kind == 17) = false := by simp [k17]
        by_cases h2 : f.lab = 2
        · have q2 : (f.lab == 2) = true := by simp [h2]
          have HE1 := hid (HAP.out ⟨8, f.num, 0, 0, 0⟩ (by rw [HE.out]; simp [becV, putV, k17, h2]))
          clear HAP HE HML HN1 HN2 HN3
          obtain ⟨a9, c9, x9, R9, E9⟩ := HE1.out
          clear HE1 h2 k17
          go_wp2_with (first | (at_builtin; refine wpList_append_ran rfl _ _ 25 25 rfl rfl _ _ (.slice a9 (A3.length + 1) c9) x9 rfl rfl R9.out ?_))
          go_ret
          exact E9.out
        have q2 : (f.lab == 2) = false := by simp [h2]
        by_cases h3 : f.lab = 3
        · have q3 : (f.lab == 3) = true := by simp [h3]
          have HE1 := hid (HAP.out ⟨8, f.num, 0, 0, 0⟩ (by rw [HE.out]; simp [becV, putV, k17, h3]))
          clear HAP HE HML HN1 HN2 HN3
          obtain ⟨a9, c9, x9, R9, E9⟩ := HE1.out
          clear HE1 h2 h3 k17
          go_wp2_with (first | (at_builtin; refine wpList_append_ran rfl _ _ 25 25 rfl rfl _ _ (.slice a9 (A3.length + 1) c9) x9 rfl rfl R9.out ?_))
          go_ret
          exact E9.out
        · have q3 : (f.lab == 3) = false := by simp [h3]
          have HE1 := hid (HAP.out ⟨7, f.num, 0, 0, 0⟩ (by rw [HE.out]; simp [becV, putV, k17, h2, h3]))
          clear HAP HE HML HN1 HN2 HN3
          obtain ⟨a9, c9, x9, R9, E9⟩ := HE1.out
          clear HE1 h2 h3 k17
          go_wp2_with (first | (at_builtin; refine wpList_append_ran rfl _ _ 25 25 rfl rfl _ _ (.slice a9 (A3.length + 1) c9) x9 rfl rfl R9.out ?_))
          go_ret
          exact E9.out
theorem cIN_one (ys : List IN) : ∀ u ∈ ys.flatMap cIN, u.oneCell' = true := by
  intro u hu
  obtain ⟨y, _, hy⟩ := List.mem_flatMap.1 hu
  simp [cIN] at hy
  rcases hy with rfl | rfl | rfl | rfl | rfl <;> rfl
theorem cIN_len (ys : List IN) : (ys.flatMap cIN).length = ys.length * 5 := by
  induction ys with
  | nil => rfl
  | cons y ys ih => simp [cIN, ih]; omega
/-- A whole row more. -/
theorem appendPS (base : Nat) (v : Value) (l ys : List IN) (a : Option Addr) (c : Nat) (w : World) (h : w.ownsRow base 59 5 v l.length (l.flatMap cIN)) (hy : RowS w AnyZ 5 (.slice a ys.length c) ys.length (ys.flatMap cIN)) (hb : base ≤ w.heap.size) (hn : l.length + ys.length ≤ 4000000) :
    ∃ a' c' w', Hid ((Builtin.append_ #[25, 25] 25 #[v, .slice a ys.length c]).run Tryz.prog w = .ok (.slice a' (l.length + ys.length) c') w') ∧ Hid (w'.ownsRow base 59 5 (.slice a' (l.length + ys.length) c') (l ++ ys).length ((l ++ ys).flatMap cIN)) ∧ Hid (Grow w w' v (.slice a' (l.length + ys.length) c')) := by
  obtain ⟨i0, hi, hz0, hz1, hz2⟩ := info_parts Tryz.infoPI
  obtain ⟨a2, c2, e, hv⟩ := hy
  cases e
  have key : ∀ (ad : Addr), a = some ad → (∀ j u, (ys.flatMap cIN)[j]? = some u → w.cell? (ad.add j) = some u) → ∃ a' c' w', Hid ((Builtin.append_ #[25, 25] 25 #[v, .slice a ys.length c]).run Tryz.prog w = .ok (.slice a' (l.length + ys.length) c') w') ∧ Hid (w'.ownsRow base 59 5 (.slice a' (l.length + ys.length) c') (l ++ ys).length ((l ++ ys).flatMap cIN)) ∧ Hid (Grow w w' v (.slice a' (l.length + ys.length) c')) := by
    intro ad ea hc
    subst ea
    obtain ⟨v', w', r1, r2, r3⟩ := run_append_mine (P := Tryz.prog) w base 25 25 59 i0 _ 5 40 Tryz.underlying25 hi hz0 hz1 hz2 rfl (by decide) v l.length (l.flatMap cIN) h ad ys.length c (ys.flatMap cIN) (cIN_len ys) hc (cIN_one ys) (by unfold maxLen; omega) (Nat.le_trans (Nat.mul_le_mul hn (Nat.le_refl 40)) (by decide)) hb
    obtain ⟨a', c', rfl⟩ := own_shape r2
    exact ⟨a', c', w', hid r1, hid (by rw [List.length_append, List.flatMap_append]; exact r2), hid r3⟩
  rcases hv.cells with ⟨hl0, hn0⟩ | ⟨b', off, rfl, _, hc⟩
  · have hy0 : ys = [] := List.eq_nil_of_length_eq_zero hl0
    subst hy0
    cases a with
    | none =>
      have hc0 := hn0 rfl
      subst hc0
      obtain ⟨va, vc, rfl⟩ := own_shape h
      refine ⟨va, vc, w, hid ?_, hid ?_, hid (Grow.refl _ _)⟩
      · exact run_append_owned_none (P := Tryz.prog) (w := w) base 25 25 59 i0 5 Tryz.underlying25 hi _ l.length (l.flatMap cIN) h
      · rw [List.append_nil]
        exact h
    | some ad => exact key ad rfl (fun j u hu => by simp at hu)
  · refine key _ rfl (fun j u hu => ?_)
    have hadd : (⟨b', off, none⟩ : Addr).add j = ⟨b', off + j, none⟩ := by unfold Addr.add; split <;> simp_all
    rw [hadd]
    exact hc j u hu
/-- A few more, of a new block. -/
theorem appendPQ (base : Nat) (v : Value) (l ys : List IN) (cs : Array Value) (hcs : cs = (ys.flatMap cIN).toArray) (w : World) (h : w.ownsRow base 59 5 v l.length (l.flatMap cIN)) (hb : base ≤ w.heap.size) (hn : l.length + ys.length ≤ 4000000) :
    ∃ a' c' w', Hid ((Builtin.append_ #[25, 25] 25 #[v, .slice (some ⟨w.heap.size, 0, none⟩) ys.length ys.length]).run Tryz.prog (w.alloc (.cells cs 59)) = .ok (.slice a' (l.length + ys.length) c') w') ∧ Hid (w'.ownsRow base 59 5 (.slice a' (l.length + ys.length) c') (l ++ ys).length ((l ++ ys).flatMap cIN)) ∧ Hid (Grow w w' v (.slice a' (l.length + ys.length) c')) := by
  have hr : RowS (w.alloc (.cells cs 59)) AnyZ 5 (.slice (some ⟨w.heap.size, 0, none⟩) ys.length ys.length) ys.length (ys.flatMap cIN) := rowOf (Blk.new _ _ _) 5 ys.length _ hcs (cIN_len ys) (by omega)
  obtain ⟨a', c', w', h1, h2, h3⟩ := appendPS base v l ys _ _ (w.alloc (.cells cs 59)) (h.alloc _) hr (by simp; omega) hn
  exact ⟨a', c', w', h1, h2, hid (((Grow.refl w v).alloc _).trans h3.out)⟩
def wireD (f : FT) : Int := if f.lab = 5 then 2 else kwire f.kind
theorem wireDR (f : FT) (w : World) : Calls Tryz.prog 25 #[.agg #[.string (strOfNums f.name), .int .i64 f.num, .int .i64 f.kind, .int .i64 f.ref, .int .i64 f.lab, .int .i64 f.one, .int .i64 f.key]] w fun e w' => e = .returned (.int .i64 (wireD f)) ∧ Below w.heap.size w w' := by
  have HK := hid (wireKR f.kind)
  have HX : Hid (wireD f = if f.lab = 5 then 2 else kwire f.kind) := hid rfl
  generalize kwire f.kind = kw at *
  by_cases h : f.lab = 5
  · have k5 : (f.lab == 5) = true := by simpa using h
    rw [if_pos h] at HX
    replace h := hid h
    go_enter Tryz.func25, Tryz.ntmps25
    go_wp2
    go_ret
    exact ⟨ret_int HX.out.symm, by exact blBy⟩
  · have k5 : (f.lab == 5) = false := by simpa using h
    rw [if_neg h] at HX
    replace h := hid h
    go_enter Tryz.func25, Tryz.ntmps25
    go_wp2_with (first | (go_at_call 46; refine (HK.out _).mono ?_; rintro e w1 ⟨rfl, rfl⟩))
    go_ret
    exact ⟨ret_int HX.out.symm, by exact blBy⟩
theorem wireD_eq (f : FT) (h : FOk f) : wireD f = wireV f := by
  unfold wireD wireV
  split
  · rfl
  · have h0 : 0 ≤ kwire f.kind := by
      have := h.kind
      unfold kwire
      repeat' split
      all_goals omega
    omega
end Go.Proofs.YtbopddnekoocoaaGreatDoor
