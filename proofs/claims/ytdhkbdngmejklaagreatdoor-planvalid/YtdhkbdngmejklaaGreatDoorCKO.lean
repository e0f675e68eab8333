/-
  Blocks that are the same: the document's question.
  What a valid program's steps are asked: where all is well.
  What a program's numbers may be, and the document's small questions.
  The document's small questions: fields, tags, kinds, blocks, how many numbers an operation names.
  What a valid program's steps are asked: where all is well, operation by operation.
  What a valid program's steps are asked: where all is well, operation by operation.
  What a valid program's steps are asked: where all is well, operation by operation.
  A valid block's steps, where all is well.
  Rows of a valid block, where all is well.
  Valid, where all is well.
  The program's small questions about a program's numbers, both ways.
-/
import Derived.Test.YtdhkbdngmejklaaGreatDoorCTX
namespace Go.Proofs.YtdhkbdngmejklaaGreatDoor
open Go.RowKit
set_option maxRecDepth 1000000
set_option linter.unusedVariables false
set_option linter.unusedSimpArgs false
set_option maxHeartbeats 1000000
/-- A block, in memory. -/
structure BkR (w : World) (k : BK) (d e r : Value) : Prop where
  hd : RowS w AnyZ 5 d k.dec.length (k.dec.flatMap cIN)
  he : RowS w AnyZ 5 e k.enc.length (k.enc.flatMap cIN)
  hr : RowS w AnyZ 2 r k.rows.length (k.rows.flatMap cLN)
theorem BkR.kept {w w' : World} {k : BK} {d e r : Value} (h : BkR w k d e r) (g : Below w.heap.size w w') : BkR w' k d e r := ⟨h.hd.kept g, h.he.kept g, h.hr.kept g⟩
theorem BkO.row {w : World} {base : Nat} {k : BK} {d e r : Value} (h : BkO w base k d e r) : BkR w k d e r := ⟨own_row h.hd (fun _ _ => trivial), own_row h.he (fun _ _ => trivial), own_row h.hr (fun _ _ => trivial)⟩
/-- A bool that says P. -/
def EqA (w : World) (P : Prop) (e : Ending) (w' : World) : Prop := ∃ r : Bool, e = .returned (.bool r) ∧ (r = true ↔ P) ∧ Below w.heap.size w w'
theorem EqA.yes {w w' : World} {P : Prop} (h : P) (hb : Below w.heap.size w w') : EqA w P (.returned (.bool true)) w' := ⟨true, rfl, ⟨fun _ => h, fun _ => rfl⟩, hb⟩
theorem EqA.no {w w' : World} {P : Prop} (h : ¬ P) (hb : Below w.heap.size w w') : EqA w P (.returned (.bool false)) w' := ⟨false, rfl, ⟨fun q => (by cases q), fun q => absurd q h⟩, hb⟩
theorem bk_eq {A B : BK} (h1 : A.dec = B.dec) (h2 : A.enc = B.enc) (h3 : A.rows = B.rows) : A = B := by
  cases A
  cases B
  simp only [BK.mk.injEq]
  exact ⟨h1, h2, h3⟩
theorem sameBlockD (w : World) (A B : BK) (aa ba ca da ea fa : Option Addr) (ac bc cc dc ec fc : Nat) (hA : BkR w A (.slice aa A.dec.length ac) (.slice ba A.enc.length bc) (.slice ca A.rows.length cc)) (hB : BkR w B (.slice da B.dec.length dc) (.slice ea B.enc.length ec) (.slice fa B.rows.length fc)) : Calls Tryz.prog 11 #[.agg #[.slice aa A.dec.length ac, .slice ba A.enc.length bc, .slice ca A.rows.length cc], .agg #[.slice da B.dec.length dc, .slice ea B.enc.length ec, .slice fa B.rows.length fc]] w (EqA w (A = B)) := by
  have HA := hid hA
  have HB := hid hB
  obtain ⟨_, _, e, hn1⟩ := rowS_sl hA.hd
  clear e
  obtain ⟨_, _, e, hn2⟩ := rowS_sl hA.he
  clear e
  obtain ⟨_, _, e, hn3⟩ := rowS_sl hA.hr
  clear e
  obtain ⟨_, _, e, hm1⟩ := rowS_sl hB.hd
  clear e
  obtain ⟨_, _, e, hm2⟩ := rowS_sl hB.he
  clear e
  obtain ⟨_, _, e, hm3⟩ := rowS_sl hB.hr
  clear e
  clear hA hB
  by_cases h1 : A.dec.length = B.dec.length
  case neg =>
    have q1 : ((A.dec.length : Int) == (B.dec.length : Int)) = false := by rw [beq_eq_false_iff_ne]; omega
    go_enter Tryz.func11, Tryz.ntmps11
    go_wp2
    go_ret
    exact ⟨false, rfl, ⟨fun q => (by cases q), fun q => absurd (by rw [q]) h1⟩, by exact blBy⟩
  by_cases h2 : A.enc.length = B.enc.length
  case neg =>
    have q1 : ((A.dec.length : Int) == (B.dec.length : Int)) = true := by simp [h1]
    have q2 : ((A.enc.length : Int) == (B.enc.length : Int)) = false := by rw [beq_eq_false_iff_ne]; omega
    go_enter Tryz.func11, Tryz.ntmps11
    go_wp2
    go_ret
    exact ⟨false, rfl, ⟨fun q => (by cases q), fun q => absurd (by rw [q]) h2⟩, by exact blBy⟩
  by_cases h3 : A.rows.length = B.rows.length
  case neg =>
    have q1 : ((A.dec.length : Int) == (B.dec.length : Int)) = true := by simp [h1]
    have q2 : ((A.enc.length : Int) == (B.enc.length : Int)) = true := by simp [h2]
    have q3 : ((A.rows.length : Int) == (B.rows.length : Int)) = false := by rw [beq_eq_false_iff_ne]; omega
    go_enter Tryz.func11, Tryz.ntmps11
    go_wp2
    go_ret
    exact ⟨false, rfl, ⟨fun q => (by cases q), fun q => absurd (by rw [q]) h3⟩, by exact blBy⟩
  rw [← h1, ← h2, ← h3] at HB ⊢
  have z1 : (A.dec.length : Int) ≤ 9223372036854775807 := by omega
  have z2 : (A.enc.length : Int) ≤ 9223372036854775807 := by omega
  have z3 : (A.rows.length : Int) ≤ 9223372036854775807 := by omega
  clear hn1 hn2 hn3 hm1 hm2 hm3
  replace h1 := hid h1
  replace h2 := hid h2
  replace h3 := hid h3
  go_enter Tryz.func11, Tryz.ntmps11
  go_wp2
  go_loopw [5] (fun r wr => ∃ j : Nat, r = .int .i64 j ∧ j ≤ A.dec.length ∧ Hid (A.dec.take j = B.dec.take j) ∧ Hid (Blk wr w.heap.size 31 #[.slice aa A.dec.length ac, .slice ba A.enc.length bc, .slice ca A.rows.length cc]) ∧ Hid (Blk wr (w.heap.size + 1) 31 #[.slice da A.dec.length dc, .slice ea A.enc.length ec, .slice fa A.rows.length fc]) ∧ Hid (Below w.heap.size w wr)) (fun r wr => A.dec.length - numAt wr r)
  case atStart => exact ⟨0, rfl, by omega, hid (by simp), hid ((Blk.new _ _ _).kept (below_alloc _)), hid (Blk.newAt (by simp)), hid (by exact blBy)⟩
  case round =>
    obtain ⟨j, rfl, hj, HT, Ba, Bb, hb⟩ := hrel
    have xa := Ba.out.cellF
    have za := Ba.out.lt
    have xb := Bb.out.cellF
    have zb := Bb.out.lt
    by_cases hlt : j < A.dec.length
    · have k1 : (j : Int) < (A.dec.length : Int) := by omega
      have hlt2 : j < B.dec.length := by have := h1.out; omega
      have HTS : Hid (A.dec.take (j + 1) = A.dec.take j ++ [A.dec[j]] ∧ B.dec.take (j + 1) = B.dec.take j ++ [B.dec[j]]) := hid ⟨List.take_succ_eq_append_getElem hlt, List.take_succ_eq_append_getElem hlt2⟩
      have HNE : Hid (A.dec[j] ≠ B.dec[j] → A ≠ B) := hid (fun q e => q (by subst e; rfl))
      obtain ⟨pb, po, epb, hc⟩ := rowAt (g := cIN) (fun _ => rfl) (HA.out.hd.kept hb.out) (i := j) (x := A.dec[j]) (by simp [hlt])
      obtain ⟨qb, qo, eqb, hd⟩ := rowAt (g := cIN) (fun _ => rfl) (HB.out.hd.kept hb.out) (i := j) (x := B.dec[j]) (by simp [hlt2])
      subst epb eqb
      have c0 := hc 0 _ rfl
      have d0 := hd 0 _ rfl
      have c1 := hc 1 _ rfl
      have d1 := hd 1 _ rfl
      have c2 := hc 2 _ rfl
      have d2 := hd 2 _ rfl
      have c3 := hc 3 _ rfl
      have d3 := hd 3 _ rfl
      have c4 := hc 4 _ rfl
      have d4 := hd 4 _ rfl
      clear hc hd
      simp only [Nat.add_zero] at c0 d0
      have hpb : pb < wr.heap.size := World.block_lt_of_cell? _ _ c0
      have hqb : qb < wr.heap.size := World.block_lt_of_cell? _ _ d0
      generalize A.dec[j] = x at *
      generalize B.dec[j] = y at *
      have hgd := gdIN
      have heq := fun W => eqIN x y W
      cases hq : inB x y with
      | false =>
        rw [hq] at heq
        go_wp2
        go_quiet (fail)
        go_wp2
        go_ret
        exact EqA.no (HNE.out (fun e => by rw [(inB_iff x y).2 e] at hq; cases hq)) (by have := hb.out; first | exact this | exact bl_drewN this _ | exact blBy)
      | true =>
        rw [hq] at heq
        have exy := hid ((inB_iff x y).1 hq)
        go_wp2
        go_quiet (fail)
        go_wp2
        exact ⟨⟨j + 1, by simp, by omega, hid (by rw [HTS.out.1, HTS.out.2, HT.out, exy.out]), hid (Ba.out.kept (below_drewN _ _)), hid (Bb.out.kept (below_drewN _ _)), hid (bl_drewN hb.out _)⟩, by simp [numAt]; omega⟩
    · have k1 : ¬ (j : Int) < (A.dec.length : Int) := by omega
      have Edec : Hid (A.dec = B.dec) := hid (by have := HT.out; rwa [List.take_of_length_le (by omega), List.take_of_length_le (by have := h1.out; omega)] at this)
      go_wp2
      clear hj HT xa za xb zb k1
      go_loopw [6] (fun r wr => ∃ j : Nat, r = .int .i64 j ∧ j ≤ A.enc.length ∧ Hid (A.enc.take j = B.enc.take j) ∧ Hid (Blk wr w.heap.size 31 #[.slice aa A.dec.length ac, .slice ba A.enc.length bc, .slice ca A.rows.length cc]) ∧ Hid (Blk wr (w.heap.size + 1) 31 #[.slice da A.dec.length dc, .slice ea A.enc.length ec, .slice fa A.rows.length fc]) ∧ Hid (Below w.heap.size w wr)) (fun r wr => A.enc.length - numAt wr r)
      case atStart => exact ⟨0, rfl, by omega, hid (by simp), Ba, Bb, hb⟩
      case round =>
        obtain ⟨j, rfl, hj, HT, Ba, Bb, hb⟩ := hrel
        have xa := Ba.out.cellF
        have za := Ba.out.lt
        have xb := Bb.out.cellF
        have zb := Bb.out.lt
        by_cases hlt : j < A.enc.length
        · have k1 : (j : Int) < (A.enc.length : Int) := by omega
          have hlt2 : j < B.enc.length := by have := h2.out; omega
          have HTS : Hid (A.enc.take (j + 1) = A.enc.take j ++ [A.enc[j]] ∧ B.enc.take (j + 1) = B.enc.take j ++ [B.enc[j]]) := hid ⟨List.take_succ_eq_append_getElem hlt, List.take_succ_eq_append_getElem hlt2⟩
          have HNE : Hid (A.enc[j] ≠ B.enc[j] → A ≠ B) := hid (fun q e => q (by subst e; rfl))
          obtain ⟨pb, po, epb, hc⟩ := rowAt (g := cIN) (fun _ => rfl) (HA.out.he.kept hb.out) (i := j) (x := A.enc[j]) (by simp [hlt])
          obtain ⟨qb, qo, eqb, hd⟩ := rowAt (g := cIN) (fun _ => rfl) (HB.out.he.kept hb.out) (i := j) (x := B.enc[j]) (by simp [hlt2])
          subst epb eqb
          have c0 := hc 0 _ rfl
          have d0 := hd 0 _ rfl
          have c1 := hc 1 _ rfl
          have d1 := hd 1 _ rfl
          have c2 := hc 2 _ rfl
          have d2 := hd 2 _ rfl
          have c3 := hc 3 _ rfl
          have d3 := hd 3 _ rfl
          have c4 := hc 4 _ rfl
          have d4 := hd 4 _ rfl
          clear hc hd
          simp only [Nat.add_zero] at c0 d0
          have hpb : pb < wr.heap.size := World.block_lt_of_cell? _ _ c0
          have hqb : qb < wr.heap.size := World.block_lt_of_cell? _ _ d0
          generalize A.enc[j] = x at *
          generalize B.enc[j] = y at *
          have hgd := gdIN
          have heq := fun W => eqIN x y W
          cases hq : inB x y with
          | false =>
            rw [hq] at heq
            go_wp2
            go_quiet (fail)
            go_wp2
            go_ret
            exact EqA.no (HNE.out (fun e => by rw [(inB_iff x y).2 e] at hq; cases hq)) (by have := hb.out; first | exact this | exact bl_drewN this _ | exact blBy)
          | true =>
            rw [hq] at heq
            have exy := hid ((inB_iff x y).1 hq)
            go_wp2
            go_quiet (fail)
            go_wp2
            exact ⟨⟨j + 1, by simp, by omega, hid (by rw [HTS.out.1, HTS.out.2, HT.out, exy.out]), hid (Ba.out.kept (below_drewN _ _)), hid (Bb.out.kept (below_drewN _ _)), hid (bl_drewN hb.out _)⟩, by simp [numAt]; omega⟩
        · have k1 : ¬ (j : Int) < (A.enc.length : Int) := by omega
          have Eenc : Hid (A.enc = B.enc) := hid (by have := HT.out; rwa [List.take_of_length_le (by omega), List.take_of_length_le (by have := h2.out; omega)] at this)
          go_wp2
          clear hj HT xa za xb zb k1
          go_loopw [7] (fun r wr => ∃ j : Nat, r = .int .i64 j ∧ j ≤ A.rows.length ∧ Hid (A.rows.take j = B.rows.take j) ∧ Hid (Blk wr w.heap.size 31 #[.slice aa A.dec.length ac, .slice ba A.enc.length bc, .slice ca A.rows.length cc]) ∧ Hid (Blk wr (w.heap.size + 1) 31 #[.slice da A.dec.length dc, .slice ea A.enc.length ec, .slice fa A.rows.length fc]) ∧ Hid (Below w.heap.size w wr)) (fun r wr => A.rows.length - numAt wr r)
          case atStart => exact ⟨0, rfl, by omega, hid (by simp), Ba, Bb, hb⟩
          case round =>
            obtain ⟨j, rfl, hj, HT, Ba, Bb, hb⟩ := hrel
            have xa := Ba.out.cellF
            have za := Ba.out.lt
            have xb := Bb.out.cellF
            have zb := Bb.out.lt
            by_cases hlt : j < A.rows.length
            · have k1 : (j : Int) < (A.rows.length : Int) := by omega
              have hlt2 : j < B.rows.length := by have := h3.out; omega
              have HTS : Hid (A.rows.take (j + 1) = A.rows.take j ++ [A.rows[j]] ∧ B.rows.take (j + 1) = B.rows.take j ++ [B.rows[j]]) := hid ⟨List.take_succ_eq_append_getElem hlt, List.take_succ_eq_append_getElem hlt2⟩
              have HNE : Hid (A.rows[j] ≠ B.rows[j] → A ≠ B) := hid (fun q e => q (by subst e; rfl))
              obtain ⟨pb, po, epb, hc⟩ := rowAt (g := cLN) (fun _ => rfl) (HA.out.hr.kept hb.out) (i := j) (x := A.rows[j]) (by simp [hlt])
              obtain ⟨qb, qo, eqb, hd⟩ := rowAt (g := cLN) (fun _ => rfl) (HB.out.hr.kept hb.out) (i := j) (x := B.rows[j]) (by simp [hlt2])
              subst epb eqb
              have c0 := hc 0 _ rfl
              have d0 := hd 0 _ rfl
              have c1 := hc 1 _ rfl
              have d1 := hd 1 _ rfl
              clear hc hd
              simp only [Nat.add_zero] at c0 d0
              have hpb : pb < wr.heap.size := World.block_lt_of_cell? _ _ c0
              have hqb : qb < wr.heap.size := World.block_lt_of_cell? _ _ d0
              generalize A.rows[j] = x at *
              generalize B.rows[j] = y at *
              have hgd := gdLN
              have heq := fun W => eqLN x y W
              cases hq : lnB x y with
              | false =>
                rw [hq] at heq
                go_wp2
                go_quiet (fail)
                go_wp2
                go_ret
                exact EqA.no (HNE.out (fun e => by rw [(lnB_iff x y).2 e] at hq; cases hq)) (by have := hb.out; first | exact this | exact bl_drewN this _ | exact blBy)
              | true =>
                rw [hq] at heq
                have exy := hid ((lnB_iff x y).1 hq)
                go_wp2
                go_quiet (fail)
                go_wp2
                exact ⟨⟨j + 1, by simp, by omega, hid (by rw [HTS.out.1, HTS.out.2, HT.out, exy.out]), hid (Ba.out.kept (below_drewN _ _)), hid (Bb.out.kept (below_drewN _ _)), hid (bl_drewN hb.out _)⟩, by simp [numAt]; omega⟩
            · have k1 : ¬ (j : Int) < (A.rows.length : Int) := by omega
              have Erows : Hid (A.rows = B.rows) := hid (by have := HT.out; rwa [List.take_of_length_le (by omega), List.take_of_length_le (by have := h3.out; omega)] at this)
              go_wp2
              go_ret
              exact EqA.yes (bk_eq Edec.out Eenc.out Erows.out) hb.out
/-- A program, in memory. -/
structure PgR (w : World) (v : Value) (bs : List BV) : Prop where
  row : RowS w AnyZ 3 v bs.length (bs.flatMap cBV)
  el : ∀ x ∈ bs, BkR w x.k x.d x.e x.r
theorem PgR.kept {w w' : World} {v : Value} {bs : List BV} (h : PgR w v bs) (g : Below w.heap.size w w') : PgR w' v bs := ⟨h.row.kept g, fun x hx => (h.el x hx).kept g⟩
theorem LwO.prog {w : World} {base : Nat} {v : Value} {xs : List BV} (h : LwO w base v xs) : PgR w v xs := ⟨own_row h.row (fun _ _ => trivial), fun x hx => (h.el x hx).row⟩
theorem i64_and7 (n : Int) : bits .and .i64 n 7 = n % 8 := by
  have h7 : (BitVec.ofInt 64 7).toNat = 2 ^ 3 - 1 := by decide
  have key : (BitVec.ofInt 64 n &&& BitVec.ofInt 64 7).toNat = (n % ((2 ^ 64 : Nat) : Int)).toNat % 2 ^ 3 := by
    rw [BitVec.toNat_and, BitVec.toNat_ofInt, h7, Nat.and_two_pow_sub_one_eq_mod]
  show IntKind.i64.wrap ((BitVec.ofInt 64 n &&& BitVec.ofInt 64 7).toNat : Nat) = n % 8
  rw [key, IntKind.wrap_i64]
  omega
theorem stepL (w : World) (op : Int) (ns : List Int) (hl : ns.length ≤ 4) (b : Nat) (hB : Blk w b 3 (ints ns)) : Calls Tryz.prog 77 #[.int .i64 op, .slice (some ⟨b, 0, none⟩) ns.length ns.length] w fun e w' => e = .returned (vIN (insV op ns)) ∧ Below w.heap.size w w' := stepT w op ns hl _ _ (ints_row ns hl hB)
theorem pg_at {w : World} {ba : Option Addr} {n bc : Nat} {bs : List BV} (h : PgR w (.slice ba n bc) bs) {k : Nat} (hk : k < bs.length) : ∃ b o da dc ea ec ra rc, ba = some ⟨b, o, none⟩ ∧ b < w.heap.size ∧ w.cell? ⟨b, o + k * 3, none⟩ = some (.slice da bs[k].k.dec.length dc) ∧ w.cell? ⟨b, o + k * 3 + 1, none⟩ = some (.slice ea bs[k].k.enc.length ec) ∧ w.cell? ⟨b, o + k * 3 + 2, none⟩ = some (.slice ra bs[k].k.rows.length rc) ∧ BkR w bs[k].k (.slice da bs[k].k.dec.length dc) (.slice ea bs[k].k.enc.length ec) (.slice ra bs[k].k.rows.length rc) := by
  obtain ⟨b, o, e, hc⟩ := rowAt (g := cBV) (fun _ => rfl) h.row (i := k) (x := bs[k]) (by simp [hk])
  have hb := h.el _ (List.getElem_mem hk)
  obtain ⟨da, dc, e1, -⟩ := rowS_sl hb.hd
  obtain ⟨ea, ec, e2, -⟩ := rowS_sl hb.he
  obtain ⟨ra, rc, e3, -⟩ := rowS_sl hb.hr
  have c0 := hc 0 _ rfl
  have c1 := hc 1 _ rfl
  have c2 := hc 2 _ rfl
  rw [e1] at c0
  rw [e2] at c1
  rw [e3] at c2
  rw [e1, e2, e3] at hb
  exact ⟨b, o, da, dc, ea, ec, ra, rc, e, World.block_lt_of_cell? _ _ c0, c0, c1, c2, hb⟩
def noS (x : BV) : Bool := decide (x.k.dec.length = 0) && decide (x.k.enc.length = 0)
def enI (bs : List BV) (k : Int) : Bool := decide (0 ≤ k) && (bs[k.toNat]?.map noS == some true)
def msI (bs : List BV) (k : Int) : Bool := decide (0 ≤ k) && (bs[k.toNat]?.map noS == some false)
def fdI (a : Int) : Bool := decide (1 ≤ a ∧ a ≤ 536870911)
def tgI (t : Int) : Bool := decide (8 ≤ t ∧ t / 8 ≤ 536870911 ∧ (t % 8 = 0 ∨ t % 8 = 1 ∨ t % 8 = 2 ∨ t % 8 = 5))
def sgI (k : Int) : Bool := decide (1 ≤ k ∧ k ≤ 16)
def kdI (k : Int) : Bool := decide (1 ≤ k ∧ k ≤ 17)
def bkI (bs : List BV) (kind k : Int) : Bool := if kind = 16 then enI bs k else if kind = 17 then msI bs k else decide (k = 0)
theorem enI_lo {bs : List BV} {k : Int} (h : k < 0) : enI bs k = false := by unfold enI; rw [decide_eq_false (by omega)]; rfl
theorem msI_lo {bs : List BV} {k : Int} (h : k < 0) : msI bs k = false := by unfold msI; rw [decide_eq_false (by omega)]; rfl
theorem enI_hi {bs : List BV} {k : Int} (h : (bs.length : Int) ≤ k) : enI bs k = false := by unfold enI; rw [List.getElem?_eq_none (by omega)]; simp
theorem msI_hi {bs : List BV} {k : Int} (h : (bs.length : Int) ≤ k) : msI bs k = false := by unfold msI; rw [List.getElem?_eq_none (by omega)]; simp
theorem enI_at {bs : List BV} {k : Nat} (h : k < bs.length) : enI bs (k : Int) = noS bs[k] := by
  unfold enI
  rw [decide_eq_true (by omega), Int.toNat_natCast, List.getElem?_eq_getElem h]
  cases e : noS bs[k] <;> simp [e]
theorem msI_at {bs : List BV} {k : Nat} (h : k < bs.length) : msI bs (k : Int) = !noS bs[k] := by
  unfold msI
  rw [decide_eq_true (by omega), Int.toNat_natCast, List.getElem?_eq_getElem h]
  cases e : noS bs[k] <;> simp [e]
def BoA (w : World) (r : Bool) (e : Ending) (w' : World) : Prop := e = .returned (.bool r) ∧ Below w.heap.size w w'
theorem isEnumR (w : World) (bs : List BV) (ba : Option Addr) (bc : Nat) (h : PgR w (.slice ba bs.length bc) bs) (k : Int) : Calls Tryz.prog 51 #[.agg #[.slice ba bs.length bc], .int .i64 k] w (BoA w (enI bs k)) := by
  obtain ⟨_, _, e, hn⟩ := rowS_sl h.row
  clear e
  have h63 : (bs.length : Int) ≤ 9223372036854775807 := by omega
  by_cases h0 : k < 0
  · rw [enI_lo h0]
    have r1 : (0 ≤ k) = False := eq_false (by omega)
    clear h h0
    go_enter Tryz.func51, Tryz.ntmps51
    go_wp2
    first
      | (go_ret; exact ⟨rfl, by exact blBy⟩)
      | (go_quiet (fail); go_wp2; go_ret; exact ⟨rfl, by first | exact below_drewN _ _ | exact blBy⟩)
  by_cases h1 : (bs.length : Int) ≤ k
  · rw [enI_hi h1]
    have r1 : (0 ≤ k) = True := eq_true (by omega)
    have r2 : ¬ k < (bs.length : Int) := by omega
    clear h h0 h1
    go_enter Tryz.func51, Tryz.ntmps51
    go_wp2
    first
      | (go_ret; exact ⟨rfl, by exact blBy⟩)
      | (go_quiet (fail); go_wp2; go_ret; exact ⟨rfl, by first | exact below_drewN _ _ | exact blBy⟩)
  obtain ⟨j, rfl⟩ : ∃ j : Nat, k = (j : Int) := ⟨k.toNat, by omega⟩
  have hj : j < bs.length := by omega
  rw [enI_at hj]
  obtain ⟨b, o, da, dc, ea, ec, ra, rc, rfl, hb, c0, c1, c2, -⟩ := pg_at h hj
  have r1 : (0 : Int) ≤ (j : Int) := by omega
  have r2 : (j : Int) < (bs.length : Int) := by omega
  have HN : Hid (noS bs[j] = (decide (bs[j].k.dec.length = 0) && decide (bs[j].k.enc.length = 0))) := hid rfl
  generalize noS bs[j] = ns at *
  generalize bs[j].k.dec.length = n1 at *
  generalize bs[j].k.enc.length = n2 at *
  generalize bs[j].k.rows.length = n3 at *
  clear h h0 h1
  have hb2 : b < w.heap.size := hb
  rcases Nat.eq_zero_or_pos n1 with z1 | z1
  · subst z1
    rcases Nat.eq_zero_or_pos n2 with z2 | z2
    · subst z2
      obtain rfl : ns = true := HN.out
      clear HN
      go_enter Tryz.func51, Tryz.ntmps51
      go_wp2
      first
        | (go_ret; exact ⟨rfl, by exact blBy⟩)
        | (go_quiet (fail); go_wp2; go_ret; exact ⟨rfl, by first | exact bl_drewN (by exact blBy) _ | exact blBy⟩)
    · obtain rfl : ns = false := by rw [HN.out]; simp; omega
      have q2 : ((n2 : Int) == 0) = false := by rw [beq_eq_false_iff_ne]; omega
      have q3 : ((0 : Int) < (n2 : Int)) = True := eq_true (by omega)
      have q4 : (0 < n2) = True := eq_true z2
      clear HN z2
      go_enter Tryz.func51, Tryz.ntmps51
      go_wp2
      first
        | (go_ret; exact ⟨rfl, by exact blBy⟩)
        | (go_quiet (fail); go_wp2; go_ret; exact ⟨rfl, by first | exact bl_drewN (by exact blBy) _ | exact blBy⟩)
  · obtain rfl : ns = false := by rw [HN.out]; simp; omega
    have q2 : ((n1 : Int) == 0) = false := by rw [beq_eq_false_iff_ne]; omega
    have q3 : ((0 : Int) < (n1 : Int)) = True := eq_true (by omega)
    have q4 : (0 < n1) = True := eq_true z1
    clear HN z1
    go_enter Tryz.func51, Tryz.ntmps51
    go_wp2
    first
      | (go_ret; exact ⟨rfl, by exact blBy⟩)
      | (go_quiet (fail); go_wp2; go_ret; exact ⟨rfl, by first | exact bl_drewN (by exact blBy) _ | exact blBy⟩)
theorem isMessageR (w : World) (bs : List BV) (ba : Option Addr) (bc : Nat) (h : PgR w (.slice ba bs.length bc) bs) (k : Int) : Calls Tryz.prog 17 #[.agg #[.slice ba bs.length bc], .int .i64 k] w (BoA w (msI bs k)) := by
  obtain ⟨_, _, e, hn⟩ := rowS_sl h.row
  clear e
  have h63 : (bs.length : Int) ≤ 9223372036854775807 := by omega
  by_cases h0 : k < 0
  · rw [msI_lo h0]
    have r1 : (0 ≤ k) = False := eq_false (by omega)
    clear h h0
    go_enter Tryz.func17, Tryz.ntmps17
    go_wp2
    first
      | (go_ret; exact ⟨rfl, by exact blBy⟩)
      | (go_quiet (fail); go_wp2; go_ret; exact ⟨rfl, by first | exact below_drewN _ _ | exact blBy⟩)
  by_cases h1 : (bs.length : Int) ≤ k
  · rw [msI_hi h1]
    have r1 : (0 ≤ k) = True := eq_true (by omega)
    have r2 : ¬ k < (bs.length : Int) := by omega
    clear h h0 h1
    go_enter Tryz.func17, Tryz.ntmps17
    go_wp2
    first
      | (go_ret; exact ⟨rfl, by exact blBy⟩)
      | (go_quiet (fail); go_wp2; go_ret; exact ⟨rfl, by first | exact below_drewN _ _ | exact blBy⟩)
  obtain ⟨j, rfl⟩ : ∃ j : Nat, k = (j : Int) := ⟨k.toNat, by omega⟩
  have hj : j < bs.length := by omega
  rw [msI_at hj]
  obtain ⟨b, o, da, dc, ea, ec, ra, rc, rfl, hb, c0, c1, c2, -⟩ := pg_at h hj
  have r1 : (0 : Int) ≤ (j : Int) := by omega
  have r2 : (j : Int) < (bs.length : Int) := by omega
  have HN : Hid (noS bs[j] = (decide (bs[j].k.dec.length = 0) && decide (bs[j].k.enc.length = 0))) := hid rfl
  generalize noS bs[j] = ns at *
  generalize bs[j].k.dec.length = n1 at *
  generalize bs[j].k.enc.length = n2 at *
  generalize bs[j].k.rows.length = n3 at *
  clear h h0 h1
  have hb2 : b < w.heap.size := hb
  rcases Nat.eq_zero_or_pos n1 with z1 | z1
  · subst z1
    rcases Nat.eq_zero_or_pos n2 with z2 | z2
    · subst z2
      obtain rfl : ns = true := HN.out
      clear HN
      go_enter Tryz.func17, Tryz.ntmps17
      go_wp2
      first
        | (go_ret; exact ⟨rfl, by exact blBy⟩)
        | (go_quiet (fail); go_wp2; go_ret; exact ⟨rfl, by first | exact bl_drewN (by exact blBy) _ | exact blBy⟩)
    · obtain rfl : ns = false := by rw [HN.out]; simp; omega
      have q2 : ((n2 : Int) == 0) = false := by rw [beq_eq_false_iff_ne]; omega
      have q3 : ((0 : Int) < (n2 : Int)) = True := eq_true (by omega)
      have q4 : (0 < n2) = True := eq_true z2
      clear HN z2
      go_enter Tryz.func17, Tryz.ntmps17
      go_wp2
      first
        | (go_ret; exact ⟨rfl, by exact blBy⟩)
        | (go_quiet (fail); go_wp2; go_ret; exact ⟨rfl, by first | exact bl_drewN (by exact blBy) _ | exact blBy⟩)
  · obtain rfl : ns = false := by rw [HN.out]; simp; omega
    have q2 : ((n1 : Int) == 0) = false := by rw [beq_eq_false_iff_ne]; omega
    have q3 : ((0 : Int) < (n1 : Int)) = True := eq_true (by omega)
    have q4 : (0 < n1) = True := eq_true z1
    clear HN z1
    go_enter Tryz.func17, Tryz.ntmps17
    go_wp2
    first
      | (go_ret; exact ⟨rfl, by exact blBy⟩)
      | (go_quiet (fail); go_wp2; go_ret; exact ⟨rfl, by first | exact bl_drewN (by exact blBy) _ | exact blBy⟩)
theorem isFieldR (w : World) (k : Int) : Calls Tryz.prog 52 #[.int .i64 k] w fun e w' => e = .returned (.bool (fdI k)) ∧ w' = w := by
  by_cases h1 : 1 ≤ k
  · have r1 : (1 ≤ k) = True := eq_true h1
    by_cases h2 : k ≤ 536870911
    · have r2 : (k ≤ 536870911) = True := eq_true h2
      have e : fdI k = true := decide_eq_true ⟨h1, h2⟩
      rw [e]
      clear h1 h2 e
      go_enter Tryz.func52, Tryz.ntmps52
      go_wp2
      go_ret
      exact ⟨rfl, rfl⟩
    · have r2 : (k ≤ 536870911) = False := eq_false h2
      have e : fdI k = false := decide_eq_false (fun h => h2 h.2)
      rw [e]
      clear h1 h2 e
      go_enter Tryz.func52, Tryz.ntmps52
      go_wp2
      go_ret
      exact ⟨rfl, rfl⟩
  · have r1 : (1 ≤ k) = False := eq_false h1
    have e : fdI k = false := decide_eq_false (fun h => h1 h.1)
    rw [e]
    clear h1 e
    go_enter Tryz.func52, Tryz.ntmps52
    go_wp2
    go_ret
    exact ⟨rfl, rfl⟩
theorem isScalarR (w : World) (k : Int) : Calls Tryz.prog 50 #[.int .i64 k] w fun e w' => e = .returned (.bool (sgI k)) ∧ w' = w := by
  by_cases h1 : 1 ≤ k
  · have r1 : (1 ≤ k) = True := eq_true h1
    by_cases h2 : k ≤ 16
    · have r2 : (k ≤ 16) = True := eq_true h2
      have e : sgI k = true := decide_eq_true ⟨h1, h2⟩
      rw [e]
      clear h1 h2 e
      go_enter Tryz.func50, Tryz.ntmps50
      go_wp2
      go_ret
      exact ⟨rfl, rfl⟩
    · have r2 : (k ≤ 16) = False := eq_false h2
      have e : sgI k = false := decide_eq_false (fun h => h2 h.2)
      rw [e]
      clear h1 h2 e
      go_enter Tryz.func50, Tryz.ntmps50
      go_wp2
      go_ret
      exact ⟨rfl, rfl⟩
  · have r1 : (1 ≤ k) = False := eq_false h1
    have e : sgI k = false := decide_eq_false (fun h => h1 h.1)
    rw [e]
    clear h1 e
    go_enter Tryz.func50, Tryz.ntmps50
    go_wp2
    go_ret
    exact ⟨rfl, rfl⟩
theorem isKindR (w : World) (k : Int) : Calls Tryz.prog 55 #[.int .i64 k] w fun e w' => e = .returned (.bool (kdI k)) ∧ w' = w := by
  by_cases h1 : 1 ≤ k
  · have r1 : (1 ≤ k) = True := eq_true h1
    by_cases h2 : k ≤ 17
    · have r2 : (k ≤ 17) = True := eq_true h2
      have e : kdI k = true := decide_eq_true ⟨h1, h2⟩
      rw [e]
      clear h1 h2 e
      go_enter Tryz.func55, Tryz.ntmps55
      go_wp2
      go_ret
      exact ⟨rfl, rfl⟩
    · have r2 : (k ≤ 17) = False := eq_false h2
      have e : kdI k = false := decide_eq_false (fun h => h2 h.2)
      rw [e]
      clear h1 h2 e
      go_enter Tryz.func55, Tryz.ntmps55
      go_wp2
      go_ret
      exact ⟨rfl, rfl⟩
  · have r1 : (1 ≤ k) = False := eq_false h1
    have e : kdI k = false := decide_eq_false (fun h => h1 h.1)
    rw [e]
    clear h1 e
    go_enter Tryz.func55, Tryz.ntmps55
    go_wp2
    go_ret
    exact ⟨rfl, rfl⟩
theorem isTagR (w : World) (t : Int) (ht : t ≤ 9223372036854775807) : Calls Tryz.prog 32 #[.int .i64 t] w fun e w' => e = .returned (.bool (tgI t)) ∧ Below w.heap.size w w' := by
  have HF := hid (fun W => isFieldR W (t / 8))
  have d3 : 8 ≤ t → wrap64 (t / 8) = t / 8 := fun h => by unfold wrap64; omega
  by_cases h8 : 8 ≤ t
  case neg =>
    have r1 : (8 ≤ t) = False := eq_false h8
    have e : tgI t = false := decide_eq_false (fun h => h8 h.1)
    rw [e]
    clear h8 e HF d3
    go_enter Tryz.func32, Tryz.ntmps32
    go_wp2
    go_ret
    exact ⟨rfl, by first | exact Below.refl _ _ | exact blBy⟩
  have r1 : (8 ≤ t) = True := eq_true h8
  replace d3 := d3 h8
  have d1 : t.tdiv 8 = t / 8 := Int.tdiv_eq_ediv_of_nonneg (by omega)
  have d2 : t.tmod 8 = t % 8 := Int.tmod_eq_emod_of_nonneg (by omega)
  have d4 : wrap64 (t.tdiv 8) = t / 8 := by rw [d1, d3]
  clear ht
  by_cases hf : t / 8 ≤ 536870911
  case neg =>
    have ef : fdI (t / 8) = false := decide_eq_false (fun h => hf h.2)
    rw [ef] at HF
    have e : tgI t = false := decide_eq_false (fun h => hf h.2.1)
    rw [e]
    clear h8 hf e ef
    go_enter Tryz.func32, Tryz.ntmps32
    go_wp2_with (first | (go_at_call 52; refine (HF.out _).mono ?_; rintro e w1 ⟨rfl, rfl⟩))
    go_ret
    exact ⟨rfl, by first | exact Below.refl _ _ | exact blBy⟩
  have ef : fdI (t / 8) = true := decide_eq_true ⟨by omega, hf⟩
  rw [ef] at HF
  have HE : Hid (tgI t = decide (t % 8 = 0 ∨ t % 8 = 1 ∨ t % 8 = 2 ∨ t % 8 = 5)) := hid (by unfold tgI; exact decide_eq_decide.2 ⟨fun h => h.2.2, fun h => ⟨h8, hf, h⟩⟩)
  generalize tgI t = tv at *
  clear h8 hf ef
  generalize hkk : t % 8 = k at *
  clear hkk
  by_cases k0 : k = 0
  · have q0 : (k == 0) = true := by simp [k0]
    obtain rfl : tv = true := by rw [HE.out]; simp [k0]
    clear k0 HE
    go_enter Tryz.func32, Tryz.ntmps32
    go_wp2_with (first | (go_at_call 52; refine (HF.out _).mono ?_; rintro e w1 ⟨rfl, rfl⟩))
    go_ret
    exact ⟨rfl, by first | exact Below.refl _ _ | exact blBy⟩
  have q0 : (k == 0) = false := by simpa using k0
  by_cases k1 : k = 1
  · have q1 : (k == 1) = true := by simp [k1]
    obtain rfl : tv = true := by rw [HE.out]; simp [k1]
    clear k0 k1 HE
    go_enter Tryz.func32, Tryz.ntmps32
    go_wp2_with (first | (go_at_call 52; refine (HF.out _).mono ?_; rintro e w1 ⟨rfl, rfl⟩))
    go_ret
    exact ⟨rfl, by first | exact Below.refl _ _ | exact blBy⟩
  have q1 : (k == 1) = false := by simpa using k1
  by_cases k2 : k = 2
  · have q2 : (k == 2) = true := by simp [k2]
    obtain rfl : tv = true := by rw [HE.out]; simp [k2]
    clear k0 k1 k2 HE
    go_enter Tryz.func32, Tryz.ntmps32
    go_wp2_with (first | (go_at_call 52; refine (HF.out _).mono ?_; rintro e w1 ⟨rfl, rfl⟩))
    go_ret
    exact ⟨rfl, by first | exact Below.refl _ _ | exact blBy⟩
  have q2 : (k == 2) = false := by simpa using k2
  by_cases k5 : k = 5
  · have q5 : (k == 5) = true := by simp [k5]
    obtain rfl : tv = true := by rw [HE.out]; simp [k5]
    clear k0 k1 k2 k5 HE
    go_enter Tryz.func32, Tryz.ntmps32
    go_wp2_with (first | (go_at_call 52; refine (HF.out _).mono ?_; rintro e w1 ⟨rfl, rfl⟩))
    go_ret
    exact ⟨rfl, by first | exact Below.refl _ _ | exact blBy⟩
  · have q5 : (k == 5) = false := by simpa using k5
    obtain rfl : tv = false := by rw [HE.out]; simp [k0, k1, k2, k5]
    clear k0 k1 k2 k5 HE
    go_enter Tryz.func32, Tryz.ntmps32
    go_wp2_with (first | (go_at_call 52; refine (HF.out _).mono ?_; rintro e w1 ⟨rfl, rfl⟩))
    go_ret
    exact ⟨rfl, by first | exact Below.refl _ _ | exact blBy⟩
theorem blockR (w : World) (bs : List BV) (ba : Option Addr) (bc : Nat) (h : PgR w (.slice ba bs.length bc) bs) (kind k : Int) : Calls Tryz.prog 56 #[.agg #[.slice ba bs.length bc], .int .i64 kind, .int .i64 k] w (BoA w (bkI bs kind k)) := by
  have HE := hid (fun W hW => isEnumR W bs ba bc (h.kept (w' := W) hW) k)
  have HM := hid (fun W hW => isMessageR W bs ba bc (h.kept (w' := W) hW) k)
  clear h
  by_cases k16 : kind = 16
  · have e : bkI bs kind k = enI bs k := by unfold bkI; rw [if_pos k16]
    rw [e]
    have q16 : (kind == 16) = true := by simp [k16]
    generalize enI bs k = v at *
    clear e k16 HM
    go_enter Tryz.func56, Tryz.ntmps56
    go_wp2_with (first | (go_at_call 51; refine (HE.out _ (by exact blBy)).mono ?_; rintro e w1 ⟨rfl, hb⟩))
    go_ret
    exact ⟨rfl, bl_then (by exact blBy) hb⟩
  have q16 : (kind == 16) = false := by simpa using k16
  by_cases k17 : kind = 17
  · have e : bkI bs kind k = msI bs k := by unfold bkI; rw [if_neg k16, if_pos k17]
    rw [e]
    have q17 : (kind == 17) = true := by simp [k17]
    generalize msI bs k = v at *
    clear e k16 k17 HE
    go_enter Tryz.func56, Tryz.ntmps56
    go_wp2_with (first | (go_at_call 17; refine (HM.out _ (by exact blBy)).mono ?_; rintro e w1 ⟨rfl, hb⟩))
    go_ret
    exact ⟨rfl, bl_then (by exact blBy) hb⟩
  · have q17 : (kind == 17) = false := by simpa using k17
    have e : bkI bs kind k = (k == 0) := by unfold bkI; rw [if_neg k16, if_neg k17]; by_cases h : k = 0 <;> simp [h]
    rw [e]
    clear e k16 k17 HE HM
    go_enter Tryz.func56, Tryz.ntmps56
    go_wp2
    go_ret
    exact ⟨rfl, by first | exact Below.refl _ _ | exact blBy⟩
def arI (o : Int) : Int := if o = 2 then 2 else if o = 14 then 2 else if o = 15 then 2 else if o = 21 then 2 else if o = 25 then 2 else if o = 3 then 1 else if o = 4 then 1 else if o = 5 then 1 else if o = 6 then 1 else if o = 7 then 1 else if o = 8 then 1 else if o = 9 then 1 else if o = 17 then 1 else if o = 18 then 1 else if o = 19 then 1 else if o = 10 then 3 else if o = 11 then 3 else if o = 16 then 3 else if o = 20 then 3 else if o = 12 then 4 else if o = 22 then 4 else 0
theorem arI_2 : arI 2 = 2 := by decide
theorem arI_3 : arI 3 = 1 := by decide
theorem arI_4 : arI 4 = 1 := by decide
theorem arI_5 : arI 5 = 1 := by decide
theorem arI_6 : arI 6 = 1 := by decide
theorem arI_7 : arI 7 = 1 := by decide
theorem arI_8 : arI 8 = 1 := by decide
theorem arI_9 : arI 9 = 1 := by decide
theorem arI_10 : arI 10 = 3 := by decide
theorem arI_11 : arI 11 = 3 := by decide
theorem arI_12 : arI 12 = 4 := by decide
theorem arI_14 : arI 14 = 2 := by decide
theorem arI_15 : arI 15 = 2 := by decide
theorem arI_16 : arI 16 = 3 := by decide
theorem arI_17 : arI 17 = 1 := by decide
theorem arI_18 : arI 18 = 1 := by decide
theorem arI_19 : arI 19 = 1 := by decide
theorem arI_20 : arI 20 = 3 := by decide
theorem arI_21 : arI 21 = 2 := by decide
theorem arI_22 : arI 22 = 4 := by decide
theorem arI_25 : arI 25 = 2 := by decide
theorem arityR (o : Int) (w : World) : Calls Tryz.prog 49 #[.int .i64 o] w fun e w' => e = .returned (.int .i64 (arI o)) ∧ w' = w := by
  by_cases h2 : o = 2
  · subst h2
    rw [arI_2]
    go_enter Tryz.func49, Tryz.ntmps49
    go_wp2
    go_ret
    exact ⟨rfl, rfl⟩
  have q2 : (o == 2) = false := by simpa using h2
  by_cases h14 : o = 14
  · subst h14
    rw [arI_14]
    go_enter Tryz.func49, Tryz.ntmps49
    go_wp2
    go_ret
    exact ⟨rfl, rfl⟩
  have q14 : (o == 14) = false := by simpa using h14
  by_cases h15 : o = 15
  · subst h15
    rw [arI_15]
    go_enter Tryz.func49, Tryz.ntmps49
    go_wp2
    go_ret
    exact ⟨rfl, rfl⟩
  have q15 : (o == 15) = false := by simpa using h15
  by_cases h21 : o = 21
  · subst h21
    rw [arI_21]
    go_enter Tryz.func49, Tryz.ntmps49
    go_wp2
    go_ret
    exact ⟨rfl, rfl⟩
  have q21 : (o == 21) = false := by simpa using h21
  by_cases h25 : o = 25
  · subst h25
    rw [arI_25]
    go_enter Tryz.func49, Tryz.ntmps49
    go_wp2
    go_ret
    exact ⟨rfl, rfl⟩
  have q25 : (o == 25) = false := by simpa using h25
  by_cases h3 : o = 3
  · subst h3
    rw [arI_3]
    go_enter Tryz.func49, Tryz.ntmps49
    go_wp2
    go_ret
    exact ⟨rfl, rfl⟩
  have q3 : (o == 3) = false := by simpa using h3
  by_cases h4 : o = 4
  · subst h4
    rw [arI_4]
    go_enter Tryz.func49, Tryz.ntmps49
    go_wp2
    go_ret
    exact ⟨rfl, rfl⟩
  have q4 : (o == 4) = false := by simpa using h4
  by_cases h5 : o = 5
  · subst h5
    rw [arI_5]
    go_enter Tryz.func49, Tryz.ntmps49
    go_wp2
    go_ret
    exact ⟨rfl, rfl⟩
  have q5 : (o == 5) = false := by simpa using h5
  by_cases h6 : o = 6
  · subst h6
    rw [arI_6]
    go_enter Tryz.func49, Tryz.ntmps49
    go_wp2
    go_ret
    exact ⟨rfl, rfl⟩
  have q6 : (o == 6) = false := by simpa using h6
  by_cases h7 : o = 7
  · subst h7
    rw [arI_7]
    go_enter Tryz.func49, Tryz.ntmps49
    go_wp2
    go_ret
    exact ⟨rfl, rfl⟩
  have q7 : (o == 7) = false := by simpa using h7
  by_cases h8 : o = 8
  · subst h8
    rw [arI_8]
    go_enter Tryz.func49, Tryz.ntmps49
    go_wp2
    go_ret
    exact ⟨rfl, rfl⟩
  have q8 : (o == 8) = false := by simpa using h8
  by_cases h9 : o = 9
  · subst h9
    rw [arI_9]
    go_enter Tryz.func49, Tryz.ntmps49
    go_wp2
    go_ret
    exact ⟨rfl, rfl⟩
  have q9 : (o == 9) = false := by simpa using h9
  by_cases h17 : o = 17
  · subst h17
    rw [arI_17]
    go_enter Tryz.func49, Tryz.ntmps49
    go_wp2
    go_ret
    exact ⟨rfl, rfl⟩
  have q17 : (o == 17) = false := by simpa using h17
  by_cases h18 : o = 18
  · subst h18
    rw [arI_18]
    go_enter Tryz.func49, Tryz.ntmps49
    go_wp2
    go_ret
    exact ⟨rfl, rfl⟩
  have q18 : (o == 18) = false := by simpa using h18
  by_cases h19 : o = 19
  · subst h19
    rw [arI_19]
    go_enter Tryz.func49, Tryz.ntmps49
    go_wp2
    go_ret
    exact ⟨rfl, rfl⟩
  have q19 : (o == 19) = false := by simpa using h19
  by_cases h10 : o = 10
  · subst h10
    rw [arI_10]
    go_enter Tryz.func49, Tryz.ntmps49
    go_wp2
    go_ret
    exact ⟨rfl, rfl⟩
  have q10 : (o == 10) = false := by simpa using h10
  by_cases h11 : o = 11
  · subst h11
    rw [arI_11]
    go_enter Tryz.func49, Tryz.ntmps49
    go_wp2
    go_ret
    exact ⟨rfl, rfl⟩
  have q11 : (o == 11) = false := by simpa using h11
  by_cases h16 : o = 16
  · subst h16
    rw [arI_16]
    go_enter Tryz.func49, Tryz.ntmps49
    go_wp2
    go_ret
    exact ⟨rfl, rfl⟩
  have q16 : (o == 16) = false := by simpa using h16
  by_cases h20 : o = 20
  · subst h20
    rw [arI_20]
    go_enter Tryz.func49, Tryz.ntmps49
    go_wp2
    go_ret
    exact ⟨rfl, rfl⟩
  have q20 : (o == 20) = false := by simpa using h20
  by_cases h12 : o = 12
  · subst h12
    rw [arI_12]
    go_enter Tryz.func49, Tryz.ntmps49
    go_wp2
    go_ret
    exact ⟨rfl, rfl⟩
  have q12 : (o == 12) = false := by simpa using h12
  by_cases h22 : o = 22
  · subst h22
    rw [arI_22]
    go_enter Tryz.func49, Tryz.ntmps49
    go_wp2
    go_ret
    exact ⟨rfl, rfl⟩
  have q22 : (o == 22) = false := by simpa using h22
  have e : arI o = 0 := by unfold arI; simp only [if_neg h2, if_neg h14, if_neg h15, if_neg h21, if_neg h25, if_neg h3, if_neg h4, if_neg h5, if_neg h6, if_neg h7, if_neg h8, if_neg h9, if_neg h17, if_neg h18, if_neg h19, if_neg h10, if_neg h11, if_neg h16, if_neg h20, if_neg h12, if_neg h22]
  rw [e]
  clear e h2 h14 h15 h21 h25 h3 h4 h5 h6 h7 h8 h9 h17 h18 h19 h10 h11 h16 h20 h12 h22
  go_enter Tryz.func49, Tryz.ntmps49
  go_wp2
  go_ret
  exact ⟨rfl, rfl⟩
theorem cfNone (args : Array Value) (W : World) : (callFunc 41 args).run Tryz.prog W = .ok (.enter 41 args) W := cf_enter Tryz.func41 (by kernel_rfl) (by kernel_rfl) args W
theorem cfTarget (args : Array Value) (W : World) : (callFunc 47 args).run Tryz.prog W = .ok (.enter 47 args) W := cf_enter Tryz.func47 (by kernel_rfl) (by kernel_rfl) args W
theorem cfValid (args : Array Value) (W : World) : (callFunc 14 args).run Tryz.prog W = .ok (.enter 14 args) W := cf_enter Tryz.func14 (by kernel_rfl) (by kernel_rfl) args W
theorem isFieldP (w : World) (k : Int) : Calls Tryz.prog 80 #[.int .i64 k] w fun e w' => e = .returned (.bool (fdI k)) ∧ w' = w := by
  by_cases h1 : 1 ≤ k
  · have r1 : (1 ≤ k) = True := eq_true h1
    by_cases h2 : k ≤ 536870911
    · have r2 : (k ≤ 536870911) = True := eq_true h2
      have e : fdI k = true := decide_eq_true ⟨h1, h2⟩
      rw [e]
      clear h1 h2 e
      go_enter Tryz.func80, Tryz.ntmps80
      go_wp2
      go_ret
      exact ⟨rfl, rfl⟩
    · have r2 : (k ≤ 536870911) = False := eq_false h2
      have e : fdI k = false := decide_eq_false (fun h => h2 h.2)
      rw [e]
      clear h1 h2 e
      go_enter Tryz.func80, Tryz.ntmps80
      go_wp2
      go_ret
      exact ⟨rfl, rfl⟩
  · have r1 : (1 ≤ k) = False := eq_false h1
    have e : fdI k = false := decide_eq_false (fun h => h1 h.1)
    rw [e]
    clear h1 e
    go_enter Tryz.func80, Tryz.ntmps80
    go_wp2
    go_ret
    exact ⟨rfl, rfl⟩
theorem isSingleP (w : World) (k : Int) : Calls Tryz.prog 78 #[.int .i64 k] w fun e w' => e = .returned (.bool (sgI k)) ∧ w' = w := by
  by_cases h1 : 1 ≤ k
  · have r1 : (1 ≤ k) = True := eq_true h1
    by_cases h2 : k ≤ 16
    · have r2 : (k ≤ 16) = True := eq_true h2
      have e : sgI k = true := decide_eq_true ⟨h1, h2⟩
      rw [e]
      clear h1 h2 e
      go_enter Tryz.func78, Tryz.ntmps78
      go_wp2
      go_ret
      exact ⟨rfl, rfl⟩
    · have r2 : (k ≤ 16) = False := eq_false h2
      have e : sgI k = false := decide_eq_false (fun h => h2 h.2)
      rw [e]
      clear h1 h2 e
      go_enter Tryz.func78, Tryz.ntmps78
      go_wp2
      go_ret
      exact ⟨rfl, rfl⟩
  · have r1 : (1 ≤ k) = False := eq_false h1
    have e : sgI k = false := decide_eq_false (fun h => h1 h.1)
    rw [e]
    clear h1 e
    go_enter Tryz.func78, Tryz.ntmps78
    go_wp2
    go_ret
    exact ⟨rfl, rfl⟩
theorem hasStepsP (w : World) (da ea ra : Option Addr) (n1 dc n2 ec n3 rc : Nat) (h1 : n1 ≤ 140737488355328) (h2 : n2 ≤ 140737488355328) : Calls Tryz.prog 26 #[.agg #[.slice da n1 dc, .slice ea n2 ec, .slice ra n3 rc]] w fun e w' => e = .returned (.bool (decide (0 < n1 + n2))) ∧ Below w.heap.size w w' := by
  have r4 : (n1 : Int) + (n2 : Int) ≤ 9223372036854775807 := by omega
  have r5 : (n1 : Int) ≤ 140737488355328 := by omega
  have r6 : (n2 : Int) ≤ 140737488355328 := by omega
  go_enter Tryz.func26, Tryz.ntmps26
  go_wp2
  go_ret
  exact ⟨ret_bool (by first | rfl | (by_cases h : 0 < n1 + n2 <;> simp [h] <;> omega)), by exact blBy⟩
theorem isEnumP (w : World) (bs : List BV) (ba : Option Addr) (bc : Nat) (h : PgR w (.slice ba bs.length bc) bs) (hz : ∀ x ∈ bs, x.k.dec.length ≤ 140737488355328 ∧ x.k.enc.length ≤ 140737488355328) (k : Int) : Calls Tryz.prog 79 #[.slice ba bs.length bc, .int .i64 k] w (BoA w (enI bs k)) := by
  obtain ⟨_, _, e, hn⟩ := rowS_sl h.row
  clear e
  have h63 : (bs.length : Int) ≤ 9223372036854775807 := by omega
  by_cases h0 : k < 0
  · rw [enI_lo h0]
    have r1 : (0 ≤ k) = False := eq_false (by omega)
    clear h h0 hz
    go_enter Tryz.func79, Tryz.ntmps79
    go_wp2
    go_ret
    exact ⟨rfl, by first | exact Below.refl _ _ | exact blBy⟩
  by_cases h1 : (bs.length : Int) ≤ k
  · rw [enI_hi h1]
    have r1 : (0 ≤ k) = True := eq_true (by omega)
    have r2 : ¬ k < (bs.length : Int) := by omega
    clear h h0 h1 hz
    go_enter Tryz.func79, Tryz.ntmps79
    go_wp2
    go_ret
    exact ⟨rfl, by first | exact Below.refl _ _ | exact blBy⟩
  obtain ⟨j, rfl⟩ : ∃ j : Nat, k = (j : Int) := ⟨k.toNat, by omega⟩
  have hj : j < bs.length := by omega
  rw [enI_at hj]
  obtain ⟨b, o, da, dc, ea, ec, ra, rc, rfl, hb, c0, c1, c2, -⟩ := pg_at h hj
  have hzz := hz _ (List.getElem_mem hj)
  have r1 : (0 : Int) ≤ (j : Int) := by omega
  have r2 : (j : Int) < (bs.length : Int) := by omega
  have HN : Hid (noS bs[j] = (decide (bs[j].k.dec.length = 0) && decide (bs[j].k.enc.length = 0))) := hid rfl
  generalize noS bs[j] = ns at *
  generalize bs[j].k.dec.length = n1 at *
  generalize bs[j].k.enc.length = n2 at *
  generalize bs[j].k.rows.length = n3 at *
  clear h h0 h1 hz
  by_cases hs : 0 < n1 + n2
  · obtain rfl : ns = false := by rw [HN.out]; simp; omega
    have r3 : ((0 : Int) < (n1 : Int) + (n2 : Int)) = True := eq_true (by omega)
    have r4 : (n1 : Int) + (n2 : Int) ≤ 9223372036854775807 := by omega
    have r5 : (n1 : Int) ≤ 140737488355328 := by omega
    have r6 : (n2 : Int) ≤ 140737488355328 := by omega
    have r7 : wrap64 ((n1 : Int) + (n2 : Int)) = (n1 : Int) + (n2 : Int) := by unfold wrap64; omega
    have HHS := hid (fun W => hasStepsP W da ea ra n1 dc n2 ec n3 rc hzz.1 hzz.2)
    rw [decide_eq_true hs] at HHS
    clear HN hs hzz
    go_enter Tryz.func79, Tryz.ntmps79
    go_wp2
    first
      | (go_ret; exact ⟨rfl, by first | exact Below.refl _ _ | exact blBy⟩)
      | (go_ret; exact ⟨ret_bool (by first | rfl | exact decide_eq_true r3 | (simp; omega)), by first | exact Below.refl _ _ | exact blBy⟩)
  · have z1 : n1 = 0 := by omega
    have z2 : n2 = 0 := by omega
    subst z1 z2
    obtain rfl : ns = true := HN.out
    have HHS := hid (fun W => hasStepsP W da ea ra 0 dc 0 ec n3 rc (by omega) (by omega))
    rw [decide_eq_false hs] at HHS
    clear HN hs hzz
    go_enter Tryz.func79, Tryz.ntmps79
    go_wp2
    go_ret
    exact ⟨ret_bool (by first | rfl | simp), by first | exact Below.refl _ _ | exact blBy⟩
theorem isMessageP (w : World) (bs : List BV) (ba : Option Addr) (bc : Nat) (h : PgR w (.slice ba bs.length bc) bs) (hz : ∀ x ∈ bs, x.k.dec.length ≤ 140737488355328 ∧ x.k.enc.length ≤ 140737488355328) (k : Int) : Calls Tryz.prog 81 #[.slice ba bs.length bc, .int .i64 k] w (BoA w (msI bs k)) := by
  obtain ⟨_, _, e, hn⟩ := rowS_sl h.row
  clear e
  have h63 : (bs.length : Int) ≤ 9223372036854775807 := by omega
  by_cases h0 : k < 0
  · rw [msI_lo h0]
    have r1 : (0 ≤ k) = False := eq_false (by omega)
    clear h h0 hz
    go_enter Tryz.func81, Tryz.ntmps81
    go_wp2
    go_ret
    exact ⟨rfl, by first | exact Below.refl _ _ | exact blBy⟩
  by_cases h1 : (bs.length : Int) ≤ k
  · rw [msI_hi h1]
    have r1 : (0 ≤ k) = True := eq_true (by omega)
    have r2 : ¬ k < (bs.length : Int) := by omega
    clear h h0 h1 hz
    go_enter Tryz.func81, Tryz.ntmps81
    go_wp2
    go_ret
    exact ⟨rfl, by first | exact Below.refl _ _ | exact blBy⟩
  obtain ⟨j, rfl⟩ : ∃ j : Nat, k = (j : Int) := ⟨k.toNat, by omega⟩
  have hj : j < bs.length := by omega
  rw [msI_at hj]
  obtain ⟨b, o, da, dc, ea, ec, ra, rc, rfl, hb, c0, c1, c2, -⟩ := pg_at h hj
  have hzz := hz _ (List.getElem_mem hj)
  have r1 : (0 : Int) ≤ (j : Int) := by omega
  have r2 : (j : Int) < (bs.length : Int) := by omega
  have HN : Hid (noS bs[j] = (decide (bs[j].k.dec.length = 0) && decide (bs[j].k.enc.length = 0))) := hid rfl
  generalize noS bs[j] = ns at *
  generalize bs[j].k.dec.length = n1 at *
  generalize bs[j].k.enc.length = n2 at *
  generalize bs[j].k.rows.length = n3 at *
  clear h h0 h1 hz
  by_cases hs : 0 < n1 + n2
  · obtain rfl : ns = false := by rw [HN.out]; simp; omega
    have r3 : ((0 : Int) < (n1 : Int) + (n2 : Int)) = True := eq_true (by omega)
    have r4 : (n1 : Int) + (n2 : Int) ≤ 9223372036854775807 := by omega
    have r5 : (n1 : Int) ≤ 140737488355328 := by omega
    have r6 : (n2 : Int) ≤ 140737488355328 := by omega
    have r7 : wrap64 ((n1 : Int) + (n2 : Int)) = (n1 : Int) + (n2 : Int) := by unfold wrap64; omega
    have HHS := hid (fun W => hasStepsP W da ea ra n1 dc n2 ec n3 rc hzz.1 hzz.2)
    rw [decide_eq_true hs] at HHS
    clear HN hs hzz
    go_enter Tryz.func81, Tryz.ntmps81
    go_wp2
    first
      | (go_ret; exact ⟨rfl, by first | exact Below.refl _ _ | exact blBy⟩)
      | (go_ret; exact ⟨ret_bool (by first | rfl | exact decide_eq_true r3 | (simp; omega)), by first | exact Below.refl _ _ | exact blBy⟩)
  · have z1 : n1 = 0 := by omega
    have z2 : n2 = 0 := by omega
    subst z1 z2
    obtain rfl : ns = true := HN.out
    have HHS := hid (fun W => hasStepsP W da ea ra 0 dc 0 ec n3 rc (by omega) (by omega))
    rw [decide_eq_false hs] at HHS
    clear HN hs hzz
    go_enter Tryz.func81, Tryz.ntmps81
    go_wp2
    go_ret
    exact ⟨ret_bool (by first | rfl | simp), by first | exact Below.refl _ _ | exact blBy⟩
end Go.Proofs.YtdhkbdngmejklaaGreatDoor
