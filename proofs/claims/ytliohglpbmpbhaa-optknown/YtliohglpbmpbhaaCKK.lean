/-
  Rows, sorted.
  An enum's rows.
  The names of a message's oneofs and fields.
  Fields are found by halving.
  Ranges that are free.
  A message by itself; a type by itself.
  A type by itself.
  A name cut at its dots.
  A full name: its names, and how many.
  The names ahead, in a map.
  What is around a type.
  A table is good: what the program answers.
  A type's block.
  Steps and rows compared.
  Blocks that are the same: the document's question.
  A region whose loads are of cells that its own last stores write: what is asked of the world hangs on what has come up.
  opt: blocks copied; two steps in one.
  opt: a block copied; is it an enum's, has it a Jump.
  opt: is a block an enum's, has it a Jump, which number of a step names a place.
-/
import Derived.Test.YtliohglpbmpbhaaCOPa0
import Derived.Test.YtliohglpbmpbhaaShelf
import Derived.Test.YtliohglpbmpbhaaShelfS
import Derived.Test.YtliohglpbmpbhaaCTA
import Derived.Lib.BitFns
import Derived.Laws.StructEq
import Derived.Deep.RegionHeld3
import Derived.Lib.BufferMore
namespace Go.Proofs.Ytliohglpbmpbhaa
open Go.RowKit
set_option maxRecDepth 1000000
set_option linter.unusedVariables false
set_option linter.unusedSimpArgs false
set_option maxHeartbeats 1000000
set_option maxHeartbeats 600000
/-- Numbers rise. -/
def Rise (fs : List FT) : Prop := ∀ i j, i < j → ∀ (hj : j < fs.length) (hi : i < fs.length), fs[i].num < fs[j].num
/-- While it halves. -/
structure Halv (fs : List FT) (n : Int) (k first left : Nat) : Prop where
  le : left ≤ 2 ^ k
  one : 1 ≤ left
  fit : first + left ≤ fs.length
  up : ∀ i, first + left ≤ i → ∀ (h : i < fs.length), n < fs[i].num
  lo : first = 0 ∨ ∀ (h : first < fs.length), fs[first].num ≤ n
theorem Halv.yes {fs : List FT} {n : Int} {k first left : Nat} (h : Halv fs n (k + 1) first left) (hq : ∀ (q : first + left / 2 < fs.length), fs[first + left / 2].num ≤ n) : Halv fs n k (first + left / 2) (left - left / 2) := by
  have h1 := h.le
  have h2 := h.one
  have h3 := h.fit
  rw [Nat.pow_succ] at h1
  exact ⟨by omega, by omega, by omega, fun i hi hh => h.up i (by omega) hh, .inr hq⟩
theorem Halv.no {fs : List FT} {n : Int} {k first left : Nat} (h : Halv fs n (k + 1) first left) (hr : Rise fs) (h0 : 2 ≤ left) (hq : ∀ (q : first + left / 2 < fs.length), n < fs[first + left / 2].num) : Halv fs n k first (left - left / 2) := by
  have h1 := h.le
  have h2 := h.one
  have h3 := h.fit
  rw [Nat.pow_succ] at h1
  refine ⟨by omega, by omega, by omega, fun i hi hh => ?_, h.lo⟩
  by_cases e : i = first + left / 2
  · subst e; exact hq hh
  · by_cases hl : i < first + left / 2
    · omega
    · exact Int.lt_trans (hq (by omega)) (hr _ _ (by omega) hh (by omega))
/-- What lastUpTo answers. -/
def LutR (fs : List FT) (n : Int) (w : World) (e : Ending) (w' : World) : Prop := ((e = .returned (.tuple #[.agg #[.string ⟨#[]⟩, .int .i64 0, .int .i64 0, .int .i64 0, .int .i64 0, .int .i64 0, .int .i64 0], .bool false]) ∧ (∀ i, ∀ (h : i < fs.length), n < fs[i].num)) ∨ (∃ (k : Nat) (hk : k < fs.length), e = .returned (.tuple #[.agg #[.string (strOfNums fs[k].name), .int .i64 fs[k].num, .int .i64 fs[k].kind, .int .i64 fs[k].ref, .int .i64 fs[k].lab, .int .i64 fs[k].one, .int .i64 fs[k].key], .bool true]) ∧ fs[k].num ≤ n ∧ ∀ i, k < i → ∀ (h : i < fs.length), n < fs[i].num)) ∧ Below w.heap.size w w'
theorem LutR.no {fs : List FT} {n : Int} {w w' : World} (h : ∀ i, ∀ (h : i < fs.length), n < fs[i].num) (hb : Below w.heap.size w w') : LutR fs n w (.returned (.tuple #[.agg #[.string ⟨#[]⟩, .int .i64 0, .int .i64 0, .int .i64 0, .int .i64 0, .int .i64 0, .int .i64 0], .bool false])) w' := ⟨.inl ⟨rfl, h⟩, hb⟩
theorem LutR.yes {fs : List FT} {n : Int} {w w' : World} (k : Nat) (hk : k < fs.length) (h1 : fs[k].num ≤ n) (h : ∀ i, k < i → ∀ (h : i < fs.length), n < fs[i].num) (hb : Below w.heap.size w w') : LutR fs n w (.returned (.tuple #[.agg #[.string (strOfNums fs[k].name), .int .i64 fs[k].num, .int .i64 fs[k].kind, .int .i64 fs[k].ref, .int .i64 fs[k].lab, .int .i64 fs[k].one, .int .i64 fs[k].key], .bool true])) w' := ⟨.inr ⟨k, hk, rfl, h1, h⟩, hb⟩
set_option maxHeartbeats 1000000
def named (l : List TV) (x : List Int) : Bool := l.any (fun v => v.t.name == x)
theorem Kn.zero3 (w : World) : (zeroValue 3).run Try.prog w = .ok (.int .i64 0) w := by rfl
structure BK where
  dec : List IN
  enc : List IN
  rows : List LN
/-- A block of one's own. -/
structure BkO (w : World) (base : Nat) (k : BK) (d e r : Value) : Prop where
  hd : w.ownsRow base 42 5 d k.dec.length (k.dec.flatMap cIN)
  he : w.ownsRow base 42 5 e k.enc.length (k.enc.flatMap cIN)
  hr : w.ownsRow base 28 2 r k.rows.length (k.rows.flatMap cLN)
  ap : ∀ b, d.ownBlock = some b → e.ownBlock ≠ some b
theorem BkO.kept {w w' : World} {base : Nat} {k : BK} {d e r : Value} (h : BkO w base k d e r) (g : Below w.heap.size w w') : BkO w' base k d e r := ⟨own_kept h.hd g, own_kept h.he g, own_kept h.hr g, h.ap⟩
theorem BkO.mono {w : World} {base base' : Nat} {k : BK} {d e r : Value} (h : BkO w base k d e r) (g : base' ≤ base) : BkO w base' k d e r := ⟨own_mono h.hd g, own_mono h.he g, own_mono h.hr g, h.ap⟩
def BlkA (w : World) (k : BK) (e : Ending) (w' : World) : Prop := ∃ da dc ea ec ra rc, e = .returned (.agg #[.slice da k.dec.length dc, .slice ea k.enc.length ec, .slice ra k.rows.length rc]) ∧ BkO w' w.heap.size k (.slice da k.dec.length dc) (.slice ea k.enc.length ec) (.slice ra k.rows.length rc) ∧ Below w.heap.size w w'
def inB (x y : IN) : Bool := (x.op == y.op) && ((x.a == y.a) && ((x.b == y.b) && ((x.c == y.c) && (x.d == y.d))))
def lnB (x y : LN) : Bool := (x.tag == y.tag) && (x.pl == y.pl)
theorem inB_iff (x y : IN) : inB x y = true ↔ x = y := by
  cases x
  cases y
  simp [inB]
theorem lnB_iff (x y : LN) : lnB x y = true ↔ x = y := by
  cases x
  cases y
  simp [lnB]
theorem eqIN (x y : IN) (w : World) : (Op.equalIn 10000 42 (.agg #[.int .i64 x.op, .int .i64 x.a, .int .i64 x.b, .int .i64 x.c, .int .i64 x.d]) (.agg #[.int .i64 y.op, .int .i64 y.a, .int .i64 y.b, .int .i64 y.c, .int .i64 y.d])).run Try.prog w = .ok (inB x y) w := by
  have u3 := Try.underlying3
  have a3 := Try.isAgg3
  have z3 := Try.sizeOf3
  have hS : Try.prog.underlying 42 = some (.struct (Try.prog.fieldsOf 42)) := by kernel_rfl
  have hp : Try.prog.stoodInHeld 42 = false := by kernel_rfl
  unfold inB
  rw [show (10000 : Nat) = 9999 + 1 from rfl, run_equalIn_agg w 9999 42 _ _ hS hp]
  simp only [Program.fieldsOf, Try.underlying42]
  go_simp
  by_cases h1 : x.op = y.op <;> by_cases h2 : x.a = y.a <;> by_cases h3 : x.b = y.b <;> by_cases h4 : x.c = y.c <;> by_cases h5 : x.d = y.d <;> simp [h1, h2, h3, h4, h5]
theorem eqLN (x y : LN) (w : World) : (Op.equalIn 10000 28 (.agg #[.int .i64 x.tag, .int .i64 x.pl]) (.agg #[.int .i64 y.tag, .int .i64 y.pl])).run Try.prog w = .ok (lnB x y) w := by
  have u3 := Try.underlying3
  have a3 := Try.isAgg3
  have z3 := Try.sizeOf3
  have hS : Try.prog.underlying 28 = some (.struct (Try.prog.fieldsOf 28)) := by kernel_rfl
  have hp : Try.prog.stoodInHeld 28 = false := by kernel_rfl
  unfold lnB
  rw [show (10000 : Nat) = 9999 + 1 from rfl, run_equalIn_agg w 9999 28 _ _ hS hp]
  simp only [Program.fieldsOf, Try.underlying28]
  go_simp
  by_cases h1 : x.tag = y.tag <;> by_cases h2 : x.pl = y.pl <;> simp [h1, h2]
theorem gdIN : Try.prog.eqGuardType Try.prog.depth 42 = false := by kernel_rfl
theorem gdLN : Try.prog.eqGuardType Try.prog.depth 28 = false := by kernel_rfl
/-- A block, in memory. -/
structure BkR (w : World) (k : BK) (d e r : Value) : Prop where
  hd : RowS w AnyZ 5 d k.dec.length (k.dec.flatMap cIN)
  he : RowS w AnyZ 5 e k.enc.length (k.enc.flatMap cIN)
  hr : RowS w AnyZ 2 r k.rows.length (k.rows.flatMap cLN)
theorem BkR.kept {w w' : World} {k : BK} {d e r : Value} (h : BkR w k d e r) (g : Below w.heap.size w w') : BkR w' k d e r := ⟨h.hd.kept g, h.he.kept g, h.hr.kept g⟩
theorem BkO.row {w : World} {base : Nat} {k : BK} {d e r : Value} (h : BkO w base k d e r) : BkR w k d e r := ⟨own_row h.hd (fun _ _ => trivial), own_row h.he (fun _ _ => trivial), own_row h.hr (fun _ _ => trivial)⟩
/-- A bool that says P. -/
def EqA (w : World) (P : Prop) (e : Ending) (w' : World) : Prop := ∃ r : Bool, e = .returned (.bool r) ∧ (r = true ↔ P) ∧ Below w.heap.size w w'
theorem EqA.yes {w w' : World} {P : Prop} (h : P) (hb : Below w.heap.size w w') : EqA w P (.returned (.bool true)) w' := ⟨true, rfl, ⟨fun _ => h, fun _ => rfl⟩, hb⟩
theorem EqA.no {w w' : World} {P : Prop} (h : ¬ P) (hb : Below w.heap.size w w') : EqA w P (.returned (.bool false)) w' := ⟨false, rfl, ⟨fun q => (by cases q), fun q => absurd q h⟩, hb⟩
theorem bk_eq {A B : BK} (h1 : A.dec = B.dec) (h2 : A.enc = B.enc) (h3 : A.rows = B.rows) : A = B := by
  cases A
  cases B
  simp only [BK.mk.injEq]
  exact ⟨h1, h2, h3⟩
theorem sameBlockD (w : World) (A B : BK) (aa ba ca da ea fa : Option Addr) (ac bc cc dc ec fc : Nat) (hA : BkR w A (.slice aa A.dec.length ac) (.slice ba A.enc.length bc) (.slice ca A.rows.length cc)) (hB : BkR w B (.slice da B.dec.length dc) (.slice ea B.enc.length ec) (.slice fa B.rows.length fc)) : Calls Try.prog 19 #[.agg #[.slice aa A.dec.length ac, .slice ba A.enc.length bc, .slice ca A.rows.length cc], .agg #[.slice da B.dec.length dc, .slice ea B.enc.length ec, .slice fa B.rows.length fc]] w (EqA w (A = B)) := by
  have HA := hid hA
  have HB := hid hB
  obtain ⟨_, _, e, hn1⟩ := rowS_sl hA.hd
  clear e
  obtain ⟨_, _, e, hn2⟩ := rowS_sl hA.he
  clear e
  obtain ⟨_, _, e, hn3⟩ := rowS_sl hA.hr
  clear e
  obtain ⟨_, _, e, hm1⟩ := rowS_sl hB.hd
  clear e
  obtain ⟨_, _, e, hm2⟩ := rowS_sl hB.he
  clear e
  obtain ⟨_, _, e, hm3⟩ := rowS_sl hB.hr
  clear e
  clear hA hB
  by_cases h1 : A.dec.length = B.dec.length
  case neg =>
    have q1 : ((A.dec.length : Int) == (B.dec.length : Int)) = false := by rw [beq_eq_false_iff_ne]; omega
    go_enter Try.func19, Try.ntmps19
    go_wp2
    go_ret
    exact ⟨false, rfl, ⟨fun q => (by cases q), fun q => absurd (by rw [q]) h1⟩, by exact blBy⟩
  by_cases h2 : A.enc.length = B.enc.length
  case neg =>
    have q1 : ((A.dec.length : Int) == (B.dec.length : Int)) = true := by simp [h1]
    have q2 : ((A.enc.length : Int) == (B.enc.length : Int)) = false := by rw [beq_eq_false_iff_ne]; omega
    go_enter Try.func19, Try.ntmps19
    go_wp2
    go_ret
    exact ⟨false, rfl, ⟨fun q => (by cases q), fun q => absurd (by rw [q]) h2⟩, by exact blBy⟩
  by_cases h3 : A.rows.length = B.rows.length
  case neg =>
    have q1 : ((A.dec.length : Int) == (B.dec.length : Int)) = true := by simp [h1]
    have q2 : ((A.enc.length : Int) == (B.enc.length : Int)) = true := by simp [h2]
    have q3 : ((A.rows.length : Int) == (B.rows.length : Int)) = false := by rw [beq_eq_false_iff_ne]; omega
    go_enter Try.func19, Try.ntmps19
    go_wp2
    go_ret
    exact ⟨false, rfl, ⟨fun q => (by cases q), fun q => absurd (by rw [q]) h3⟩, by exact blBy⟩
  rw [← h1, ← h2, ← h3] at HB ⊢
  have z1 : (A.dec.length : Int) ≤ 9223372036854775807 := by omega
  have z2 : (A.enc.length : Int) ≤ 9223372036854775807 := by omega
  have z3 : (A.rows.length : Int) ≤ 9223372036854775807 := by omega
  clear hn1 hn2 hn3 hm1 hm2 hm3
  replace h1 := hid h1
  replace h2 := hid h2
  replace h3 := hid h3
  go_enter Try.func19, Try.ntmps19
  go_wp2
  go_loopw [5] (fun r wr => ∃ j : Nat, r = .int .i64 j ∧ j ≤ A.dec.length ∧ Hid (A.dec.take j = B.dec.take j) ∧ Hid (Blk wr w.heap.size 25 #[.slice aa A.dec.length ac, .slice ba A.enc.length bc, .slice ca A.rows.length cc]) ∧ Hid (Blk wr (w.heap.size + 1) 25 #[.slice da A.dec.length dc, .slice ea A.enc.length ec, .slice fa A.rows.length fc]) ∧ Hid (Below w.heap.size w wr)) (fun r wr => A.dec.length - numAt wr r)
  case atStart => exact ⟨0, rfl, by omega, hid (by simp), hid ((Blk.new _ _ _).kept (below_alloc _)), hid (Blk.newAt (by simp)), hid (by exact blBy)⟩
  case round =>
    obtain ⟨j, rfl, hj, HT, Ba, Bb, hb⟩ := hrel
    have xa := Ba.out.cellF
    have za := Ba.out.lt
    have xb := Bb.out.cellF
    have zb := Bb.out.lt
    by_cases hlt : j < A.dec.length
    · have k1 : (j : Int) < (A.dec.length : Int) := by omega
      have hlt2 : j < B.dec.length := by have := h1.out; omega
      have HTS : Hid (A.dec.take (j + 1) = A.dec.take j ++ [A.dec[j]] ∧ B.dec.take (j + 1) = B.dec.take j ++ [B.dec[j]]) := hid ⟨List.take_succ_eq_append_getElem hlt, List.take_succ_eq_append_getElem hlt2⟩
      have HNE : Hid (A.dec[j] ≠ B.dec[j] → A ≠ B) := hid (fun q e => q (by subst e; rfl))
      obtain ⟨pb, po, epb, hc⟩ := rowAt (g := cIN) (fun _ => rfl) (HA.out.hd.kept hb.out) (i := j) (x := A.dec[j]) (by simp [hlt])
      obtain ⟨qb, qo, eqb, hd⟩ := rowAt (g := cIN) (fun _ => rfl) (HB.out.hd.kept hb.out) (i := j) (x := B.dec[j]) (by simp [hlt2])
      subst epb eqb
      have c0 := hc 0 _ rfl
      have d0 := hd 0 _ rfl
      have c1 := hc 1 _ rfl
      have d1 := hd 1 _ rfl
      have c2 := hc 2 _ rfl
      have d2 := hd 2 _ rfl
      have c3 := hc 3 _ rfl
      have d3 := hd 3 _ rfl
      have c4 := hc 4 _ rfl
      have d4 := hd 4 _ rfl
      clear hc hd
      simp only [Nat.add_zero] at c0 d0
      have hpb : pb < wr.heap.size := World.block_lt_of_cell? _ _ c0
      have hqb : qb < wr.heap.size := World.block_lt_of_cell? _ _ d0
      generalize A.dec[j] = x at *
      generalize B.dec[j] = y at *
      have hgd := gdIN
      have heq := fun W => eqIN x y W
      cases hq : inB x y with
      | false =>
        rw [hq] at heq
        go_wp2
        go_quiet (fail)
        go_wp2
        go_ret
        exact EqA.no (HNE.out (fun e => by rw [(inB_iff x y).2 e] at hq; cases hq)) (by have := hb.out; first | exact this | exact bl_drewN this _ | exact blBy)
      | true =>
        rw [hq] at heq
        have exy := hid ((inB_iff x y).1 hq)
        go_wp2
        go_quiet (fail)
        go_wp2
        exact ⟨⟨j + 1, by simp, by omega, hid (by rw [HTS.out.1, HTS.out.2, HT.out, exy.out]), hid (Ba.out.kept (below_drewN _ _)), hid (Bb.out.kept (below_drewN _ _)), hid (bl_drewN hb.out _)⟩, by simp [numAt]; omega⟩
    · have k1 : ¬ (j : Int) < (A.dec.length : Int) := by omega
      have Edec : Hid (A.dec = B.dec) := hid (by have := HT.out; rwa [List.take_of_length_le (by omega), List.take_of_length_le (by have := h1.out; omega)] at this)
      go_wp2
      clear hj HT xa za xb zb k1
      go_loopw [6] (fun r wr => ∃ j : Nat, r = .int .i64 j ∧ j ≤ A.enc.length ∧ Hid (A.enc.take j = B.enc.take j) ∧ Hid (Blk wr w.heap.size 25 #[.slice aa A.dec.length ac, .slice ba A.enc.length bc, .slice ca A.rows.length cc]) ∧ Hid (Blk wr (w.heap.size + 1) 25 #[.slice da A.dec.length dc, .slice ea A.enc.length ec, .slice fa A.rows.length fc]) ∧ Hid (Below w.heap.size w wr)) (fun r wr => A.enc.length - numAt wr r)
      case atStart => exact ⟨0, rfl, by omega, hid (by simp), Ba, Bb, hb⟩
      case round =>
        obtain ⟨j, rfl, hj, HT, Ba, Bb, hb⟩ := hrel
        have xa := Ba.out.cellF
        have za := Ba.out.lt
        have xb := Bb.out.cellF
        have zb := Bb.out.lt
        by_cases hlt : j < A.enc.length
        · have k1 : (j : Int) < (A.enc.length : Int) := by omega
          have hlt2 : j < B.enc.length := by have := h2.out; omega
          have HTS : Hid (A.enc.take (j + 1) = A.enc.take j ++ [A.enc[j]] ∧ B.enc.take (j + 1) = B.enc.take j ++ [B.enc[j]]) := hid ⟨List.take_succ_eq_append_getElem hlt, List.take_succ_eq_append_getElem hlt2⟩
          have HNE : Hid (A.enc[j] ≠ B.enc[j] → A ≠ B) := hid (fun q e => q (by subst e; rfl))
          obtain ⟨pb, po, epb, hc⟩ := rowAt (g := cIN) (fun _ => rfl) (HA.out.he.kept hb.out) (i := j) (x := A.enc[j]) (by simp [hlt])
          obtain ⟨qb, qo, eqb, hd⟩ := rowAt (g := cIN) (fun _ => rfl) (HB.out.he.kept hb.out) (i := j) (x := B.enc[j]) (by simp [hlt2])
          subst epb eqb
          have c0 := hc 0 _ rfl
          have d0 := hd 0 _ rfl
          have c1 := hc 1 _ rfl
          have d1 := hd 1 _ rfl
          have c2 := hc 2 _ rfl
          have d2 := hd 2 _ rfl
          have c3 := hc 3 _ rfl
          have d3 := hd 3 _ rfl
          have c4 := hc 4 _ rfl
          have d4 := hd 4 _ rfl
          clear hc hd
          simp only [Nat.add_zero] at c0 d0
          have hpb : pb < wr.heap.size := World.block_lt_of_cell? _ _ c0
          have hqb : qb < wr.heap.size := World.block_lt_of_cell? _ _ d0
          generalize A.enc[j] = x at *
          generalize B.enc[j] = y at *
          have hgd := gdIN
          have heq := fun W => eqIN x y W
          cases hq : inB x y with
          | false =>
            rw [hq] at heq
            go_wp2
            go_quiet (fail)
            go_wp2
            go_ret
            exact EqA.no (HNE.out (fun e => by rw [(inB_iff x y).2 e] at hq; cases hq)) (by have := hb.out; first | exact this | exact bl_drewN this _ | exact blBy)
          | true =>
            rw [hq] at heq
            have exy := hid ((inB_iff x y).1 hq)
            go_wp2
            go_quiet (fail)
            go_wp2
            exact ⟨⟨j + 1, by simp, by omega, hid (by rw [HTS.out.1, HTS.out.2, HT.out, exy.out]), hid (Ba.out.kept (below_drewN _ _)), hid (Bb.out.kept (below_drewN _ _)), hid (bl_drewN hb.out _)⟩, by simp [numAt]; omega⟩
        · have k1 : ¬ (j : Int) < (A.enc.length : Int) := by omega
          have Eenc : Hid (A.enc = B.enc) := hid (by have := HT.out; rwa [List.take_of_length_le (by omega), List.take_of_length_le (by have := h2.out; omega)] at this)
          go_wp2
          clear hj HT xa za xb zb k1
          go_loopw [7] (fun r wr => ∃ j : Nat, r = .int .i64 j ∧ j ≤ A.rows.length ∧ Hid (A.rows.take j = B.rows.take j) ∧ Hid (Blk wr w.heap.size 25 #[.slice aa A.dec.length ac, .slice ba A.enc.length bc, .slice ca A.rows.length cc]) ∧ Hid (Blk wr (w.heap.size + 1) 25 #[.slice da A.dec.length dc, .slice ea A.enc.length ec, .slice fa A.rows.length fc]) ∧ Hid (Below w.heap.size w wr)) (fun r wr => A.rows.length - numAt wr r)
          case atStart => exact ⟨0, rfl, by omega, hid (by simp), Ba, Bb, hb⟩
          case round =>
            obtain ⟨j, rfl, hj, HT, Ba, Bb, hb⟩ := hrel
            have xa := Ba.out.cellF
            have za := Ba.out.lt
            have xb := Bb.out.cellF
            have zb := Bb.out.lt
            by_cases hlt : j < A.rows.length
            · have k1 : (j : Int) < (A.rows.length : Int) := by omega
              have hlt2 : j < B.rows.length := by have := h3.out; omega
              have HTS : Hid (A.rows.take (j + 1) = A.rows.take j ++ [A.rows[j]] ∧ B.rows.take (j + 1) = B.rows.take j ++ [B.rows[j]]) := hid ⟨List.take_succ_eq_append_getElem hlt, List.take_succ_eq_append_getElem hlt2⟩
              have HNE : Hid (A.rows[j] ≠ B.rows[j] → A ≠ B) := hid (fun q e => q (by subst e; rfl))
              obtain ⟨pb, po, epb, hc⟩ := rowAt (g := cLN) (fun _ => rfl) (HA.out.hr.kept hb.out) (i := j) (x := A.rows[j]) (by simp [hlt])
              obtain ⟨qb, qo, eqb, hd⟩ := rowAt (g := cLN) (fun _ => rfl) (HB.out.hr.kept hb.out) (i := j) (x := B.rows[j]) (by simp [hlt2])
              subst epb eqb
              have c0 := hc 0 _ rfl
              have d0 := hd 0 _ rfl
              have c1 := hc 1 _ rfl
              have d1 := hd 1 _ rfl
              clear hc hd
              simp only [Nat.add_zero] at c0 d0
              have hpb : pb < wr.heap.size := World.block_lt_of_cell? _ _ c0
              have hqb : qb < wr.heap.size := World.block_lt_of_cell? _ _ d0
              generalize A.rows[j] = x at *
              generalize B.rows[j] = y at *
              have hgd := gdLN
              have heq := fun W => eqLN x y W
              cases hq : lnB x y with
              | false =>
                rw [hq] at heq
                go_wp2
                go_quiet (fail)
                go_wp2
                go_ret
                exact EqA.no (HNE.out (fun e => by rw [(lnB_iff x y).2 e] at hq; cases hq)) (by have := hb.out; first | exact this | exact bl_drewN this _ | exact blBy)
              | true =>
                rw [hq] at heq
                have exy := hid ((lnB_iff x y).1 hq)
                go_wp2
                go_quiet (fail)
                go_wp2
                exact ⟨⟨j + 1, by simp, by omega, hid (by rw [HTS.out.1, HTS.out.2, HT.out, exy.out]), hid (Ba.out.kept (below_drewN _ _)), hid (Bb.out.kept (below_drewN _ _)), hid (bl_drewN hb.out _)⟩, by simp [numAt]; omega⟩
            · have k1 : ¬ (j : Int) < (A.rows.length : Int) := by omega
              have Erows : Hid (A.rows = B.rows) := hid (by have := HT.out; rwa [List.take_of_length_le (by omega), List.take_of_length_le (by have := h3.out; omega)] at this)
              go_wp2
              go_ret
              exact EqA.yes (bk_eq Edec.out Eenc.out Erows.out) hb.out
section
variable {P : Program} {ops : Array Oper} {Q : Exit → Act → World → Prop} {md : Region.Mode} {S : Array Bool → World → Prop}
/-- Whatever order is picked from here on; S holds behind each operation, of what has come up by then. -/
def wpAnyL (P : Program) (md : Region.Mode) (ops : Array Oper) (Q : Exit → Act → World → Prop) (S : Array Bool → World → Prop) : Nat → Array Bool → Act → World → Prop
  | 0, l, a, w => Region.ready md ops l = [] ∧ Q .normal a w
  | n + 1, l, a, w => (Region.ready md ops l = [] → Q .normal a w) ∧ ∀ i ∈ Region.ready md ops l, wpOp P ops Q i (fun a' w' => S (l.setIfInBounds i true) w' ∧ wpAnyL P md ops Q S n (l.setIfInBounds i true) a' w') a w
/-- S1 is asked until the operation k has come up. -/
def SL (S0 S1 : World → Prop) (k : Nat) (l : Array Bool) (w : World) : Prop := S0 w ∧ (l.getD k true = false → S1 w)
variable {S0 S1 : World → Prop} {k : Nat}
theorem SL.of {l : Array Bool} {w : World} (h0 : S0 w) (h1 : S1 w) : SL S0 S1 k l w := ⟨h0, fun _ => h1⟩
def AllReadyL (P : Program) (md : Region.Mode) (ops : Array Oper) (Q : Exit → Act → World → Prop) (S : Array Bool → World → Prop) (n : Nat) (l : Array Bool) (a : Act) (w : World) (rs : List Nat) : Prop :=
  ∀ i ∈ rs, wpOp P ops Q i (fun a' w' => S (l.setIfInBounds i true) w' ∧ wpAnyL P md ops Q S n (l.setIfInBounds i true) a' w') a w
theorem AllReadyL.nil {n : Nat} {l : Array Bool} {a : Act} {w : World} : AllReadyL P md ops Q S n l a w [] := fun _ h => by cases h
theorem AllReadyL.cons {n : Nat} {l : Array Bool} {a : Act} {w : World} {i : Nat} {o : Oper} {rs : List Nat} (ho : ops[i]? = some o)
    (h : ∀ K' : Act → World → Prop, Shut (∀ a w, S (l.setIfInBounds i true) w → (S (l.setIfInBounds i true) w → wpAnyL P md ops Q S n (l.setIfInBounds i true) a w) → K' a w) → if Region.wanted o (yielded ops a.tmps) = true then Oper.wp P o a w K' Q else K' (a.put o.dst undef) w)
    (hs : AllReadyL P md ops Q S n l a w rs) : AllReadyL P md ops Q S n l a w (i :: rs) := fun j hj => by
  rcases List.mem_cons.1 hj with rfl | hj
  · exact wpOp_step ho (fun K' hK => h K' (fun a w hS hW => hK a w ⟨hS, hW hS⟩))
  · exact hs j hj
end
theorem Try.infoOI : (Try.prog.info? 42).map (fun i => (i.zero, i.size, i.bytes)) = some (some (.agg #[.int .i64 0, .int .i64 0, .int .i64 0, .int .i64 0, .int .i64 0]), 5, 40) := by kernel_rfl
theorem Try.infoOL : (Try.prog.info? 28).map (fun i => (i.zero, i.size, i.bytes)) = some (some (.agg #[.int .i64 0, .int .i64 0]), 2, 16) := by kernel_rfl
theorem cIN_one (ys : List IN) : ∀ u ∈ ys.flatMap cIN, u.oneCell' = true := by
  intro u hu
  obtain ⟨y, _, hy⟩ := List.mem_flatMap.1 hu
  simp [cIN] at hy
  rcases hy with rfl | rfl | rfl | rfl | rfl <;> rfl
theorem cLN_one (ys : List LN) : ∀ u ∈ ys.flatMap cLN, u.oneCell' = true := by
  intro u hu
  obtain ⟨y, _, hy⟩ := List.mem_flatMap.1 hu
  simp [cLN] at hy
  rcases hy with rfl | rfl <;> rfl
theorem cloneI (w : World) (l : List IN) (a : Option Addr) (c : Nat) (h : RowS w AnyZ 5 (.slice a l.length c) l.length (l.flatMap cIN)) (hn : l.length ≤ 1048576) : Calls Try.prog 37 #[.slice a l.length c] w fun e w' => ∃ a' c', e = .returned (.slice a' l.length c') ∧ w'.ownsRow w.heap.size 42 5 (.slice a' l.length c') l.length (l.flatMap cIN) ∧ Below w.heap.size w w' := by
  obtain ⟨a1, c1, x1, HR, HO, HB⟩ := copyApp 42 22 5 40 _ Try.underlying22 Try.infoOI rfl (by decide) (by decide) w l.length (l.flatMap cIN) a c h (flatN (g := cIN) (K := 5) (fun _ => rfl) l) (cIN_one l) hn
  cases a with
  | none =>
    have hl : l.length = 0 ∧ c = 0 := by
      obtain ⟨a2, c2, e, hv⟩ := h
      cases e
      rcases hv.cells with ⟨h0, hc⟩ | ⟨b, off, e, _⟩
      · exact ⟨h0, hc rfl⟩
      · cases e
    obtain ⟨h0, rfl⟩ := hl
    obtain rfl : l = [] := List.eq_nil_of_length_eq_zero h0
    clear HR HO HB h
    dsimp only [List.length_nil]
    have qn : ∀ (w : World) (a : Option Addr) (n c n' c' : Nat), (binOp .eql 22 (.slice a n c) (.slice none n' c')).run Try.prog w = .ok (.bool a.isNone) w := fun w a n c n' c' => Lib.run_eql_slice_nil w _ _ a n c n' c' Try.underlying22
    go_enter Try.func37, Try.ntmps37
    go_wp2
    exact bodyPost_ret (v := .slice none 0 0) (by simp [results, Try.results37, go_sem]) rfl ⟨none, 0, rfl, World.ownsRow_nil _ _ _ _, by exact blBy⟩
  | some ad =>
    clear h
    have qn : ∀ (w : World) (a : Option Addr) (n c n' c' : Nat), (binOp .eql 22 (.slice a n c) (.slice none n' c')).run Try.prog w = .ok (.bool a.isNone) w := fun w a n c n' c' => Lib.run_eql_slice_nil w _ _ a n c n' c' Try.underlying22
    go_enter Try.func37, Try.ntmps37
    go_wp2_with (first | (at_builtin; refine wpList_append_ran rfl _ _ 22 22 rfl rfl _ _ (.slice a1 l.length c1) x1 rfl rfl HR.out ?_))
    exact bodyPost_ret (v := .slice a1 l.length c1) (by simp [results, Try.results37, go_sem]) rfl ⟨a1, c1, rfl, HO.out, HB.out⟩
theorem cloneL (w : World) (l : List LN) (a : Option Addr) (c : Nat) (h : RowS w AnyZ 2 (.slice a l.length c) l.length (l.flatMap cLN)) (hn : l.length ≤ 1048576) : Calls Try.prog 38 #[.slice a l.length c] w fun e w' => ∃ a' c', e = .returned (.slice a' l.length c') ∧ w'.ownsRow w.heap.size 28 2 (.slice a' l.length c') l.length (l.flatMap cLN) ∧ Below w.heap.size w w' := by
  obtain ⟨a1, c1, x1, HR, HO, HB⟩ := copyApp 28 23 2 16 _ Try.underlying23 Try.infoOL rfl (by decide) (by decide) w l.length (l.flatMap cLN) a c h (flatN (g := cLN) (K := 2) (fun _ => rfl) l) (cLN_one l) hn
  cases a with
  | none =>
    have hl : l.length = 0 ∧ c = 0 := by
      obtain ⟨a2, c2, e, hv⟩ := h
      cases e
      rcases hv.cells with ⟨h0, hc⟩ | ⟨b, off, e, _⟩
      · exact ⟨h0, hc rfl⟩
      · cases e
    obtain ⟨h0, rfl⟩ := hl
    obtain rfl : l = [] := List.eq_nil_of_length_eq_zero h0
    clear HR HO HB h
    dsimp only [List.length_nil]
    have qn : ∀ (w : World) (a : Option Addr) (n c n' c' : Nat), (binOp .eql 23 (.slice a n c) (.slice none n' c')).run Try.prog w = .ok (.bool a.isNone) w := fun w a n c n' c' => Lib.run_eql_slice_nil w _ _ a n c n' c' Try.underlying23
    go_enter Try.func38, Try.ntmps38
    go_wp2
    exact bodyPost_ret (v := .slice none 0 0) (by simp [results, Try.results38, go_sem]) rfl ⟨none, 0, rfl, World.ownsRow_nil _ _ _ _, by exact blBy⟩
  | some ad =>
    clear h
    have qn : ∀ (w : World) (a : Option Addr) (n c n' c' : Nat), (binOp .eql 23 (.slice a n c) (.slice none n' c')).run Try.prog w = .ok (.bool a.isNone) w := fun w a n c n' c' => Lib.run_eql_slice_nil w _ _ a n c n' c' Try.underlying23
    go_enter Try.func38, Try.ntmps38
    go_wp2_with (first | (at_builtin; refine wpList_append_ran rfl _ _ 23 23 rfl rfl _ _ (.slice a1 l.length c1) x1 rfl rfl HR.out ?_))
    exact bodyPost_ret (v := .slice a1 l.length c1) (by simp [results, Try.results38, go_sem]) rfl ⟨a1, c1, rfl, HO.out, HB.out⟩
/-- What a step and the next make. -/
def oneI (x y : IN) : Option IN := if x.op = 5 ∧ y.op = 7 then some ⟨14, x.a, y.a, 0, 0⟩ else if x.op = 5 ∧ y.op = 8 then some ⟨15, x.a, y.a, 0, 0⟩ else if x.op = 17 ∧ y.op = 18 then some ⟨25, x.a, y.a, 0, 0⟩ else none
def inZ : IN := ⟨0, 0, 0, 0, 0⟩
theorem oneT (w : World) (x y : IN) : Calls Try.prog 46 #[vIN x, vIN y] w fun e w' => e = .returned (.tuple #[vIN ((oneI x y).getD inZ), .bool (oneI x y).isSome]) ∧ Below w.heap.size w w' := by
  obtain ⟨x0, x1, x2, x3, x4⟩ := x
  obtain ⟨y0, y1, y2, y3, y4⟩ := y
  unfold vIN
  obtain ⟨r, HR⟩ : ∃ r, Hid (r = oneI ⟨x0, x1, x2, x3, x4⟩ ⟨y0, y1, y2, y3, y4⟩) := ⟨_, hid rfl⟩
  rw [← HR.out]
  unfold oneI at HR
  dsimp only at HR ⊢
  by_cases h1 : x0 = 5
  · subst h1
    by_cases h2 : y0 = 7
    · subst h2
      obtain rfl : r = some ⟨14, x1, y1, 0, 0⟩ := by rw [HR.out]; simp
      go_enter Try.func46, Try.ntmps46
      go_wp2
      exact bodyPost_ret (v := .tuple #[.agg #[.int .i64 14, .int .i64 x1, .int .i64 y1, .int .i64 0, .int .i64 0], .bool true]) (by simp [results, Try.results46, go_sem]) rfl ⟨rfl, by exact blBy⟩
    · have k2 : (y0 == 7) = false := by simpa using h2
      by_cases h3 : y0 = 8
      · subst h3
        obtain rfl : r = some ⟨15, x1, y1, 0, 0⟩ := by rw [HR.out]; simp
        go_enter Try.func46, Try.ntmps46
        go_wp2
        exact bodyPost_ret (v := .tuple #[.agg #[.int .i64 15, .int .i64 x1, .int .i64 y1, .int .i64 0, .int .i64 0], .bool true]) (by simp [results, Try.results46, go_sem]) rfl ⟨rfl, by exact blBy⟩
      · have k3 : (y0 == 8) = false := by simpa using h3
        obtain rfl : r = none := by rw [HR.out]; simp [h2, h3]
        clear h2 h3
        go_enter Try.func46, Try.ntmps46
        go_wp2
        exact bodyPost_ret (v := .tuple #[.agg #[.int .i64 0, .int .i64 0, .int .i64 0, .int .i64 0, .int .i64 0], .bool false]) (by simp [results, Try.results46, go_sem]) rfl ⟨rfl, by exact blBy⟩
  · have k1 : (x0 == 5) = false := by simpa using h1
    by_cases h2 : x0 = 17 ∧ y0 = 18
    · obtain ⟨rfl, rfl⟩ := h2
      obtain rfl : r = some ⟨25, x1, y1, 0, 0⟩ := by rw [HR.out]; simp
      clear h1 k1
      go_enter Try.func46, Try.ntmps46
      go_wp2
      exact bodyPost_ret (v := .tuple #[.agg #[.int .i64 25, .int .i64 x1, .int .i64 y1, .int .i64 0, .int .i64 0], .bool true]) (by simp [results, Try.results46, go_sem]) rfl ⟨rfl, by exact blBy⟩
    · obtain rfl : r = none := by rw [HR.out]; simp [h1, h2]
      have k2 : ((x0 == 17) && (y0 == 18)) = false := by simpa using h2
      by_cases h3 : x0 = 17
      · subst h3
        have k3 : (y0 == 18) = false := by simpa using k2
        clear h1 h2 k2 k1
        go_enter Try.func46, Try.ntmps46
        go_wp2
        exact bodyPost_ret (v := .tuple #[.agg #[.int .i64 0, .int .i64 0, .int .i64 0, .int .i64 0, .int .i64 0], .bool false]) (by simp [results, Try.results46, go_sem]) rfl ⟨rfl, by exact blBy⟩
      · have k3 : (x0 == 17) = false := by simpa using h3
        clear h1 h2 k2 h3
        go_enter Try.func46, Try.ntmps46
        go_wp2
        exact bodyPost_ret (v := .tuple #[.agg #[.int .i64 0, .int .i64 0, .int .i64 0, .int .i64 0, .int .i64 0], .bool false]) (by simp [results, Try.results46, go_sem]) rfl ⟨rfl, by exact blBy⟩
theorem cellQ3 {w : World} {b i g : Nat} {v u0 u1 u2 : Value} (h : w.cell? ⟨b, i, none⟩ = some v) (hne : b ≠ g) : (((w.setCell ⟨g, 0, none⟩ u0).setCell ⟨g, 1, none⟩ u1).setCell ⟨g, 2, none⟩ u2).cell? ⟨b, i, none⟩ = some v := by
  have k : ∀ {W : World} (j : Nat) (u : Value), W.cell? ⟨b, i, none⟩ = some v → (W.setCell ⟨g, j, none⟩ u).cell? ⟨b, i, none⟩ = some v := fun {W} j u hW => by
    have := Below.heap_setCell W ⟨g, j, none⟩ u b hne
    unfold World.cell? at hW ⊢
    rw [this]
    exact hW
  exact k 2 u2 (k 1 u1 (k 0 u0 h))
theorem keepO3 {f : Nat → Prop} {w : World} {p : Nat} {a b c : Value} (h : ¬ f p) : Keep f w (((w.setCell ⟨p, 0, none⟩ a).setCell ⟨p, 1, none⟩ b).setCell ⟨p, 2, none⟩ c) := ((Keep.setCell _ _ _ h).trans (Keep.setCell _ _ _ h)).trans (Keep.setCell _ _ _ h)
theorem own_set3 {w : World} {base t sz n p : Nat} {v a b c : Value} {fl : List Value} (h : w.ownsRow base t sz v n fl) (hp : p < base) : (((w.setCell ⟨p, 0, none⟩ a).setCell ⟨p, 1, none⟩ b).setCell ⟨p, 2, none⟩ c).ownsRow base t sz v n fl := own_keep (f := (· ≠ p)) h (fun k hk => by have := (own_type h hk).1; show k ≠ p; omega) (keepO3 (fun h => h rfl))
theorem own_ap {w : World} {b1 b2 t1 t2 s1 s2 n1 n2 : Nat} {u v : Value} {f1 f2 : List Value} (h : w.ownsRow b1 t1 s1 u n1 f1) (hb : w.heap.size ≤ b2) {w2 : World} (g : w2.ownsRow b2 t2 s2 v n2 f2) : ∀ b, u.ownBlock = some b → v.ownBlock ≠ some b := fun b e1 e2 => by
  have q1 := (own_type h e1).2.1
  have q2 := (own_type g e2).1
  omega
def bkSm (k : BK) : Prop := k.dec.length ≤ 1048576 ∧ k.enc.length ≤ 1048576 ∧ k.rows.length ≤ 1048576
theorem copiedT (w : World) (k : BK) (da ea ra : Option Addr) (dc ec rc : Nat) (h : BkR w k (.slice da k.dec.length dc) (.slice ea k.enc.length ec) (.slice ra k.rows.length rc)) (hs : bkSm k) : Calls Try.prog 21 #[.agg #[.slice da k.dec.length dc, .slice ea k.enc.length ec, .slice ra k.rows.length rc]] w (BlkA w k) := by
  have HD := hid fun W (hW : Below w.heap.size w W) => cloneI W k.dec da dc (h.hd.kept hW) hs.1
  have HE := hid fun W (hW : Below w.heap.size w W) => cloneI W k.enc ea ec (h.he.kept hW) hs.2.1
  have HR := hid fun W (hW : Below w.heap.size w W) => cloneL W k.rows ra rc (h.hr.kept hW) hs.2.2
  clear h hs
  go_enter Try.func21, Try.ntmps21
  go_upto_region 1 with fail
  have B0 : Hid (Blk ((w.alloc (.cells #[.slice da k.dec.length dc, .slice ea k.enc.length ec, .slice ra k.rows.length rc] 25)).alloc (.cells #[.slice none 0 0, .slice none 0 0, .slice none 0 0] 25)) w.heap.size 25 #[.slice da k.dec.length dc, .slice ea k.enc.length ec, .slice ra k.rows.length rc]) := hid ((Blk.new _ _ _).kept (below_alloc _))
  have B1 : Hid (Blk ((w.alloc (.cells #[.slice da k.dec.length dc, .slice ea k.enc.length ec, .slice ra k.rows.length rc] 25)).alloc (.cells #[.slice none 0 0, .slice none 0 0, .slice none 0 0] 25)) (w.heap.size + 1) 25 #[.slice none 0 0, .slice none 0 0, .slice none 0 0]) := hid (Blk.newAt (by simp))
  have HB : Hid (Below w.heap.size w ((w.alloc (.cells #[.slice da k.dec.length dc, .slice ea k.enc.length ec, .slice ra k.rows.length rc] 25)).alloc (.cells #[.slice none 0 0, .slice none 0 0, .slice none 0 0] 25))) := hid (by exact blBy)
  generalize (w.alloc (.cells #[.slice da k.dec.length dc, .slice ea k.enc.length ec, .slice ra k.rows.length rc] 25)).alloc (.cells #[.slice none 0 0, .slice none 0 0, .slice none 0 0] 25) = w0 at *
  generalize hq1 : w.heap.size + 1 = q1 at *
  have HQ := hid hq1
  clear hq1
  have HW : Hid (Below w0.heap.size w0 w0) := hid (Below.refl _ _)
  have HSF : Hid (∀ W, Below w0.heap.size w0 W → W.cell? ⟨w.heap.size, 0, none⟩ = some (.slice da k.dec.length dc) ∧ W.cell? ⟨w.heap.size, 1, none⟩ = some (.slice ea k.enc.length ec) ∧ W.cell? ⟨w.heap.size, 2, none⟩ = some (.slice ra k.rows.length rc)) := hid (fun W hW => ⟨(B0.out.kept hW).cell 0 _ rfl, (B0.out.kept hW).cell 1 _ rfl, (B0.out.kept hW).cell 2 _ rfl⟩)
  have hne : w.heap.size ≠ q1 := by have := HQ.out; omega
  have hq0 : q1 < w0.heap.size := B1.out.lt
  have x1 := B1.out.cellF
  have y1 := B1.out.frz
  have HSS : Hid (∀ (W : World) (u0 u1 u2 : Value), Below w0.heap.size w0 W → (((W.setCell ⟨q1, 0, none⟩ u0).setCell ⟨q1, 1, none⟩ u1).setCell ⟨q1, 2, none⟩ u2).cell? ⟨w.heap.size, 0, none⟩ = some (.slice da k.dec.length dc) ∧ (((W.setCell ⟨q1, 0, none⟩ u0).setCell ⟨q1, 1, none⟩ u1).setCell ⟨q1, 2, none⟩ u2).cell? ⟨w.heap.size, 1, none⟩ = some (.slice ea k.enc.length ec) ∧ (((W.setCell ⟨q1, 0, none⟩ u0).setCell ⟨q1, 1, none⟩ u1).setCell ⟨q1, 2, none⟩ u2).cell? ⟨w.heap.size, 2, none⟩ = some (.slice ra k.rows.length rc)) := hid (fun W u0 u1 u2 hW => ⟨cellQ3 (HSF.out W hW).1 hne, cellQ3 (HSF.out W hW).2.1 hne, cellQ3 (HSF.out W hW).2.2 hne⟩)
  go_region_held3 (fun W => W.cell? ⟨w.heap.size, 0, none⟩ = some (.slice da k.dec.length dc) ∧ W.cell? ⟨w.heap.size, 1, none⟩ = some (.slice ea k.enc.length ec) ∧ W.cell? ⟨w.heap.size, 2, none⟩ = some (.slice ra k.rows.length rc)) (first | (with_reducible exact HSS.out _ _ _ _ (by have := HW.out; exact blBy)) | exact HSF.out _ (by have := HW.out; exact blBy)) (first | (go_at_call 38; refine (HR.out _ (bl_then HB.out (by have := HW.out; exact blBy))).mono ?_; rintro e u3 ⟨ar, cr, rfl, ho3, hbx⟩; have HO3 := hid (own_mono ho3 (show w0.heap.size ≤ _ from by have := HW.out.size; omega)); replace HO1 := hid (own_kept HO1.out (below_trans (by exact blBy) hbx)); replace HO2 := hid (own_kept HO2.out (below_trans (by exact blBy) hbx)); replace HW := hid (below_trans HW.out (below_trans (by exact blBy) hbx)); have B3 := hid (B1.out.kept HW.out); replace x1 := B3.out.cellF; replace y1 := B3.out.frz; have z3 := B3.out.lt; clear ho3 hbx) | (have fl := HO1; clear fl; go_at_call 37; refine (HE.out _ (bl_then HB.out (by have := HW.out; exact blBy))).mono ?_; rintro e u2 ⟨ae, ce, rfl, ho2, hbx⟩; have HAP := hid (own_ap HO1.out (by first | exact Nat.le_refl _ | (simp; done)) ho2); have HO2 := hid (own_mono ho2 (show w0.heap.size ≤ _ from by have := HW.out.size; omega)); replace HO1 := hid (own_kept HO1.out (below_trans (by exact blBy) hbx)); replace HW := hid (below_trans HW.out (below_trans (by exact blBy) hbx)); clear ho2 hbx) | (go_at_call 37; refine (HD.out _ (bl_then HB.out (by have := HW.out; exact blBy))).mono ?_; rintro e u1 ⟨ad, cd, rfl, ho1, hbx⟩; have HO1 := hid (own_mono ho1 (show w0.heap.size ≤ _ from by first | exact Nat.le_refl _ | (simp; done))); replace HW := hid (below_trans HW.out (below_trans (by exact blBy) hbx)); clear ho1 hbx))
  have HBF : Hid (Below w.heap.size w u3) := hid (bl_then HB.out HW.out)
  have hqw : w.heap.size ≤ q1 := by have := HQ.out; omega
  have hw0 : w.heap.size ≤ w0.heap.size := HB.out.size
  go_wp2
  exact bodyPost_ret (v := .agg #[.slice ad k.dec.length cd, .slice ae k.enc.length ce, .slice ar k.rows.length cr]) (by simp [results, Try.results21, go_sem, x1, z3]) rfl ⟨ad, cd, ae, ce, ar, cr, rfl, ⟨own_mono (own_set3 HO1.out hq0) hw0, own_mono (own_set3 HO2.out hq0) hw0, own_mono (own_set3 HO3.out hq0) hw0, HAP.out⟩, by have := HBF.out; exact blBy⟩
set_option maxHeartbeats 4000000
def BoO (w : World) (b : Bool) (e : Ending) (w' : World) : Prop := e = .returned (.bool b) ∧ Below w.heap.size w w'
def IxO (w : World) (l : List IN) (p : IN → Bool) (e : Ending) (w' : World) : Prop := Below w.heap.size w w' ∧ ((e = .returned (.int .i64 (-1)) ∧ l.any p = false) ∨ ∃ j : Nat, e = .returned (.int .i64 (j : Int)) ∧ l.any p = true)
theorem idxInsB (w : World) (l : List IN) (la : Option Addr) (lc : Nat) (hl : RowS w AnyZ 5 (.slice la l.length lc) l.length (l.flatMap cIN)) (fn : FuncId) (caps : Array Value) (p : IN → Bool) (hcf : ∀ (args : Array Value) (W : World), (callFunc fn args).run Try.prog W = .ok (.enter fn args) W) (hc : ∀ x ∈ l, ∀ W, Below w.heap.size w W → Calls Try.prog fn (#[.agg #[.int .i64 x.op, .int .i64 x.a, .int .i64 x.b, .int .i64 x.c, .int .i64 x.d]] ++ caps) W (BoO W (p x))) : Calls Try.prog 58 #[.slice la l.length lc, .func (.func fn) #[] caps] w (IxO w l p) := by
  obtain ⟨_, _, e, hn⟩ := rowS_sl hl
  clear e
  have n63 : (l.length : Int) ≤ 9223372036854775807 := by omega
  have HR := hid hl
  have HC := hid hc
  clear hl hc
  go_enter Try.func58, Try.ntmps58
  go_wp2
  go_loopw [8] (fun r wr => ∃ j : Nat, r = .int .i64 j ∧ j ≤ l.length ∧ Hid (∀ i (h : i < l.length), i < j → p l[i] = false) ∧ Hid (Below w.heap.size w wr)) (fun r wr => l.length - numAt wr r)
  case atStart => exact ⟨0, rfl, by omega, hid (fun i h hi => by omega), hid (Below.refl _ _)⟩
  case round =>
    obtain ⟨j, rfl, hj, HS, hb⟩ := hrel
    by_cases hlt : j < l.length
    · have h2 : (j : Int) < (l.length : Int) := by omega
      obtain ⟨pb, po, epb, hcc⟩ := rowAt (g := cIN) (fun _ => rfl) (HR.out.kept hb.out) (i := j) (x := l[j]) (by simp [hlt])
      subst epb
      have c0 := hcc 0 _ rfl
      have c1 := hcc 1 _ rfl
      have c2 := hcc 2 _ rfl
      have c3 := hcc 3 _ rfl
      have c4 := hcc 4 _ rfl
      clear hcc
      simp only [Nat.add_zero] at c0
      have hpb : pb < wr.heap.size := World.block_lt_of_cell? _ _ c0
      have HCJ := hid (HC.out _ (List.getElem_mem hlt) wr hb.out)
      have HNX : Hid (p l[j] = false → ∀ i (h : i < l.length), i < j + 1 → p l[i] = false) := hid (fun ht i h hi => by
        by_cases e : i = j
        · subst e; exact ht
        · exact HS.out i h (by omega))
      have HNO : Hid (p l[j] = true → l.any p = true) := hid (fun ht => List.any_eq_true.2 ⟨_, List.getElem_mem hlt, ht⟩)
      clear HS
      generalize l[j] = x at *
      cases hpx : p x
      · rw [hpx] at HCJ
        have HS2 := hid (HNX.out hpx)
        clear HNX HNO hpx
        go_wp2_with fail
        refine HCJ.out.mono ?_
        rintro e w1 ⟨rfl, hb1⟩
        have HB1 := hid (bl_then hb.out hb1)
        go_wp2
        exact ⟨⟨j + 1, by simp, by omega, HS2, HB1⟩, by simp [numAt]; omega⟩
      · rw [hpx] at HCJ
        have HF := hid (HNO.out hpx)
        clear HNX HNO hpx
        go_wp2_with fail
        refine HCJ.out.mono ?_
        rintro e w1 ⟨rfl, hb1⟩
        have HB1 := hid (bl_then hb.out hb1)
        go_wp2
        go_ret
        exact ⟨HB1.out, .inr ⟨j, rfl, HF.out⟩⟩
    · have h2 : ¬ (j : Int) < (l.length : Int) := by omega
      have HE : Hid (l.any p = false) := hid (by
        rw [List.any_eq_false]
        intro x hx
        obtain ⟨i, hi, rfl⟩ := List.getElem_of_mem hx
        simp [HS.out i hi (by omega)])
      clear HS
      go_wp2
      go_ret
      exact ⟨hb.out, .inl ⟨rfl, HE.out⟩⟩
theorem conInsB (w : World) (l : List IN) (la : Option Addr) (lc : Nat) (hl : RowS w AnyZ 5 (.slice la l.length lc) l.length (l.flatMap cIN)) (fn : FuncId) (caps : Array Value) (p : IN → Bool) (hcf : ∀ (args : Array Value) (W : World), (callFunc fn args).run Try.prog W = .ok (.enter fn args) W) (hc : ∀ x ∈ l, ∀ W, Below w.heap.size w W → Calls Try.prog fn (#[.agg #[.int .i64 x.op, .int .i64 x.a, .int .i64 x.b, .int .i64 x.c, .int .i64 x.d]] ++ caps) W (BoO W (p x))) : Calls Try.prog 41 #[.slice la l.length lc, .func (.func fn) #[] caps] w (BoO w (l.any p)) := by
  have HI := hid (idxInsB w l la lc hl fn caps p hcf hc)
  clear hl hc
  go_enter Try.func41, Try.ntmps41
  go_wp2_with fail
  refine HI.out.mono ?_
  rintro e w1 ⟨hb1, ⟨rfl, hq⟩ | ⟨j, rfl, hq⟩⟩
  · go_wp2
    go_ret
    exact ⟨by rw [hq]; rfl, hb1⟩
  · have k0 : ((0 : Int) ≤ (j : Int)) = True := eq_true (by omega)
    go_wp2
    go_ret
    exact ⟨by rw [hq]; rfl, hb1⟩
theorem hasJ1 (w : World) (x : IN) : Calls Try.prog 42 #[.agg #[.int .i64 x.op, .int .i64 x.a, .int .i64 x.b, .int .i64 x.c, .int .i64 x.d]] w (BoO w (x.op == 3)) := by
  go_enter Try.func42, Try.ntmps42
  go_wp2
  exact bodyPost_ret (v := .bool (x.op == 3)) (by simp [results, Try.results42, go_sem]) rfl ⟨rfl, by exact blBy⟩
theorem hasJumpT (w : World) (l : List IN) (la : Option Addr) (lc : Nat) (hl : RowS w AnyZ 5 (.slice la l.length lc) l.length (l.flatMap cIN)) : Calls Try.prog 24 #[.slice la l.length lc] w (BoO w (l.any (fun x => x.op == 3))) := by
  have HC := hid fun W (hW : Below w.heap.size w W) => conInsB W l la lc (hl.kept hW) 42 #[] (fun x => x.op == 3) (cf_enter Try.func42 (by kernel_rfl) (by kernel_rfl)) (fun x _ W _ => hasJ1 W x)
  clear hl
  generalize l.any (fun x => x.op == 3) = b at *
  go_enter Try.func24, Try.ntmps24
  go_wp2_with fail
  refine (HC.out _ (by exact blBy)).mono ?_
  rintro e w1 ⟨rfl, hb⟩
  have HB : Hid (Below w.heap.size w w1) := hid (bl_then (by exact blBy) hb)
  clear hb
  go_wp2
  exact bodyPost_ret (v := .bool b) (by simp [results, Try.results24, go_sem]) rfl ⟨rfl, by have := HB.out; exact blBy⟩
theorem isEnumO (w : World) (k : BK) (da ea ra : Option Addr) (dc ec rc : Nat) : Calls Try.prog 20 #[.agg #[.slice da k.dec.length dc, .slice ea k.enc.length ec, .slice ra k.rows.length rc]] w (BoO w (decide (k.dec.length = 0) && decide (k.enc.length = 0))) := by
  obtain ⟨n1, e1⟩ : ∃ n, n = k.dec.length := ⟨_, rfl⟩
  obtain ⟨n2, e2⟩ : ∃ n, n = k.enc.length := ⟨_, rfl⟩
  rw [← e1, ← e2]
  clear e1 e2
  have q : (decide (n1 = 0) && decide (n2 = 0)) = (((n1 : Int) == 0) && ((n2 : Int) == 0)) := by
    rw [Bool.eq_iff_iff]
    simp
  rw [q]
  cases h : ((n1 : Int) == 0) with
  | true =>
    go_enter Try.func20, Try.ntmps20
    go_wp2
    exact bodyPost_ret (v := .bool ((n2 : Int) == 0)) (by simp [results, Try.results20, go_sem]) rfl ⟨by simp, by exact blBy⟩
  | false =>
    go_enter Try.func20, Try.ntmps20
    go_wp2
    exact bodyPost_ret (v := .bool false) (by simp [results, Try.results20, go_sem]) rfl ⟨by simp, by exact blBy⟩
/-- Which number of a step names a place, if one does. -/
def plI (x : IN) : Option Nat := if x.op = 2 ∨ x.op = 16 then some 2 else if x.op = 3 ∨ x.op = 4 then some 1 else none
theorem placeT (w : World) (x : IN) (b o : Nat) (hb : b < w.heap.size) (h0 : w.cell? ⟨b, o, none⟩ = some (.int .i64 x.op)) : Calls Try.prog 45 #[.pointer (some ⟨b, o, none⟩)] w fun e w' => e = .returned (.pointer ((plI x).map (fun j => ⟨b, o + j, none⟩))) ∧ w' = w := by
  obtain ⟨op, xa, xb, xc, xd⟩ := x
  dsimp only at h0
  unfold plI
  dsimp only
  by_cases h2 : op = 2
  · subst h2
    go_enter Try.func45, Try.ntmps45
    go_wp2
    exact bodyPost_ret (v := .pointer (some ⟨b, o + 2, none⟩)) (by simp [results, Try.results45, go_sem]) rfl ⟨rfl, rfl⟩
  · have k2 : (op == 2) = false := by simpa using h2
    by_cases h16 : op = 16
    · subst h16
      go_enter Try.func45, Try.ntmps45
      go_wp2
      exact bodyPost_ret (v := .pointer (some ⟨b, o + 2, none⟩)) (by simp [results, Try.results45, go_sem]) rfl ⟨rfl, rfl⟩
    · have k16 : (op == 16) = false := by simpa using h16
      by_cases h3 : op = 3
      · subst h3
        go_enter Try.func45, Try.ntmps45
        go_wp2
        exact bodyPost_ret (v := .pointer (some ⟨b, o + 1, none⟩)) (by simp [results, Try.results45, go_sem]) rfl ⟨rfl, rfl⟩
      · have k3 : (op == 3) = false := by simpa using h3
        by_cases h4 : op = 4
        · subst h4
          go_enter Try.func45, Try.ntmps45
          go_wp2
          exact bodyPost_ret (v := .pointer (some ⟨b, o + 1, none⟩)) (by simp [results, Try.results45, go_sem]) rfl ⟨rfl, rfl⟩
        · have k4 : (op == 4) = false := by simpa using h4
          rw [if_neg (by rintro (q | q) <;> contradiction), if_neg (by rintro (q | q) <;> contradiction)]
          clear h2 h16 h3 h4
          go_enter Try.func45, Try.ntmps45
          go_wp2
          exact bodyPost_ret (v := .pointer none) (by simp [results, Try.results45, go_sem]) rfl ⟨rfl, rfl⟩
end Go.Proofs.Ytliohglpbmpbhaa
