/-
  Ranges of numbers: joined, covered, the same.
  Which numbers lists of ranges hold, as the law asks it.
  A message's new numbers.
  The examples' tables; two lists of changes; the layer is awake.
  The document's Fresh.
-/
import Derived.Test.YtmfaakimhgkedaaGreatDoorCEV11
import Derived.Test.YtmfaakimhgkedaaGreatDoorCEV7
import Derived.Test.YtmfaakimhgkedaaGreatDoorCTY
namespace Go.Proofs.YtmfaakimhgkedaaGreatDoor
open Go.RowKit
set_option maxRecDepth 1000000
set_option linter.unusedVariables false
set_option linter.unusedSimpArgs false
set_option maxHeartbeats 1000000
/-- Ranges that rise and lie apart. -/
def Srt : List RG → Int → Prop
  | [], _ => True
  | r :: l, z => z < r.lo ∧ r.lo ≤ r.hi ∧ Srt l r.hi
/-- The same, with a number free between two. -/
def Gap : List RG → Int → Prop
  | [], _ => True
  | r :: l, z => z + 1 < r.lo ∧ r.lo ≤ r.hi ∧ Gap l r.hi
def inR (l : List RG) (n : Int) : Prop := ∃ r ∈ l, r.lo ≤ n ∧ n ≤ r.hi
theorem inR_cons {r : RG} {l : List RG} {n : Int} : inR (r :: l) n ↔ (r.lo ≤ n ∧ n ≤ r.hi) ∨ inR l n := by simp [inR]
theorem inR_nil {n : Int} : ¬ inR [] n := by simp [inR]
theorem gap_low : ∀ {l : List RG} {z n : Int}, Gap l z → inR l n → z + 1 < n
  | [], _, _, _, h => absurd h inR_nil
  | r :: l, z, n, hs, h => by
    obtain ⟨h1, h2, h3⟩ := hs
    rcases inR_cons.1 h with h | h
    · omega
    · have := gap_low h3 h; omega
def jn2 : RG → List RG → List RG
  | c, [] => [c]
  | c, r :: l => if c.hi + 1 = r.lo then jn2 ⟨c.lo, r.hi⟩ l else c :: jn2 r l
theorem stJ_snoc (out : List RG) (c r : RG) : stJ (out ++ [c]) r = if c.hi + 1 = r.lo then out ++ [⟨c.lo, r.hi⟩] else out ++ [c] ++ [r] := by
  unfold stJ
  simp
theorem fold_jn2 : ∀ (l : List RG) (out : List RG) (c : RG), l.foldl stJ (out ++ [c]) = out ++ jn2 c l
  | [], out, c => by simp [jn2]
  | r :: l, out, c => by
    rw [List.foldl_cons, stJ_snoc, jn2]
    split
    · exact fold_jn2 l out _
    · rw [fold_jn2 l (out ++ [c]) r]; simp
theorem jn_cons (r : RG) (l : List RG) : jnL (r :: l) = jn2 r l := by
  unfold jnL
  rw [List.foldl_cons]
  have := fold_jn2 l [] r
  simpa [stJ] using this
theorem jn2_gap : ∀ (l : List RG) (c : RG) (z : Int), z + 1 < c.lo → c.lo ≤ c.hi → Srt l c.hi → Gap (jn2 c l) z
  | [], c, z, h1, h2, _ => ⟨h1, h2, trivial⟩
  | r :: l, c, z, h1, h2, h3 => by
    obtain ⟨a1, a2, a3⟩ := h3
    rw [jn2]
    split
    · rename_i q
      exact jn2_gap l _ z h1 (by dsimp only; omega) a3
    · rename_i q
      exact ⟨h1, h2, jn2_gap l r c.hi (by omega) a2 a3⟩
theorem jn2_in : ∀ (l : List RG) (c : RG) (n : Int), c.lo ≤ c.hi → Srt l c.hi → (inR (jn2 c l) n ↔ inR (c :: l) n)
  | [], c, n, _, _ => by rw [jn2]
  | r :: l, c, n, h2, h3 => by
    obtain ⟨a1, a2, a3⟩ := h3
    rw [jn2]
    split
    · rename_i q
      rw [jn2_in l (RG.mk c.lo r.hi) n (by dsimp only; omega) a3, inR_cons, inR_cons, inR_cons]
      constructor
      · rintro (h | h)
        · dsimp only at h
          by_cases g : n ≤ c.hi
          · exact .inl ⟨h.1, g⟩
          · exact .inr (.inl ⟨by omega, h.2⟩)
        · exact .inr (.inr h)
      · rintro (h | h | h)
        · exact .inl ⟨h.1, by dsimp only; omega⟩
        · exact .inl ⟨by dsimp only; omega, h.2⟩
        · exact .inr h
    · rw [inR_cons, jn2_in l r n a2 a3, inR_cons (r := c)]
theorem jn_gap {l : List RG} (h : Srt l 0) : Gap (jnL l) (-1) := by
  cases l with
  | nil => exact trivial
  | cons r l => rw [jn_cons]; exact jn2_gap l r (-1) (by have := h.1; omega) h.2.1 h.2.2
theorem jn_in {l : List RG} (h : Srt l 0) (n : Int) : inR (jnL l) n ↔ inR l n := by
  cases l with
  | nil => exact Iff.rfl
  | cons r l => rw [jn_cons]; exact jn2_in l r n h.2.1 h.2.2
theorem gap_uniq : ∀ {a b : List RG} {y z : Int}, Gap a y → Gap b z → (∀ n, inR a n ↔ inR b n) → a = b
  | [], [], _, _, _, _, _ => rfl
  | [], s :: b, _, _, _, hb, h => absurd ((h s.lo).2 (inR_cons.2 (.inl ⟨Int.le_refl _, hb.2.1⟩))) inR_nil
  | r :: a, [], _, _, ha, _, h => absurd ((h r.lo).1 (inR_cons.2 (.inl ⟨Int.le_refl _, ha.2.1⟩))) inR_nil
  | r :: a, s :: b, y, z, ha, hb, h => by
    obtain ⟨a1, a2, a3⟩ := ha
    obtain ⟨b1, b2, b3⟩ := hb
    have l1 : ∀ {n}, inR (r :: a) n → r.lo ≤ n := fun {n} q => by
      rcases inR_cons.1 q with q | q
      · exact q.1
      · have := gap_low a3 q; omega
    have l2 : ∀ {n}, inR (s :: b) n → s.lo ≤ n := fun {n} q => by
      rcases inR_cons.1 q with q | q
      · exact q.1
      · have := gap_low b3 q; omega
    have e1 : r.lo = s.lo := by
      have q1 := l2 ((h r.lo).1 (inR_cons.2 (.inl ⟨Int.le_refl _, a2⟩)))
      have q2 := l1 ((h s.lo).2 (inR_cons.2 (.inl ⟨Int.le_refl _, b2⟩)))
      omega
    have e2 : r.hi = s.hi := by
      rcases Int.lt_trichotomy r.hi s.hi with q | q | q
      · have := (h (r.hi + 1)).2 (inR_cons.2 (.inl ⟨by omega, by omega⟩))
        rcases inR_cons.1 this with t | t
        · omega
        · have := gap_low a3 t; omega
      · exact q
      · have := (h (s.hi + 1)).1 (inR_cons.2 (.inl ⟨by omega, by omega⟩))
        rcases inR_cons.1 this with t | t
        · omega
        · have := gap_low b3 t; omega
    have e : r = s := by cases r; cases s; simp at e1 e2; subst e1 e2; rfl
    subst e
    have := gap_uniq a3 b3 (fun n => by
      constructor
      · intro q
        have q1 := gap_low a3 q
        rcases inR_cons.1 ((h n).1 (inR_cons.2 (.inr q))) with t | t
        · omega
        · exact t
      · intro q
        have q1 := gap_low b3 q
        rcases inR_cons.1 ((h n).2 (inR_cons.2 (.inr q))) with t | t
        · omega
        · exact t)
    rw [this]
theorem srt_le : ∀ {l : List RG} {z : Int}, Srt l z → ∀ o ∈ l, o.lo ≤ o.hi
  | [], _, _, o, ho => by cases ho
  | r :: l, z, h, o, ho => by
    rcases List.mem_cons.1 ho with rfl | ho
    · exact h.2.1
    · exact srt_le h.2.2 o ho
def SubR (a b : List RG) : Prop := ∀ n, inR a n → inR b n
theorem jn_same {a b : List RG} (ha : Srt a 0) (hb : Srt b 0) : jnL a = jnL b ↔ SubR a b ∧ SubR b a := by
  constructor
  · intro h
    have q : ∀ n, inR a n ↔ inR b n := fun n => by rw [← jn_in ha, ← jn_in hb, h]
    exact ⟨fun n => (q n).1, fun n => (q n).2⟩
  · rintro ⟨h1, h2⟩
    refine gap_uniq (jn_gap ha) (jn_gap hb) fun n => ?_
    rw [jn_in ha, jn_in hb]
    exact ⟨h1 n, h2 n⟩
/-- Whether a list of ranges holds a number. -/
def hldB (l : List RG) (n : Int) : Bool := l.any (fun r => decide (r.lo ≤ n) && decide (n ≤ r.hi))
theorem hld_iff (l : List RG) (n : Int) : hldB l n = true ↔ inR l n := by
  unfold hldB inR
  simp
def nubR (b : List RG) (r : RG) (s : RG) : Bool := !(decide (r.lo ≤ s.hi + 1) && decide (s.hi + 1 ≤ r.hi)) || hldB b (s.hi + 1)
def nu1B (b : List RG) (r : RG) : Bool := hldB b r.lo && (hldB b r.hi && b.all (nubR b r))
def numB (a b : List RG) : Bool := a.all (nu1B b)
theorem nub_iff (b : List RG) (r s : RG) : nubR b r s = true ↔ (r.lo ≤ s.hi + 1 ∧ s.hi + 1 ≤ r.hi → inR b (s.hi + 1)) := by
  unfold nubR
  rw [← hld_iff]
  by_cases h : r.lo ≤ s.hi + 1 ∧ s.hi + 1 ≤ r.hi
  · simp [h.1, h.2]
  · have : (decide (r.lo ≤ s.hi + 1) && decide (s.hi + 1 ≤ r.hi)) = false := by simpa using h
    simp [this, h]
theorem num_iff {a b : List RG} (ha : ∀ o ∈ a, o.lo ≤ o.hi) : numB a b = true ↔ SubR a b := by
  unfold numB nu1B
  simp only [List.all_eq_true, Bool.and_eq_true, hld_iff, nub_iff]
  constructor
  · rintro h n ⟨r, hr, h1, h2⟩
    obtain ⟨q1, q2, q3⟩ := h r hr
    have key : ∀ k : Nat, r.lo + k ≤ r.hi → inR b (r.lo + k) := by
      intro k
      induction k with
      | zero => intro _; simpa using q1
      | succ k ih =>
        intro hk
        obtain ⟨s, hs, s1, s2⟩ := ih (by omega)
        by_cases g : r.lo + k + 1 ≤ s.hi
        · exact ⟨s, hs, by omega, by omega⟩
        · have e : s.hi + 1 = r.lo + ((k + 1 : Nat) : Int) := by omega
          have := q3 s hs ⟨by omega, by omega⟩
          rwa [e] at this
    have := key (n - r.lo).toNat (by omega)
    rwa [show r.lo + ((n - r.lo).toNat : Int) = n by omega] at this
  · intro h r hr
    exact ⟨h _ ⟨r, hr, Int.le_refl _, ha r hr⟩, h _ ⟨r, hr, ha r hr, Int.le_refl _⟩, fun s hs q => h _ ⟨r, hr, q.1, q.2⟩⟩
theorem free_srt {fs : List FT} : ∀ (l : List RG) (z : Int), freeA fs l z = true → Srt l z
  | [], _, _ => trivial
  | r :: l, z, h => by
    unfold freeA at h
    split at h
    · cases h
    · rename_i h1
      split at h
      · cases h
      · exact ⟨by omega, by omega, free_srt l r.hi h⟩
def syB (x y : SY) : Bool := decide (x.name = y.name) && (x.num == y.num)
theorem syB_iff (x y : SY) : syB x y = true ↔ x = y := by
  cases x
  cases y
  simp [syB]
theorem eqSY (x y : SY) (hx : TxA x.name) (hy : TxA y.name) (w : World) : (Op.equalIn 10000 77 (.agg #[.string (strOfNums x.name), .int .i64 x.num]) (.agg #[.string (strOfNums y.name), .int .i64 y.num])).run Tryz.prog w = .ok (syB x y) w := by
  have u3 := Tryz.underlying3
  have a3 := Tryz.isAgg3
  have z3 := Tryz.sizeOf3
  have u9 := Tryz.underlying9
  have a9 := Tryz.isAgg9
  have z9 := Tryz.sizeOf9
  have hS : Tryz.prog.underlying 77 = some (.struct (Tryz.prog.fieldsOf 77)) := by kernel_rfl
  have hp : Tryz.prog.stoodInHeld 77 = false := by kernel_rfl
  have s1 := str_eq hx.1 hy.1
  unfold syB
  rw [show (10000 : Nat) = 9999 + 1 from rfl, run_equalIn_agg w 9999 77 _ _ hS hp]
  simp only [Program.fieldsOf, Tryz.underlying77]
  go_simp
  by_cases h1 : x.name = y.name <;> by_cases h2 : x.num = y.num <;> simp [h1, h2, s1]
theorem gdSY : Tryz.prog.eqGuardType Tryz.prog.depth 77 = false := by kernel_rfl
theorem holdsT18 (w : World) (l : List RG) (a : Option Addr) (c : Nat) (h : RowS w AnyZ 2 (.slice a l.length c) l.length (l.flatMap cRG)) (n : Int) : Calls Tryz.prog 49 #[.slice a l.length c, .int .i64 n] w (EvB w (hldB l n)) := by
  obtain ⟨_, _, e, hn⟩ := rowS_sl h
  clear e
  have h63 : (l.length : Int) ≤ 9223372036854775807 := by omega
  have HR := hid h
  clear h
  go_enter Tryz.func49, Tryz.ntmps49
  go_wp2
  go_loopw [5] (fun r wr => ∃ j : Nat, r = .int .i64 j ∧ j ≤ l.length ∧ Hid (hldB (l.take j) n = false) ∧ Hid (Below w.heap.size w wr)) (fun r wr => l.length - numAt wr r)
  case atStart => exact ⟨0, rfl, by omega, hid rfl, hid (Below.refl _ _)⟩
  case round =>
    obtain ⟨j, rfl, hj, HF, hb⟩ := hrel
    by_cases hlt : j < l.length
    · have k1 : (j : Int) < (l.length : Int) := by omega
      obtain ⟨b, o, rfl, hbl, c0, c1⟩ := rowG (HR.out.kept hb.out) hlt
      have HS : Hid (hldB (l.take (j + 1)) n = (decide (l[j].lo ≤ n) && decide (n ≤ l[j].hi))) := hid (by
        unfold hldB at HF ⊢
        rw [List.take_succ_eq_append_getElem hlt, List.any_append, HF.out]
        simp)
      have HY : Hid (l[j].lo ≤ n → n ≤ l[j].hi → hldB l n = true) := hid fun h1 h2 => by
        rw [hld_iff]
        exact ⟨l[j], List.getElem_mem hlt, h1, h2⟩
      generalize l[j] = x at *
      by_cases p1 : x.lo ≤ n
      · have e1 : (x.lo ≤ n) = True := eq_true p1
        by_cases p2 : n ≤ x.hi
        · have e2 : (n ≤ x.hi) = True := eq_true p2
          replace HY := hid (HY.out p1 p2)
          clear p1 p2 HS HF
          go_wp2
          go_ret
          exact ⟨ret_bool HY.out.symm, by have := hb.out; first | exact this | exact bl_drewN this _ | exact blBy⟩
        · have e2 : (n ≤ x.hi) = False := eq_false p2
          have HS2 := hid (show hldB (l.take (j + 1)) n = false by rw [HS.out]; simp [p2])
          clear p1 p2 HS HF HY
          go_wp2
          exact ⟨⟨j + 1, by simp, by omega, HS2, hid (by have := hb.out; first | exact this | exact bl_drewN this _ | exact blBy)⟩, by simp [numAt]; omega⟩
      · have e1 : (x.lo ≤ n) = False := eq_false p1
        have HS2 := hid (show hldB (l.take (j + 1)) n = false by rw [HS.out]; simp [p1])
        clear p1 HS HF HY
        go_wp2
        exact ⟨⟨j + 1, by simp, by omega, HS2, hid (by have := hb.out; first | exact this | exact bl_drewN this _ | exact blBy)⟩, by simp [numAt]; omega⟩
    · have k1 : ¬ (j : Int) < (l.length : Int) := by omega
      have HE := hid (show hldB l n = false by have := HF.out; rwa [List.take_of_length_le (by omega)] at this)
      go_wp2
      go_ret
      exact ⟨ret_bool HE.out.symm, hb.out⟩
theorem numbersT18 (w : World) (A B : List RG) (a b : Option Addr) (c d : Nat) (hA : RowS w AnyZ 2 (.slice a A.length c) A.length (A.flatMap cRG)) (hB : RowS w AnyZ 2 (.slice b B.length d) B.length (B.flatMap cRG)) (hk : ∀ x ∈ B, RgOk x) : Calls Tryz.prog 35 #[.slice a A.length c, .slice b B.length d] w (EvB w (numB A B)) := by
  obtain ⟨_, _, e, hn⟩ := rowS_sl hA
  clear e
  obtain ⟨_, _, e, hn2⟩ := rowS_sl hB
  clear e
  have h63 : (A.length : Int) ≤ 9223372036854775807 := by omega
  have h64 : (B.length : Int) ≤ 9223372036854775807 := by omega
  have HA := hid hA
  have HB := hid hB
  have HK := hid hk
  have HH := hid fun W (hW : Below w.heap.size w W) n => holdsT18 W B b d (hB.kept hW) n
  clear hA hB hk
  go_enter Tryz.func35, Tryz.ntmps35
  go_wp2
  go_loopw [5] (fun r wr => ∃ j : Nat, r = .int .i64 j ∧ j ≤ A.length ∧ Hid (numB (A.take j) B = true) ∧ Hid (Below w.heap.size w wr)) (fun r wr => A.length - numAt wr r)
  case atStart => exact ⟨0, rfl, by omega, hid rfl, hid (Below.refl _ _)⟩
  case round =>
    obtain ⟨j, rfl, hj, HF, hb⟩ := hrel
    by_cases hlt : j < A.length
    · have k1 : (j : Int) < (A.length : Int) := by omega
      obtain ⟨ab, ao, rfl, hbl, c0, c1⟩ := rowG (HA.out.kept hb.out) hlt
      have HS : Hid (numB (A.take (j + 1)) B = nu1B B A[j]) := hid (by
        unfold numB at HF ⊢
        rw [List.take_succ_eq_append_getElem hlt, List.all_append, HF.out]
        simp)
      have HY : Hid (nu1B B A[j] = false → numB A B = false) := hid fun h1 => by
        unfold numB
        rw [List.all_eq_false]
        exact ⟨A[j], List.getElem_mem hlt, by simp [h1]⟩
      have HU : Hid (nu1B B A[j] = (hldB B A[j].lo && (hldB B A[j].hi && B.all (nubR B A[j])))) := hid rfl
      generalize A[j] = x at *
      go_wp2_with fail
      refine (HH.out _ hb.out _).mono ?_
      rintro e w1 ⟨rfl, hb1⟩
      have HB1 : Hid (Below w.heap.size w w1) := hid (below_trans hb.out hb1)
      have d0 := cell_below c0 hb1
      have d1 := cell_below c1 hb1
      have y1 := World.block_lt_of_cell? _ _ d0
      clear hb1 c0 c1 hbl
      cases q1 : hldB B x.lo with
      | false =>
        have HZ := hid (HY.out (by rw [HU.out, q1]; rfl))
        clear HY HU HS HF q1
        go_wp2
        go_ret
        exact ⟨ret_bool HZ.out.symm, HB1.out⟩
      | true =>
      go_wp2_with fail
      refine (HH.out _ HB1.out _).mono ?_
      rintro e w2 ⟨rfl, hb2⟩
      have HB2 : Hid (Below w.heap.size w w2) := hid (below_trans HB1.out hb2)
      have c0 := cell_below d0 hb2
      have c1 := cell_below d1 hb2
      have hbl := World.block_lt_of_cell? _ _ c0
      clear hb2 d0 d1 y1 HB1 hb
      cases q2 : hldB B x.hi with
      | false =>
        have HZ := hid (HY.out (by rw [HU.out, q1, q2]; rfl))
        clear HY HU HS HF q1 q2
        go_wp2
        go_ret
        exact ⟨ret_bool HZ.out.symm, HB2.out⟩
      | true =>
      have HQ : Hid (nu1B B x = B.all (nubR B x)) := hid (by rw [HU.out, q1, q2]; rfl)
      have HN : Hid (∀ y ∈ B, nubR B x y = false → numB A B = false) := hid fun y hy h => HY.out (by rw [HQ.out, List.all_eq_false]; exact ⟨y, hy, by simp [h]⟩)
      clear HU HY q1 q2
      go_wp2
      generalize w2 = W2 at *
      go_loopw [6] (fun r wr => ∃ i : Nat, r = .int .i64 i ∧ i ≤ B.length ∧ Hid ((B.take i).all (nubR B x) = true) ∧ Hid (Below W2.heap.size W2 wr)) (fun r wr => B.length - numAt wr r)
      case atStart => exact ⟨0, rfl, by omega, hid rfl, hid (Below.refl _ _)⟩
      case round =>
        obtain ⟨i, rfl, hi, HA2, hb3⟩ := hrel
        have e0 := cell_below c0 hb3.out
        have e1 := cell_below c1 hb3.out
        have hbl2 := World.block_lt_of_cell? _ _ e0
        have HB3 := hid (below_trans HB2.out hb3.out)
        clear c0 c1 hbl
        by_cases hlt2 : i < B.length
        · have k2 : (i : Int) < (B.length : Int) := by omega
          obtain ⟨bb, bo, rfl, hbb, f0, f1⟩ := rowG (HB.out.kept HB3.out) hlt2
          have HS2 : Hid ((B.take (i + 1)).all (nubR B x) = nubR B x B[i]) := hid (by
            rw [List.take_succ_eq_append_getElem hlt2, List.all_append, HA2.out]
            simp)
          have HN2 := hid (HN.out B[i] (List.getElem_mem hlt2))
          have HW := hid (wrH (HK.out B[i] (List.getElem_mem hlt2)).2.2)
          have HI := hid (nub_iff B x B[i])
          have HLD := hid (hld_iff B (B[i].hi + 1))
          generalize B[i] = z at *
          have hw := HW.out
          by_cases p1 : x.lo ≤ z.hi + 1
          · have t1 : (x.lo ≤ z.hi + 1) = True := eq_true p1
            by_cases p2 : z.hi + 1 ≤ x.hi
            · have t2 : (z.hi + 1 ≤ x.hi) = True := eq_true p2
              go_wp2_with fail
              refine (HH.out _ HB3.out _).mono ?_
              rintro e w4 ⟨rfl, hb4⟩
              cases q3 : hldB B (z.hi + 1) with
              | false =>
                have HZ := hid (HN2.out (by
                  rw [Bool.eq_false_iff]
                  intro h
                  have := HLD.out.2 (HI.out.1 h ⟨p1, p2⟩)
                  rw [q3] at this
                  cases this))
                go_wp2
                go_ret
                exact ⟨ret_bool HZ.out.symm, below_trans HB3.out hb4⟩
              | true =>
                have HZ := hid (show (B.take (i + 1)).all (nubR B x) = true by rw [HS2.out, HI.out]; exact fun _ => HLD.out.1 q3)
                go_wp2
                exact ⟨⟨i + 1, by simp, by omega, HZ, hid (below_trans hb3.out hb4)⟩, by simp [numAt]; omega⟩
            · have t2 : (z.hi + 1 ≤ x.hi) = False := eq_false p2
              have HZ := hid (show (B.take (i + 1)).all (nubR B x) = true by rw [HS2.out, HI.out]; exact fun h => absurd h.2 p2)
              go_wp2
              exact ⟨⟨i + 1, by simp, by omega, HZ, hb3⟩, by simp [numAt]; omega⟩
          · have t1 : (x.lo ≤ z.hi + 1) = False := eq_false p1
            have HZ := hid (show (B.take (i + 1)).all (nubR B x) = true by rw [HS2.out, HI.out]; exact fun h => absurd h.1 p1)
            go_wp2
            exact ⟨⟨i + 1, by simp, by omega, HZ, hb3⟩, by simp [numAt]; omega⟩
        · have k2 : ¬ (i : Int) < (B.length : Int) := by omega
          have HZ := hid (show numB (A.take (j + 1)) B = true by rw [HS.out, HQ.out]; have := HA2.out; rwa [List.take_of_length_le (by omega)] at this)
          go_wp2
          exact ⟨⟨j + 1, by simp, by omega, HZ, HB3⟩, by simp [numAt]; omega⟩
    · have k1 : ¬ (j : Int) < (A.length : Int) := by omega
      have HE := hid (show numB A B = true by have := HF.out; rwa [List.take_of_length_le (by omega)] at this)
      go_wp2
      go_ret
      exact ⟨ret_bool HE.out.symm, hb.out⟩
/-- A block of rows, as one's own. -/
theorem own_blk {w : World} {p n size base : Nat} {t : TypeId} {cs : Array Value} (h : Blk w p t cs) (hs : cs.size = n * size) (hb : base ≤ p) (hn : n ≤ 9223372036854775807) : w.ownsRow base t size (.slice (some ⟨p, 0, none⟩) n n) n cs.toList :=
  ⟨by simpa using hs, .inr ⟨p, n, cs, rfl, hb, h, Nat.le_refl _, hn, hs, by rw [← hs]; exact List.take_length⟩⟩
def simB1 : Array Value := #[.string ⟨#[65]⟩, .int .i64 0]
def simB2 : Array Value := #[.string ⟨#[120]⟩, .int .i64 1, .int .i64 2, .int .i64 0, .int .i64 0, .int .i64 0, .int .i64 0, .string ⟨#[108]⟩, .int .i64 2, .int .i64 4, .int .i64 0, .int .i64 3, .int .i64 0, .int .i64 0, .string ⟨#[109]⟩, .int .i64 3, .int .i64 17, .int .i64 1, .int .i64 1, .int .i64 0, .int .i64 0]
def simB3 (h : Nat) : Array Value := #[.string ⟨#[69]⟩, .bool true, .slice none 0 0, .slice none 0 0, .slice (some ⟨h + 1, 0, none⟩) 1 1, .slice none 0 0, .string ⟨#[77]⟩, .bool false, .slice (some ⟨h + 1 + 1, 0, none⟩) 3 3, .slice none 0 0, .slice none 0 0, .slice none 0 0]
/-- The examples' table, by its blocks. -/
theorem simpleB (w : World) : Calls Tryz.prog 25 #[] w fun e w' => e = .returned (.agg #[.slice (some ⟨w.heap.size + 1 + 1 + 1, 0, none⟩) 2 2]) ∧ Blk w' (w.heap.size + 1) 77 simB1 ∧ Blk w' (w.heap.size + 1 + 1) 79 simB2 ∧ Blk w' (w.heap.size + 1 + 1 + 1) 50 (simB3 w.heap.size) ∧ Below w.heap.size w w' := by
  go_enter Tryz.func25, Tryz.ntmps25
  go_wp2
  refine bodyPost_ret (v := .agg #[.slice (some ⟨w.heap.size + 1 + 1 + 1, 0, none⟩) 2 2]) (by simp [results, Tryz.results25, go_sem]) rfl ⟨rfl, ?_, ?_, ?_, by exact blBy⟩
  · exact ((Blk.newAt (by simp)).kept (below_alloc _)).kept (below_alloc _)
  · exact (Blk.newAt (by simp)).kept (below_alloc _)
  · exact Blk.newAt (by simp)
def morF : List FT := simF ++ [⟨[115], 4, 14, 0, 0, 0, 0⟩]
def morL (h : Nat) (fa : Option Addr) (fc : Nat) : List TV := [simE h, ⟨⟨[77], false, morF, [], [], []⟩, .slice fa 4 fc, .slice none 0 0, .slice none 0 0, .slice none 0 0⟩]
theorem morGood (h : Nat) (fa : Option Addr) (fc : Nat) : goodB (morL h fa fc) = true := by kernel_rfl
theorem simMore (h g : Nat) (fa : Option Addr) (fc : Nat) : difL (simL h) (morL g fa fc) = [⟨2, 6, [77], 4⟩] := by kernel_rfl
theorem morOk (h : Nat) (fa : Option Addr) (fc : Nat) : ∀ x ∈ morL h fa fc, OkV x := by
  intro x hx
  rcases List.mem_cons.1 hx with rfl | hx
  · exact simOk h _ (by simp [simL])
  · rcases List.mem_cons.1 hx with rfl | hx
    · have q := simOk h (simM h) (by simp [simL])
      refine ⟨⟨q.ok.nm, fun f hf => ?_, by simp, by simp⟩, by simp, by simp [morF, simF]⟩
      rcases List.mem_append.1 hf with hf | hf
      · exact q.ok.fs f hf
      · simp at hf
        subst hf
        exact ⟨by decide, by decide⟩
    · cases hx
theorem Tryz.infoFT18 : (Tryz.prog.info? 79).map (fun i => (i.zero, i.size, i.bytes)) = some (some (.agg #[.string ⟨#[]⟩, .int .i64 0, .int .i64 0, .int .i64 0, .int .i64 0, .int .i64 0, .int .i64 0]), 7, 64) := by kernel_rfl
/-- What More answers. -/
def MorA (w : World) (e : Ending) (w' : World) : Prop := ∃ h fa fc ta, e = .returned (.agg #[.slice ta 2 2]) ∧ TbR w' (.slice ta 2 2) (morL h fa fc) ∧ Below w.heap.size w w'
theorem step_append18 {P : Program} {ops : Array Oper} {o : Oper} {a : Act} {w : World} {K : Act → World → Prop} {Q : Exit → Act → World → Prop} {E : Prop}
    (hg : o.guard = none) (s x : Operand) (t ty : TypeId) (hop : o.op = Op.call { callee := Callee.builtin Builtin.append, args := #[s, x], argTypes := #[t, t] }) (hty : o.type = ty)
    (v xv v' : Value) (w' : World) (hs : a.eval s = v) (hx : a.eval x = xv) (hr : (Builtin.append_ #[t, t] ty #[v, xv]).run P w = .ok v' w') (hK : K (a.put o.dst v') w') :
    if Region.wanted o (yielded ops a.tmps) = true then Oper.wp P o a w K Q else E := by
  have hw : Region.wanted o (yielded ops a.tmps) = true := by simp [Region.wanted, hg]
  rw [if_pos hw]
  subst hty
  unfold Oper.wp
  simp [execOp, hop, resolve, invoke, builtin, hs, hx, hr, Result.andThen]
  exact hK
/-- A row of one's own stays where another block is written. -/
theorem own_set18 {w : World} {base e size n p i : Nat} {v u : Value} {fl : List Value} {t : TypeId} {cs : Array Value} (h : w.ownsRow base e size v n fl) (hp : Blk w p t cs) (hne : e ≠ t) : (w.setCell ⟨p, i, none⟩ u).ownsRow base e size v n fl :=
  own_keep (f := (· ≠ p)) h (fun k hk e' => by
    obtain ⟨_, _, cur, h3⟩ := own_type h hk
    subst e'
    rw [show w.heap[k]? = _ from hp] at h3
    cases h3
    exact hne rfl) (Keep.setCell w _ u (fun q => q rfl))
/-- A struct more, at the end of a block of rows. -/
theorem appB (t ts : TypeId) (size bytes : Nat) (z : Value) (hts : Tryz.prog.underlying ts = some (.slice t)) (hinfo : (Tryz.prog.info? t).map (fun i => (i.zero, i.size, i.bytes)) = some (some z, size, bytes)) (hzs : z.cells.size = size) (h0 : 0 < size) (hby : bytes ≤ 400) (U : World) (g n : Nat) (bs cs : Array Value) (hb : Blk U g t bs) (hn : bs.size = n * size) (hn2 : n ≤ 4000000) (hcs : cs.size = size) (h1 : ∀ u ∈ cs.toList, u.oneCell' = true) : ∃ a c w', Hid ((Builtin.append_ #[ts, ts] ts #[.slice (some ⟨g, 0, none⟩) n n, .slice (some ⟨U.heap.size, 0, none⟩) 1 1]).run Tryz.prog (U.alloc (.cells cs t)) = .ok (.slice a (n + 1) c) w') ∧ Hid (w'.ownsRow g t size (.slice a (n + 1) c) (n + 1) (bs.toList ++ cs.toList)) ∧ Hid (∀ p u ds, Blk U p u ds → p ≠ g → Blk w' p u ds) ∧ Hid (∀ w0 : World, Below w0.heap.size w0 U → w0.heap.size ≤ g → Below w0.heap.size w0 w') := by
  have ho := own_blk hb hn (Nat.le_refl g) (by omega)
  obtain ⟨v', w', r1, r2, r3⟩ := append_st t ts size bytes z hts hinfo hzs h0 hby g _ n _ U cs hcs h1 ho (by have := hb.lt; omega) hn2
  obtain ⟨a, c, rfl⟩ := own_shape r2
  refine ⟨a, c, w', hid r1, hid r2, hid fun p u ds hp hne => ?_, hid fun w0 hw hg => ?_⟩
  · exact (r3.block p hp.lt (fun e => hne (by injection e with e; exact e.symm))).trans hp
  · exact hw.trans (grow_bel r3 ho hg hw.size)
theorem moreW (w : World) : Calls Tryz.prog 26 #[] w (MorA w) := by
  go_enter Tryz.func26, Tryz.ntmps26
  go_wp2_with fail
  refine (simpleB _).mono ?_
  rintro e w1 ⟨rfl, b1, b2, b3, hb1⟩
  have hz : w.heap.size < (w.alloc (.cells #[.slice none 0 0] 24)).heap.size := by simp
  have B0 : Blk w1 w.heap.size 24 #[.slice none 0 0] := (Blk.new _ _ _).kept hb1
  have HL : Hid (Below w.heap.size w w1) := hid (bl_then (by exact blBy) hb1)
  clear hb1
  generalize (w.alloc (.cells #[.slice none 0 0] 24)).heap.size = h at *
  go_upto_region 2 with fail
  have HL2 : Hid (Below w1.heap.size w1 (w1.alloc (.cells #[.slice (some ⟨h + 1 + 1 + 1, 0, none⟩) 2 2] 24))) := hid (below_alloc _)
  have BT : Blk (w1.alloc (.cells #[.slice (some ⟨h + 1 + 1 + 1, 0, none⟩) 2 2] 24)) w1.heap.size 24 #[.slice (some ⟨h + 1 + 1 + 1, 0, none⟩) 2 2] := Blk.new _ _ _
  have zt0 := b3.lt
  have zt1 := B0.lt
  replace B0 := B0.kept HL2.out
  replace b1 := b1.kept HL2.out
  replace b2 := b2.kept HL2.out
  replace b3 := b3.kept HL2.out
  replace HL := hid (below_trans HL.out HL2.out)
  clear HL2
  generalize w1.heap.size = tb at *
  generalize w1.alloc (.cells #[.slice (some ⟨h + 1 + 1 + 1, 0, none⟩) 2 2] 24) = U at *
  have z3 := b3.lt
  have zt := BT.lt
  have xt := BT.cellF
  have c8 : U.cell? ⟨h + 1 + 1 + 1, 8, none⟩ = some (.slice (some ⟨h + 1 + 1, 0, none⟩) 3 3) := b3.cell 8 _ rfl
  obtain ⟨a, c, w', HRUN, HO, HB, HBL⟩ := appB 79 45 7 64 (.agg #[.string ⟨#[]⟩, .int .i64 0, .int .i64 0, .int .i64 0, .int .i64 0, .int .i64 0, .int .i64 0]) Tryz.underlying45 Tryz.infoFT18 rfl (by decide) (by decide) U.drew (h + 1 + 1) 3 simB2 #[.string ⟨#[115]⟩, .int .i64 4, .int .i64 14, .int .i64 0, .int .i64 0, .int .i64 0, .int .i64 0] (b2.kept (below_drew1 _)) rfl (by decide) rfl (fun u hu => by simp at hu; rcases hu with rfl | rfl | rfl | rfl | rfl <;> rfl)
  have D0 := HB.out _ _ _ (B0.kept (below_drew1 _)) (by omega)
  have D1 := HB.out _ _ _ (b1.kept (below_drew1 _)) (by omega)
  have D3 := HB.out _ _ _ (b3.kept (below_drew1 _)) (by omega)
  have DT := HB.out _ _ _ (BT.kept (below_drew1 _)) (by omega)
  have HL3 := hid (HBL.out w (bl_drew HL.out) (by omega))
  have HT : Hid (TbR ((w'.setCell ⟨h + 1 + 1 + 1, 8, none⟩ (.slice a (3 + 1) c)).setCell ⟨w.heap.size, 0, none⟩ (.slice (some ⟨h + 1 + 1 + 1, 0, none⟩) 2 2)) (.slice (some ⟨h + 1 + 1 + 1, 0, none⟩) 2 2) (morL h a c)) := hid (by
    have D0' : Blk (w'.setCell ⟨h + 1 + 1 + 1, 8, none⟩ (.slice a (3 + 1) c)) w.heap.size 24 #[.slice none 0 0] := D0.other (by dsimp only; omega) _
    refine ⟨rowOf ((D3.set 8 (.slice a (3 + 1) c)).other (by dsimp only; omega) _) 6 2 _ rfl rfl (by decide), fun x hx => ?_⟩
    rcases List.mem_cons.1 hx with rfl | hx
    · exact ⟨rowS_nil _ _ _, rowS_nil _ _ _, rowOf ((D1.other (by dsimp only; omega) _).other (by dsimp only; omega) _) 2 1 _ rfl rfl (by decide), rowS_nil _ _ _⟩
    · rcases List.mem_cons.1 hx with rfl | hx
      · exact ⟨own_row (own_set18 (own_set18 HO.out D3 (by decide)) D0' (by decide)) (fun _ _ => trivial), rowS_nil _ _ _, rowS_nil _ _ _, rowS_nil _ _ _⟩
      · cases hx)
  have x3 := D3.frz 8
  have y3 := D3.lt
  have e8 : w'.cell? ⟨h + 1 + 1 + 1, 8, none⟩ = some (.slice (some ⟨h + 1 + 1, 0, none⟩) 3 3) := D3.cell 8 _ rfl
  have xT := DT.cellF
  have yT := DT.lt
  have x0 := D0.cellF
  have y0 := D0.lt
  have f0 := D0.frz
  have n1 : tb ≠ h + 1 + 1 + 1 := by omega
  have n2 : w.heap.size ≠ h + 1 + 1 + 1 := by omega
  have n3 : tb ≠ w.heap.size := by omega
  clear HB HBL HO D0 D1 D3 DT B0 b1 b2 b3 BT
  go_region_law (first | (refine step_append18 rfl _ _ 45 45 rfl rfl _ _ (.slice a (3 + 1) c) w' rfl rfl HRUN.out ?_))
  all_goals go_wp2
  all_goals exact bodyPost_ret (v := .agg #[.slice (some ⟨h + 1 + 1 + 1, 0, none⟩) 2 2]) (by simp [results, Tryz.results26, go_sem, x0, y0, f0, n2]) rfl ⟨h, a, c, _, rfl, HT.out, by have := HL3.out; exact blBy⟩
/-- Two lists of changes. -/
theorem rowC {w : World} {l : List CH} {a : Option Addr} {n c : Nat} (h : RowS w AnyZ 4 (.slice a n c) l.length (l.flatMap cCH)) {j : Nat} (hj : j < l.length) : ∃ b o, a = some ⟨b, o, none⟩ ∧ b < w.heap.size ∧ w.cell? ⟨b, o + j * 4, none⟩ = some (.int .i64 l[j].cls) ∧ w.cell? ⟨b, o + j * 4 + 1, none⟩ = some (.int .i64 l[j].what) ∧ w.cell? ⟨b, o + j * 4 + 2, none⟩ = some (.string (strOfNums l[j].ty)) ∧ w.cell? ⟨b, o + j * 4 + 3, none⟩ = some (.int .i64 l[j].num) := by
  obtain ⟨b, o, e, hc⟩ := rowAt (g := cCH) (fun _ => rfl) h (i := j) (x := l[j]) (by simp [hj])
  exact ⟨b, o, e, World.block_lt_of_cell? _ _ (hc 0 _ rfl), hc 0 _ rfl, hc 1 _ rfl, hc 2 _ rfl, hc 3 _ rfl⟩
theorem ch_ne {x y : CH} (h : x.cls ≠ y.cls ∨ x.what ≠ y.what ∨ x.ty ≠ y.ty ∨ x.num ≠ y.num) : x ≠ y := fun e => by subst e; simp at h
theorem ch_cases (x y : CH) : x.cls ≠ y.cls ∨ (x.cls = y.cls ∧ x.what ≠ y.what) ∨ (x.cls = y.cls ∧ x.what = y.what ∧ x.ty ≠ y.ty) ∨ (x.cls = y.cls ∧ x.what = y.what ∧ x.ty = y.ty ∧ x.num ≠ y.num) ∨ x = y := by
  by_cases h1 : x.cls = y.cls
  · by_cases h2 : x.what = y.what
    · by_cases h3 : x.ty = y.ty
      · by_cases h4 : x.num = y.num
        · exact .inr (.inr (.inr (.inr (by cases x; cases y; simp at h1 h2 h3 h4; subst h1 h2 h3 h4; rfl))))
        · exact .inr (.inr (.inr (.inl ⟨h1, h2, h3, h4⟩)))
      · exact .inr (.inr (.inl ⟨h1, h2, h3⟩))
    · exact .inr (.inl ⟨h1, h2⟩)
  · exact .inl h1
theorem sameCT (w : World) (A B : List CH) (aa ba : Option Addr) (ac bc : Nat) (hA : RowS w AnyZ 4 (.slice aa A.length ac) A.length (A.flatMap cCH)) (hB : RowS w AnyZ 4 (.slice ba B.length bc) B.length (B.flatMap cCH)) (tA : ∀ x ∈ A, TxA x.ty) (tB : ∀ x ∈ B, TxA x.ty) : Calls Tryz.prog 10 #[.slice aa A.length ac, .slice ba B.length bc] w (EvE w (A = B)) := by
  have HA := hid hA
  have HB := hid hB
  obtain ⟨_, _, e, hn1⟩ := rowS_sl hA
  clear e
  obtain ⟨_, _, e, hm1⟩ := rowS_sl hB
  clear e
  have TA' := hid tA
  have TB' := hid tB
  clear hA hB tA tB
  by_cases h1 : A.length = B.length
  case neg =>
    have q1 : ((A.length : Int) != (B.length : Int)) = true := by simp; omega
    have q2 : ((A.length : Int) == (B.length : Int)) = false := by rw [beq_eq_false_iff_ne]; omega
    go_enter Tryz.func10, Tryz.ntmps10
    go_wp2
    go_ret
    exact EvE.no (fun q => absurd (by rw [q]) h1) (by first | exact Below.refl _ _ | exact blBy)
  replace HB : Hid (RowS w AnyZ 4 (.slice ba A.length bc) B.length (B.flatMap cCH)) := hid (by rw [h1]; exact HB.out)
  rw [← h1]
  have z1 : (A.length : Int) ≤ 9223372036854775807 := by omega
  have q1 : ((A.length : Int) != (A.length : Int)) = false := by simp
  clear hn1 hm1
  replace h1 := hid h1
  go_enter Tryz.func10, Tryz.ntmps10
  go_wp2
  go_loopw [5] (fun r wr => ∃ j : Nat, r = .int .i64 j ∧ j ≤ A.length ∧ Hid (A.take j = B.take j) ∧ Hid (Below w.heap.size w wr)) (fun r wr => A.length - numAt wr r)
  case atStart => exact ⟨0, rfl, by omega, hid (by simp), hid (Below.refl _ _)⟩
  case round =>
    obtain ⟨j, rfl, hj, HT, hb⟩ := hrel
    by_cases hlt : j < A.length
    · have k1 : (j : Int) < (A.length : Int) := by omega
      have hlt2 : j < B.length := by have := h1.out; omega
      have HTS : Hid (A.take (j + 1) = A.take j ++ [A[j]] ∧ B.take (j + 1) = B.take j ++ [B[j]]) := hid ⟨List.take_succ_eq_append_getElem hlt, List.take_succ_eq_append_getElem hlt2⟩
      have HNE : Hid (A[j] ≠ B[j] → A ≠ B) := hid (fun q e => q (by subst e; rfl))
      have s1 := str_eq (TA'.out _ (List.getElem_mem hlt)).1 (TB'.out _ (List.getElem_mem hlt2)).1
      obtain ⟨pb, po, epb, hpb, c0, c1, c2, c3⟩ := rowC (HA.out.kept hb.out) hlt
      obtain ⟨qb, qo, eqb, hqb, d0, d1, d2, d3⟩ := rowC (HB.out.kept hb.out) hlt2
      subst epb eqb
      generalize A[j] = x at *
      generalize B[j] = y at *
      obtain ⟨xc, xw, xt, xn⟩ := x
      obtain ⟨yc, yw, yt, yn⟩ := y
      dsimp only at c0 c1 c2 c3 d0 d1 d2 d3 s1
      rcases ch_cases ⟨xc, xw, xt, xn⟩ ⟨yc, yw, yt, yn⟩ with h | ⟨g, h⟩ | ⟨g1, g2, h⟩ | ⟨g1, g2, g3, h⟩ | h
      · have HF := hid (HNE.out (ch_ne (.inl h)))
        have e1 : (xc != yc) = true := by simpa using h
        clear HNE HTS h s1
        go_wp2
        go_quiet (fail)
        go_wp2
        go_ret
        exact EvE.no HF.out (by have := hb.out; first | exact this | exact bl_drewN this _ | exact blBy)
      · have HF := hid (HNE.out (ch_ne (.inr (.inl h))))
        dsimp only at g h
        subst g
        have e1 : (xc != xc) = false := by simp
        have e2 : (xw != yw) = true := by simpa using h
        clear HNE HTS h s1
        go_wp2
        go_quiet (fail)
        go_wp2
        go_ret
        exact EvE.no HF.out (by have := hb.out; first | exact this | exact bl_drewN this _ | exact blBy)
      · have HF := hid (HNE.out (ch_ne (.inr (.inr (.inl h)))))
        dsimp only at g1 g2 h
        subst g1 g2
        have e1 : (xc != xc) = false := by simp
        have e2 : (xw != xw) = false := by simp
        rw [decide_eq_false h] at s1
        clear HNE HTS h
        go_wp2
        go_quiet (fail)
        go_wp2
        go_ret
        exact EvE.no HF.out (by have := hb.out; first | exact this | exact bl_drewN this _ | exact blBy)
      · have HF := hid (HNE.out (ch_ne (.inr (.inr (.inr h)))))
        dsimp only at g1 g2 g3 h
        subst g1 g2 g3
        have e1 : (xc != xc) = false := by simp
        have e2 : (xw != xw) = false := by simp
        have e3 : (xn != yn) = true := by simpa using h
        rw [decide_eq_true rfl] at s1
        clear HNE HTS h
        go_wp2
        go_quiet (fail)
        go_wp2
        go_ret
        exact EvE.no HF.out (by have := hb.out; first | exact this | exact bl_drewN this _ | exact blBy)
      · injection h with g1 g2 g3 g4
        subst g1 g2 g3 g4
        have e1 : (xc != xc) = false := by simp
        have e2 : (xw != xw) = false := by simp
        have e3 : (xn != xn) = false := by simp
        rw [decide_eq_true rfl] at s1
        clear HNE
        go_wp2
        go_quiet (fail)
        go_wp2
        exact ⟨⟨j + 1, by simp, by omega, hid (by rw [HTS.out.1, HTS.out.2, HT.out]), hid (by have := hb.out; first | exact this | exact bl_drewN this _ | exact blBy)⟩, by simp [numAt]; omega⟩
    · have k1 : ¬ (j : Int) < (A.length : Int) := by omega
      have E : Hid (A = B) := hid (by have := HT.out; rwa [List.take_of_length_le (by omega), List.take_of_length_le (by have := h1.out; omega)] at this)
      go_wp2
      go_ret
      exact EvE.yes E.out hb.out
def aTY (t : TT) (fa oa sa ra : Option Addr) (fc oc sc rc : Nat) : Value := .agg #[.string (strOfNums t.name), .bool t.enum, .slice fa t.fs.length fc, .slice oa t.os.length oc, .slice sa t.ss.length sc, .slice ra t.rs.length rc]
theorem fnd_idx (p : TV → Bool) : ∀ (l : List TV) (i : Nat), fnd p l i = match l.findIdx? p with
    | none => -1
    | some k => ((i + k : Nat) : Int)
  | [], i => rfl
  | x :: r, i => by
    rw [fnd, List.findIdx?_cons]
    cases h : p x with
    | true => simp
    | false =>
      simp only [Bool.false_eq_true, if_false]
      rw [fnd_idx p r (i + 1)]
      cases r.findIdx? p with
      | none => rfl
      | some k =>
        show ((i + 1 + k : Nat) : Int) = ((i + (k + 1) : Nat) : Int)
        congr 1
        omega
theorem findI_idx (l : List TV) (nm : List Int) : findI l nm = match l.findIdx? (nameP nm) with
    | none => -1
    | some k => (k : Int) := by
  unfold findI
  rw [fnd_idx]
  cases l.findIdx? (nameP nm) with
  | none => rfl
  | some k => simp
end Go.Proofs.YtmfaakimhgkedaaGreatDoor
