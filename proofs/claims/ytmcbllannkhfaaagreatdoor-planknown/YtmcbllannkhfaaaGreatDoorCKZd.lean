/-
  What is lowered is valid: Enc, and all.
  PlanKnown.
  PlanKnown.
-/
import Derived.Test.YtmcbllannkhfaaaGreatDoorCKY
import Derived.Test.YtmcbllannkhfaaaGreatDoorCKQ
namespace Go.Proofs.YtmcbllannkhfaaaGreatDoor
open Go.RowKit
set_option maxRecDepth 1000000
set_option linter.unusedVariables false
set_option linter.unusedSimpArgs false
set_option maxHeartbeats 1000000
/-- A step that writes, its places at most m. -/
def WrS (bs : List BV) (m i : Nat) (s : IN) : Prop := (s = insV 23 [] ∨ (∃ a b c, s = insV 16 [a, b, c] ∧ FdOk a ∧ ((i : Int) < b ∧ b ≤ m) ∧ (c = 0 ∨ (1 ≤ c ∧ c ≤ 16))) ∨ (∃ a m k, s = insV 17 [a] ∧ TagOk a m k) ∨ (∃ a, s = insV 18 [a] ∧ 1 ≤ a ∧ a ≤ 16) ∨ (∃ k : Nat, s = insV 19 [(k : Int)] ∧ MsAt bs k) ∨ (∃ a b c m k, s = insV 20 [a, b, c] ∧ TagOk a m k ∧ OfKind bs b c) ∨ (∃ a b m k, s = insV 21 [a, b] ∧ TagOk a m k ∧ knum b = true) ∨ (∃ a b c d m k, s = insV 22 [a, b, c, d] ∧ TagOk a m k ∧ kkey b = true ∧ OfKind bs c d))
theorem WrS.at {bs : List BV} {m i n : Nat} {s : IN} (h : WrS bs m i s) (hn : m < n) (hi : i + 1 ≠ n) : WrP bs n i s := by
  refine .inr ⟨hi, ?_⟩
  rcases h with h | ⟨a, b, c, e, f, ⟨q1, q2⟩, q3⟩ | h
  · exact .inl h
  · exact .inr (.inl ⟨a, b, c, e, f, ⟨q1, by omega⟩, q3⟩)
  · exact .inr (.inr h)
theorem WrS.mono {bs : List BV} {m m' i : Nat} {s : IN} (h : WrS bs m i s) (hm : m ≤ m') : WrS bs m' i s := by
  rcases h with h | ⟨a, b, c, e, f, ⟨q1, q2⟩, q3⟩ | h
  · exact .inl h
  · exact .inr (.inl ⟨a, b, c, e, f, ⟨q1, by omega⟩, q3⟩)
  · exact .inr (.inr h)
theorem wrtL_wr (bs : List BV) (f : FT) (hf : FGood bs f) (m i : Nat) : ∀ s ∈ wrtL f, WrS bs m i s := by
  intro s hs
  have hr : f.ref = (f.ref.toNat : Int) := by have := hf.ok.ref; omega
  have ht := tagF f hf.ok
  unfold wrtL at hs
  split at hs
  · rename_i h5
    simp at hs
    subst hs
    exact .inr (.inr (.inr (.inr (.inr (.inr (.inr ⟨_, _, _, _, _, _, rfl, ht, hf.key h5, hf.of⟩))))))
  · split at hs
    · rename_i h3
      simp at hs
      subst hs
      exact .inr (.inr (.inr (.inr (.inr (.inr (.inl ⟨_, _, _, _, rfl, tag2 f hf.ok, hf.l3 h3⟩))))))
    · split at hs
      · simp at hs
        subst hs
        exact .inr (.inr (.inr (.inr (.inr (.inl ⟨_, _, _, _, _, rfl, ht, hf.of⟩)))))
      · simp only [List.mem_cons, List.not_mem_nil, or_false] at hs
        rcases hs with rfl | rfl
        · exact .inr (.inr (.inl ⟨_, _, _, rfl, ht⟩))
        · split
          · rename_i h17
            exact .inr (.inr (.inr (.inr (.inl ⟨f.ref.toNat, by rw [← hr], hf.k17 h17⟩))))
          · rename_i h17
            exact .inr (.inr (.inr (.inl ⟨f.kind, rfl, hf.ok.kind.1, by have := hf.ok.kind.2; omega⟩)))
def WrL (bs : List BV) (l : List IN) : Prop := ∀ i (h : i < l.length), WrS bs l.length i l[i]
theorem encS_wr (bs : List BV) (acc : List IN) (f : FT) (hf : FGood bs f) (h0 : f.lab = 0 → f.kind ≠ 17) (ha : WrL bs acc) : WrL bs (encS acc f) := by
  intro i h
  have hlen : (encS acc f).length = acc.length + 1 + (wrtL f).length := by unfold encS; simp; omega
  rw [hlen] at h ⊢
  have hE : encS acc f = acc ++ (insV 16 [f.num, ((acc.length + 1 + (wrtL f).length : Nat) : Int), if f.lab = 0 then f.kind else 0] :: wrtL f) := rfl
  simp only [hE]
  by_cases h1 : i < acc.length
  · rw [List.getElem_append_left h1]
    exact (ha i h1).mono (by omega)
  · rw [List.getElem_append_right (by omega)]
    obtain ⟨q, hq⟩ : ∃ q, i - acc.length = q := ⟨_, rfl⟩
    simp only [hq]
    cases q with
    | zero =>
      simp only [List.getElem_cons_zero]
      refine .inr (.inl ⟨f.num, _, _, rfl, hf.ok.num, ⟨by omega, by omega⟩, ?_⟩)
      by_cases hl : f.lab = 0
      · rw [if_pos hl]
        have := hf.ok.kind
        have := h0 hl
        omega
      · rw [if_neg hl]
        exact .inl rfl
    | succ q =>
      simp only [List.getElem_cons_succ]
      exact wrtL_wr bs f hf _ _ _ (List.getElem_mem _)
theorem encF_wr (bs : List BV) : ∀ (l : List FT), (∀ f ∈ l, FGood bs f ∧ (f.lab = 0 → f.kind ≠ 17)) → ∀ acc, WrL bs acc → WrL bs (l.foldl encS acc)
  | [], _, acc, h => h
  | f :: l, hl, acc, h => by
    rw [List.foldl_cons]
    exact encF_wr bs l (fun g hg => hl g (by simp [hg])) _ (encS_wr bs acc f (hl f (by simp)).1 (hl f (by simp)).2 h)
theorem encL_wr (bs : List BV) (fs : List FT) (hfs : ∀ f ∈ fs, FGood bs f ∧ (f.lab = 0 → f.kind ≠ 17)) : ∀ i (h : i < (encL fs).length), WrP bs (encL fs).length i (encL fs)[i] := by
  have h1 := encF_wr bs fs hfs [] (fun i h => by simp at h)
  intro i h
  unfold encL at h ⊢
  generalize fs.foldl encS [] = acc at *
  have hl : (acc ++ [insV 23 [], insV 24 []]).length = acc.length + 2 := by simp
  rw [hl] at h ⊢
  by_cases h2 : i < acc.length
  · rw [List.getElem_append_left h2]
    exact (h1 i h2).at (by omega) (by omega)
  · rw [List.getElem_append_right (by omega)]
    have : i - acc.length = 0 ∨ i - acc.length = 1 := by omega
    rcases this with e | e
    · simp only [e, List.getElem_cons_zero]
      exact WrS.at (m := 0) (.inl rfl) (by omega) (by omega)
    · simp only [e, List.getElem_cons_succ, List.getElem_cons_zero]
      exact .inl ⟨rfl, by omega⟩
theorem RdP.op3 {bs : List BV} {n i : Nat} {s : IN} (h : RdP bs n i s) : s.op ≠ 3 := by
  rcases h with ⟨e, _⟩ | ⟨_, h⟩
  · rw [e]; simp [insV]
  · rcases h with e | e | ⟨a, b, m, k, e, _⟩ | ⟨a, e, _⟩ | ⟨k, e, _⟩ | ⟨a, o, e, _, ho⟩ | ⟨a, c, k, e, _⟩ | ⟨a, b, c, e, _⟩ | ⟨a, b, c, d, e, _⟩
    all_goals rw [e]
    all_goals first | (simp [insV]; done) | (simp only [insV]; omega)
/-- The blocks of a good table, in whatever memory. -/
theorem lowVB {l : List TV} (hg : goodB l = true) {bs : List BV} (hb : bs.map BV.k = l.map (fun x => loBK x.t)) : ∀ x ∈ bs, VB bs x.k := by
  have hlen : bs.length = l.length := by have := congrArg List.length hb; simpa using this
  have hat : ∀ k (h : k < l.length) (h' : k < bs.length), bs[k].k = loBK l[k].t := fun k h h' => by
    have := List.getElem_of_eq hb (i := k) (by simpa using h')
    simpa using this
  have hsz : ∀ k (h : k < l.length), (loBK l[k].t).dec.length ≤ 100000 ∧ (loBK l[k].t).enc.length ≤ 100000 ∧ (loBK l[k].t).rows.length ≤ 100000 := fun k h => by
    have := lowBK_len l (k : Int)
    rw [lowBK_at hg h] at this
    exact this
  intro x hx
  obtain ⟨k, hk, rfl⟩ := List.getElem_of_mem hx
  have hkl : k < l.length := by omega
  rw [hat k hkl hk]
  cases he : l[k].t.enum with
  | true =>
    obtain ⟨h1, h2⟩ := goodP_enum hg hkl he
    have e2 : loBK l[k].t = ⟨[], [], rowsL l[k].t.ss⟩ := by unfold loBK; rw [if_pos he]
    have hl : (rowsL l[k].t.ss).length = l[k].t.ss.length := by rw [(rowsL_perm _).length_eq, List.length_map]
    have hst := goodP_at hg hkl
    unfold stepB typB at hst
    rw [he] at hst
    simp only [Bool.and_eq_true, if_true] at hst
    have hsy := hst.2.2.2.2
    rw [symB_is h1] at hsy
    simp only [Bool.and_eq_true, decide_eq_true_eq, List.all_eq_true] at hsy
    have hel : ∀ y ∈ rowsL l[k].t.ss, 0 ≤ y.tag ∧ y.tag ≤ 2147483647 ∧ y.pl = 0 := by
      intro y hy
      rw [(rowsL_perm _).mem_iff] at hy
      simp at hy
      obtain ⟨s, hs, rfl⟩ := hy
      exact ⟨(hsy.2.2.1 s hs).1, (hsy.2.2.1 s hs).2, rfl⟩
    have hnd : (l[k].t.ss.map SY.num).Nodup := by
      have hdf := hsy.2.2.2.2.2
      have hnd := (dfB_iff _ (fun x hx => by obtain ⟨y, _, rfl⟩ := List.mem_map.1 hx; trivial)).1 hdf
      rw [List.nodup_iff_pairwise_ne] at hnd ⊢
      exact (List.pairwise_map.1 hnd).imp (fun h e => h (by rw [e]))
    rw [e2]
    refine ⟨?_, by rw [← e2]; exact hsz k hkl, .inl ⟨rfl, rfl, ⟨by show 0 < (rowsL l[k].t.ss).length; omega, by show (rowsL l[k].t.ss).length ≤ 128; omega⟩, hel⟩⟩
    intro i j hij hj hi
    have hle := List.pairwise_iff_getElem.1 (rowsL_sort l[k].t.ss) i j hi hj hij
    have hnd2 : ((rowsL l[k].t.ss).map LN.tag).Nodup := by
      have e3 : (l[k].t.ss.map (fun s => (⟨s.num, 0⟩ : LN))).map LN.tag = l[k].t.ss.map SY.num := by rw [List.map_map]; rfl
      exact ((rowsL_perm l[k].t.ss).map LN.tag).nodup_iff.2 (by rw [e3]; exact hnd)
    have hne : (rowsL l[k].t.ss)[i].tag ≠ (rowsL l[k].t.ss)[j].tag := by
      have := List.pairwise_iff_getElem.1 hnd2 i j (by simpa using hi) (by simpa using hj) hij
      simpa using this
    show (rowsL l[k].t.ss)[i].tag < (rowsL l[k].t.ss)[j].tag
    have hle' : (rowsL l[k].t.ss)[i].tag ≤ (rowsL l[k].t.ss)[j].tag := hle
    omega
  | false =>
    obtain ⟨h1, h2, h3⟩ := goodP_msg hg hkl he
    have e2 : loBK l[k].t = ⟨decL l[k].t.fs, encL l[k].t.fs, []⟩ := by unfold loBK; rw [if_neg (by rw [he]; simp)]
    have hst := goodP_at hg hkl
    unfold stepB typB msgB at hst
    rw [he] at hst
    simp only [Bool.and_eq_true, decide_eq_true_eq] at hst
    have hms := hst.2.2.2
    simp only [Bool.false_eq_true, if_false, Bool.and_eq_true, decide_eq_true_eq, List.all_eq_true] at hms
    have hfg : ∀ f ∈ l[k].t.fs, FGood bs f ∧ (f.lab = 0 → f.kind ≠ 17) := by
      intro f hf
      have hfb := hms.2.2.1 f hf
      unfold fldB at hfb
      simp only [Bool.and_eq_true, decide_eq_true_eq] at hfb
      obtain ⟨hkd, hrf, hlb, hon, hky⟩ := hfb
      have hrr : f.kind = 16 ∨ f.kind = 17 → ∃ h : f.ref.toNat < l.length, l[f.ref.toNat].t.enum = decide (f.kind = 16) := by
        intro q
        unfold refB at hrf
        rw [if_pos q] at hrf
        cases hz : l[f.ref.toNat]? with
        | none => rw [hz] at hrf; cases hrf
        | some x =>
          rw [hz] at hrf
          simp only [Bool.and_eq_true, decide_eq_true_eq, beq_iff_eq] at hrf
          obtain ⟨hlt, hx⟩ := List.getElem?_eq_some_iff.1 hz
          exact ⟨hlt, by rw [hx]; exact hrf.2⟩
      refine ⟨⟨h3 f hf, fun q => ?_, fun q => ?_, fun q1 q2 => ?_, fun q => ?_, fun q => ?_⟩, fun q => ?_⟩
      · obtain ⟨h, en⟩ := hrr (.inl q)
        rw [decide_eq_true q] at en
        refine ⟨by omega, ?_⟩
        rw [hat _ h (by omega)]
        unfold loBK
        rw [if_pos en]
        exact ⟨rfl, rfl⟩
      · obtain ⟨h, en⟩ := hrr (.inr q)
        rw [decide_eq_false (by omega)] at en
        refine ⟨by omega, ?_⟩
        rw [hat _ h (by omega)]
        have hs := hsz _ h
        refine ⟨?_, hs.1, hs.2.1⟩
        unfold loBK
        rw [if_neg (by rw [en]; simp)]
        obtain ⟨r, er⟩ := decL_shape l[f.ref.toNat].t.fs
        rw [er]
        simp
      · unfold refB at hrf
        rw [if_neg (by omega), decide_eq_true_eq] at hrf
        exact hrf
      · unfold keyB at hky
        rw [if_pos q] at hky
        exact hky
      · unfold labB at hlb
        rw [if_neg (by omega), if_pos q] at hlb
        exact hlb
      · unfold labB at hlb
        rw [if_pos q, decide_eq_true_eq] at hlb
        exact hlb
    have hrd := decL_rd bs l[k].t.fs (fun f hf => (hfg f hf).1)
    have hwr := encL_wr bs l[k].t.fs hfg
    obtain ⟨r, er⟩ := decL_shape l[k].t.fs
    rw [e2]
    refine ⟨fun i j _ hj => by simp at hj, by rw [← e2]; exact hsz k hkl, .inr ⟨rfl, ?_, ?_, hrd, ?_, ?_, hwr⟩⟩
    · show 0 < (decL l[k].t.fs).length
      rw [er]; simp
    · show 0 < (encL l[k].t.fs).length
      unfold encL; simp
    · show ∃ h : (decL l[k].t.fs).length - 1 < (decL l[k].t.fs).length, (decL l[k].t.fs)[(decL l[k].t.fs).length - 1].op = 4
      refine ⟨by rw [er]; simp, ?_⟩
      simp only [er]
      simp [insV]
    · intro y hy
      obtain ⟨i, hi, rfl⟩ := List.getElem_of_mem hy
      exact (hrd i hi).op3
def oneBK : BK := ⟨[], [], [⟨0, 0⟩]⟩
theorem simE_bk (h : Nat) : lowBK (simL h) 0 = oneBK := by kernel_rfl
theorem simNo (h : Nat) : lowE (simL h) 9 = 18 := by kernel_rfl
theorem simYes (h : Nat) : lowE (simL h) 0 = 0 := by kernel_rfl
theorem simPE (h : Nat) : lowPE (simL h) = 0 := by kernel_rfl
theorem simP_len (h : Nat) : (lowP (simL h)).length = 2 := by kernel_rfl
theorem simP (h : Nat) : lowP (simL h) = (simL h).map (fun x => loBK x.t) := by unfold lowP; rw [if_pos (simGood h)]
/-- The example's table, somewhere. -/
def SimA (w : World) (e : Ending) (w' : World) : Prop := ∃ (a : Option Addr) (tb : List TV), e = .returned (.agg #[.slice a tb.length 2]) ∧ Hid (TbR w' (.slice a tb.length 2) tb ∧ ∃ h, tb = simL h) ∧ Hid (Below w.heap.size w w')
theorem simA (w : World) : Calls Tryz.prog 10 #[] w (SimA w) := (simpleW w).mono (by
  rintro e w1 ⟨rfl, ht, hb1⟩
  exact ⟨_, _, rfl, hid ⟨ht, _, rfl⟩, hid hb1⟩)
def L0A (w : World) (e : Ending) (w' : World) : Prop := ∃ (da ea ra : Option Addr) (n1 dc n2 ec n3 rc : Nat), e = .returned (.tuple #[.agg #[.slice da n1 dc, .slice ea n2 ec, .slice ra n3 rc], .int .i64 0]) ∧ Hid (n1 = 0 ∧ n2 = 0 ∧ n3 = 1 ∧ BkR w' oneBK (.slice da n1 dc) (.slice ea n2 ec) (.slice ra n3 rc)) ∧ Hid (Below w.heap.size w w')
theorem l0A (w : World) (m : Int) (hm : w.cell? ⟨0, 0, none⟩ = some (.int .i64 m)) (a : Option Addr) (tb : List TV) (ht : TbR w (.slice a tb.length 2) tb ∧ ∃ h, tb = simL h) : Calls Tryz.prog 9 #[.agg #[.slice a tb.length 2], .int .i64 0] w (L0A w) := by
  obtain ⟨ht, h, hh⟩ := ht
  have e0 : lowE tb 0 = 0 := by rw [hh]; exact simYes h
  have e1 : lowBK tb 0 = oneBK := by rw [hh]; exact simE_bk h
  refine (lowerTypeT w tb a 2 ht (by rw [hh]; exact simOk h) m hm 0).mono ?_
  rintro e w2 ⟨da, dc, ea, ec, ra, rc, rfl, ho, hb2⟩
  rw [e0]
  have hb := ho.row
  rw [e1] at hb
  exact ⟨da, ea, ra, _, dc, _, ec, _, rc, by rw [e1]; rfl, hid ⟨rfl, rfl, rfl, hb⟩, hid hb2⟩
def L9A (w : World) (e : Ending) (w' : World) : Prop := ∃ (da ea ra : Option Addr) (n1 dc n2 ec n3 rc : Nat), e = .returned (.tuple #[.agg #[.slice da n1 dc, .slice ea n2 ec, .slice ra n3 rc], .int .i64 18]) ∧ Hid (Below w.heap.size w w')
theorem l9A (w : World) (m : Int) (hm : w.cell? ⟨0, 0, none⟩ = some (.int .i64 m)) (a : Option Addr) (tb : List TV) (ht : TbR w (.slice a tb.length 2) tb ∧ ∃ h, tb = simL h) : Calls Tryz.prog 9 #[.agg #[.slice a tb.length 2], .int .i64 9] w (L9A w) := by
  obtain ⟨ht, h, hh⟩ := ht
  have e0 : lowE tb 9 = 18 := by rw [hh]; exact simNo h
  refine (lowerTypeT w tb a 2 ht (by rw [hh]; exact simOk h) m hm 9).mono ?_
  rintro e w2 ⟨da, dc, ea, ec, ra, rc, rfl, ho, hb2⟩
  rw [e0]
  exact ⟨_, _, _, _, _, _, _, _, _, rfl, hid hb2⟩
def LPA (w : World) (e : Ending) (w' : World) : Prop := ∃ (a : Option Addr) (n c : Nat), e = .returned (.tuple #[.agg #[.slice a n c], .int .i64 0]) ∧ Hid (n = 2 ∧ ∃ xs : List BV, n = xs.length ∧ PgR w' (.slice a xs.length c) xs ∧ ∀ x ∈ xs, VB xs x.k) ∧ Hid (Below w.heap.size w w')
theorem lPA (w : World) (m : Int) (hm : w.cell? ⟨0, 0, none⟩ = some (.int .i64 m)) (a : Option Addr) (tb : List TV) (ht : TbR w (.slice a tb.length 2) tb ∧ ∃ h, tb = simL h) : Calls Tryz.prog 11 #[.agg #[.slice a tb.length 2]] w (LPA w) := by
  obtain ⟨ht, h, hh⟩ := ht
  have e0 : lowPE tb = 0 := by rw [hh]; exact simPE h
  refine (lowerT w tb a 2 ht (by rw [hh]; exact simOk h) m hm).mono ?_
  rintro e w2 ⟨a, c, xs, rfl, hx, ho, hb2⟩
  rw [e0]
  rw [hh] at hx
  refine ⟨a, _, c, rfl, hid ⟨?_, xs, rfl, ho.prog, lowVB (simGood h) (hx.trans (simP h))⟩, hid hb2⟩
  have := congrArg List.length hx
  rw [List.length_map] at this
  exact this.trans (simP_len h)
/-- Valid, of such a program. -/
theorem vPA (w : World) (a : Option Addr) (n c : Nat) (h : n = 2 ∧ ∃ xs : List BV, n = xs.length ∧ PgR w (.slice a xs.length c) xs ∧ ∀ x ∈ xs, VB xs x.k) : Calls Tryz.prog 14 #[.agg #[.slice a n c]] w fun e w' => e = .returned (.bool true) ∧ Below w.heap.size w w' := by
  obtain ⟨hn, xs, rfl, hp, hv⟩ := h
  exact validT w xs a c hp (by rw [hn]; decide) hv
theorem v0A (w : World) : Calls Tryz.prog 14 #[.agg #[.slice none 0 0]] w fun e w' => e = .returned (.bool true) ∧ Below w.heap.size w w' :=
  validT w [] none 0 ⟨rowS_nil _ _ _, fun x hx => by cases hx⟩ (by decide) (fun x hx => by cases hx)
/-- SameBlock, of that block and its own kind. -/
theorem sbA (w : World) (da ea ra : Option Addr) (n1 dc n2 ec n3 rc : Nat) (h : n1 = 0 ∧ n2 = 0 ∧ n3 = 1 ∧ BkR w oneBK (.slice da n1 dc) (.slice ea n2 ec) (.slice ra n3 rc)) (b : Nat) (B : Blk w b 41 #[.int .i64 0, .int .i64 0]) : Calls Tryz.prog 13 #[.agg #[.slice da n1 dc, .slice ea n2 ec, .slice ra n3 rc], .agg #[.slice none 0 0, .slice none 0 0, .slice (some ⟨b, 0, none⟩) 1 1]] w fun e w' => e = .returned (.bool true) ∧ Below w.heap.size w w' := by
  obtain ⟨rfl, rfl, rfl, h⟩ := h
  have hB : BkR w oneBK (.slice none 0 0) (.slice none 0 0) (.slice (some ⟨b, 0, none⟩) 1 1) := ⟨rowS_nil _ _ _, rowS_nil _ _ _, rowOf B 2 1 _ rfl rfl (by decide)⟩
  refine (sameBlockD w oneBK oneBK da ea ra none none (some ⟨b, 0, none⟩) dc ec rc 0 0 1 h hB).mono ?_
  rintro e w4 ⟨r, rfl, hr, hbx⟩
  obtain rfl : r = true := hr.2 rfl
  exact ⟨rfl, hbx⟩
theorem planKnownW (w : World) (m : Int) (hm : w.cell? ⟨0, 0, none⟩ = some (.int .i64 m)) : Calls Tryz.prog 3 #[] w fun e w' => e = .returned (.bool true) ∧ Below w.heap.size w w' := by
  have HM : Hid (∀ W, Below w.heap.size w W → W.cell? ⟨0, 0, none⟩ = some (.int .i64 m)) := hid fun W hW => cell_below hm hW
  clear hm
  go_enter Tryz.func3, Tryz.ntmps3
  go_wp2_with fail
  refine (simA _).mono ?_
  rintro e w1 ⟨a1, tb1, rfl, ht, hb⟩
  go_wp2_with fail
  refine (l0A _ m (HM.out _ hb.out) _ _ ht.out).mono ?_
  rintro e w2 ⟨da, ea, ra, n1, dc, n2, ec, n3, rc, rfl, ho, hb2⟩
  replace hb : Hid (Below w.heap.size w w2) := hid (bl_then hb.out hb2.out)
  clear ht hb2
  have BE : Hid (Blk (w2.alloc (.cells #[.slice da n1 dc, .slice ea n2 ec, .slice ra n3 rc] 25)) w2.heap.size 25 #[.slice da n1 dc, .slice ea n2 ec, .slice ra n3 rc]) := hid (Blk.new _ _ _)
  go_wp2_with fail
  refine (simA _).mono ?_
  rintro e w3 ⟨a2, tb2, rfl, ht, hb3⟩
  replace BE := hid (BE.out.kept hb3.out)
  replace ho := hid (And.intro ho.out.1 (And.intro ho.out.2.1 (And.intro ho.out.2.2.1 ((ho.out.2.2.2.kept (below_alloc _)).kept hb3.out))))
  replace hb : Hid (Below w.heap.size w w3) := hid (bl_then (bl_alloc hb.out _) hb3.out)
  clear hb3
  go_wp2_with fail
  refine (l9A _ m (HM.out _ hb.out) _ _ ht.out).mono ?_
  rintro e w4 ⟨d9, e9, r9, m1, d8, m2, e8, m3, r8, rfl, hb4⟩
  replace BE := hid (BE.out.kept hb4.out)
  replace ho := hid (And.intro ho.out.1 (And.intro ho.out.2.1 (And.intro ho.out.2.2.1 (ho.out.2.2.2.kept hb4.out))))
  replace hb : Hid (Below w.heap.size w w4) := hid (bl_then hb.out hb4.out)
  clear ht hb4
  go_wp2_with fail
  refine (simA _).mono ?_
  rintro e w5 ⟨a3, tb3, rfl, ht, hb3⟩
  replace BE := hid ((BE.out.kept (below_alloc _)).kept hb3.out)
  replace ho := hid (And.intro ho.out.1 (And.intro ho.out.2.1 (And.intro ho.out.2.2.1 ((ho.out.2.2.2.kept (below_alloc _)).kept hb3.out))))
  replace hb : Hid (Below w.heap.size w w5) := hid (bl_then (bl_alloc hb.out _) hb3.out)
  clear hb3
  go_wp2_with fail
  refine (lPA _ m (HM.out _ hb.out) _ _ ht.out).mono ?_
  rintro e w6 ⟨pa, pn, pc, rfl, hp, hb4⟩
  replace BE := hid (BE.out.kept hb4.out)
  replace ho := hid (And.intro ho.out.1 (And.intro ho.out.2.1 (And.intro ho.out.2.2.1 (ho.out.2.2.2.kept hb4.out))))
  replace hb : Hid (Below w.heap.size w w6) := hid (bl_then hb.out hb4.out)
  clear ht hb4
  replace BE := hid (BE.out.kept (below_alloc (.cells #[.slice pa pn pc] 35)))
  have BP : Hid (Blk (w6.alloc (.cells #[.slice pa pn pc] 35)) w6.heap.size 35 #[.slice pa pn pc]) := hid (Blk.new _ _ _)
  replace ho := hid (And.intro ho.out.1 (And.intro ho.out.2.1 (And.intro ho.out.2.2.1 (ho.out.2.2.2.kept (below_alloc (.cells #[.slice pa pn pc] 35))))))
  replace hp : Hid (pn = 2 ∧ ∃ xs : List BV, pn = xs.length ∧ PgR (w6.alloc (.cells #[.slice pa pn pc] 35)) (.slice pa xs.length pc) xs ∧ ∀ x ∈ xs, VB xs x.k) := hid (by
    obtain ⟨h1, xs, h2, h3, h4⟩ := hp.out
    exact ⟨h1, xs, h2, h3.kept (below_alloc _), h4⟩)
  replace hb : Hid (Below w.heap.size w (w6.alloc (.cells #[.slice pa pn pc] 35))) := hid (bl_alloc hb.out _)
  go_wp2_with fail
  generalize w6.alloc (.cells #[.slice pa pn pc] 35) = W at *
  generalize w2.heap.size = q at *
  generalize w6.heap.size = p at *
  refine (awakeW W m (HM.out _ hb.out)).mono ?_
  rintro e w7 ⟨rfl, hb7⟩
  replace BE := hid (BE.out.kept hb7)
  replace BP := hid (BP.out.kept hb7)
  replace ho := hid (And.intro ho.out.1 (And.intro ho.out.2.1 (And.intro ho.out.2.2.1 (ho.out.2.2.2.kept hb7))))
  replace hp : Hid (pn = 2 ∧ ∃ xs : List BV, pn = xs.length ∧ PgR w7 (.slice pa xs.length pc) xs ∧ ∀ x ∈ xs, VB xs x.k) := hid (by
    obtain ⟨h1, xs, h2, h3, h4⟩ := hp.out
    exact ⟨h1, xs, h2, h3.kept hb7, h4⟩)
  replace hb : Hid (Below w.heap.size w w7) := hid (bl_then hb.out hb7)
  clear hb7
  have e0 := BE.out.cell 0 _ rfl
  have e1 := BE.out.cell 1 _ rfl
  have e2 := BE.out.cell 2 _ rfl
  simp only [List.getElem_toArray, List.getElem_cons_succ, List.getElem_cons_zero] at e0 e1 e2
  go_wp2_with fail
  refine (sbA _ da ea ra n1 dc n2 ec n3 rc (And.intro ho.out.1 (And.intro ho.out.2.1 (And.intro ho.out.2.2.1 (ho.out.2.2.2.kept (below_alloc _))))) _ (Blk.new _ _ _)).mono ?_
  rintro e w8 ⟨rfl, hb8⟩
  replace BP := hid ((BP.out.kept (below_alloc _)).kept hb8)
  replace hp : Hid (pn = 2 ∧ ∃ xs : List BV, pn = xs.length ∧ PgR w8 (.slice pa xs.length pc) xs ∧ ∀ x ∈ xs, VB xs x.k) := hid (by
    obtain ⟨h1, xs, h2, h3, h4⟩ := hp.out
    exact ⟨h1, xs, h2, (h3.kept (below_alloc _)).kept hb8, h4⟩)
  replace hb : Hid (Below w.heap.size w w8) := hid (bl_then (bl_alloc hb.out _) hb8)
  clear hb8 e0 e1 e2 BE ho
  go_wp2_with fail
  refine (v0A _).mono ?_
  rintro e w9 ⟨rfl, hb9⟩
  replace BP := hid (BP.out.kept hb9)
  replace hp : Hid (pn = 2 ∧ ∃ xs : List BV, pn = xs.length ∧ PgR w9 (.slice pa xs.length pc) xs ∧ ∀ x ∈ xs, VB xs x.k) := hid (by
    obtain ⟨h1, xs, h2, h3, h4⟩ := hp.out
    exact ⟨h1, xs, h2, h3.kept hb9, h4⟩)
  replace hb : Hid (Below w.heap.size w w9) := hid (bl_then hb.out hb9)
  clear hb9
  have e0 := BP.out.cell 0 _ rfl
  simp only [List.getElem_toArray, List.getElem_cons_succ, List.getElem_cons_zero] at e0
  go_wp2_with fail
  refine (vPA _ pa pn pc hp.out).mono ?_
  rintro e wa ⟨rfl, hba⟩
  replace e0 := cell_below e0 hba
  replace hb : Hid (Below w.heap.size w wa) := hid (bl_then hb.out hba)
  have h2 : pn = 2 := hp.out.1
  clear hba BP hp HM
  subst h2
  go_wp2
  go_ret
  exact ⟨rfl, hb.out⟩
end Go.Proofs.YtmcbllannkhfaaaGreatDoor
