/-
  Words as Split tells them; what a form does behind a fault.
  Rows of structs in memory: what can be read, what is one's own; trees.
  The document's small forms over the words that are left.
  The document's take: a word of a kind.
  The document's forms: a type, a name and its number.
-/
import Derived.Test.YtidimdbnnnpplaaGreatDoorCYL
import Derived.Test.YtidimdbnnnpplaaGreatDoorCG
namespace Go.Proofs.YtidimdbnnnpplaaGreatDoor
open Go.RowKit
set_option maxRecDepth 1000000
set_option linter.unusedVariables false
/-- The end's word is the last, and no other. -/
def wfL : List Mw → Prop
  | [] => False
  | x :: r => (x.kind = 5 ∧ r = []) ∨ (x.kind ≠ 5 ∧ wfL r)
structure okW (m : Mw) : Prop where
  bd : ∀ x ∈ m.s, 0 ≤ x ∧ x ≤ 255
  sl : m.s.length ≤ 65536
  own : m.kind = 1 ∨ m.kind = 4 ∨ m.s = [] ∨ ∃ c r, m.s = c :: r ∧ (digB c = true ∨ c = 34)
structure Ws (l : List Mw) : Prop where
  wf : wfL l
  ok : ∀ m ∈ l, okW m
  len : l.length ≤ 70000
theorem Ws.ne {l : List Mw} (h : Ws l) : ∃ x r, l = x :: r := by
  cases l with
  | nil => exact h.wf.elim
  | cons x r => exact ⟨x, r, rfl⟩
theorem Ws.tail {l : List Mw} (h : Ws l) (hk : (l.headD zM).kind ≠ 5) : Ws l.tail := by
  obtain ⟨x, r, rfl⟩ := h.ne
  refine ⟨?_, fun m hm => h.ok m (List.mem_cons_of_mem _ hm), by have := h.len; simp at this ⊢; omega⟩
  rcases h.wf with ⟨h1, _⟩ | ⟨_, h2⟩
  · exact absurd h1 hk
  · exact h2
theorem okW_z : okW zM := ⟨by simp [zM], by simp [zM], .inr (.inr (.inl rfl))⟩
theorem Ws.hd {s : PS} (h : Ws s.l) : okW (hdM s) := by
  obtain ⟨x, r, e⟩ := h.ne
  unfold hdM
  rw [e]
  exact h.ok x (by rw [e]; simp)
/-- A word that stands for itself. -/
def plainW (x : List Int) : Prop := (∀ c ∈ x, 0 ≤ c ∧ c ≤ 255) ∧ ∃ c r, x = c :: r ∧ digB c = false ∧ c ≠ 34
theorem plain_is {m : Mw} (h : okW m) {x : List Int} (hx : plainW x) (e : m.s = x) : m.kind = 1 ∨ m.kind = 4 := by
  obtain ⟨c, r, e2, hd, h34⟩ := hx.2
  rcases h.own with h1 | h1 | h1 | ⟨c', r', h1, h2⟩
  · exact .inl h1
  · exact .inr h1
  · rw [e, e2] at h1; cases h1
  · rw [e, e2] at h1
    cases h1
    rcases h2 with h2 | h2
    · rw [hd] at h2; cases h2
    · exact absurd h2 h34
theorem is_plain {s : PS} (h0 : s.cd = 0) (h : okW (hdM s)) {x : List Int} (hx : plainW x) : isM s x = decide ((hdM s).s = x) := by
  unfold isM
  by_cases e : (hdM s).s = x
  · have := plain_is h hx e
    simp [h0, e, this]
  · simp [e]
-- behind a fault
section
variable {s : PS} (h : s.cd ≠ 0)
include h
theorem is_bad (x : List Int) : isM s x = false := by unfold isM; simp [h]
theorem eat_bad (x : List Int) : eatM s x = s := by unfold eatM; rw [if_neg h]
theorem take_bad (k : Int) : takeM s k = (zM, s) := by unfold takeM; rw [if_neg h]
theorem typ_bad : (typM s).2.2 = s := by
  unfold typM typL
  simp only [take_bad h]
  rw [whM_stop (show typC (zM.s, s) = false from is_bad h _)]
theorem nam_bad : (namM s).2.2 = s := by unfold namM; simp only [take_bad h, eat_bad h]
theorem fldA_bad (label : Int) (mark : Int × Int) : (fldA s label mark).2 = s := by unfold fldA; simp only [typ_bad h, nam_bad h]
theorem fld_bad (label : Int) (mark : Int × Int) : (fldM s label mark).2 = s := by
  unfold fldM
  rw [fldA_bad h]
  rw [if_neg (by simp [is_bad h])]
  simp only [eat_bad h]
theorem endC_bad : endC s = false := by unfold endC; simp [h]
theorem oneL_bad (i : Int) (fs : List MF) : oneL i (fs, s) = (fs, s) := by unfold oneL; exact whM_stop (endC_bad h)
theorem symL_bad (l : List MS) : symL (l, s) = (l, s) := by unfold symL; exact whM_stop (endC_bad h)
theorem rngL_bad (l : List MR) : rngL (l, s) = (l, s) := by unfold rngL; exact whM_stop (is_bad h _)
theorem memL_bad (sub : PS → MD × PS) (d : MD) : memL sub (d, s) = (d, s) := by unfold memL; exact whM_stop (endC_bad h)
theorem one_bad (i : Int) : (oneM i s).2 = s := fld_bad h _ _
theorem rng_bad : (rngM s).2 = s := by
  unfold rngM
  simp only [take_bad h, is_bad h]
  rfl
end
theorem bad_cd {s : PS} {c : Int} (hc : c ≠ 0) : (badM s c).cd ≠ 0 := by
  unfold badM
  by_cases h : s.cd = 0
  · rw [if_pos h]; exact hc
  · rw [if_neg h]; exact h
-- the words of a text
theorem tok_opens {xs : List Int} {i e : Nat} {k n : Int} {b : List Int} (h : tok xs i = .word k e n b) : k = 1 ∨ k = 4 ∨ (digB (bt xs i) = true ∨ bt xs i = 34) := by
  unfold tok at h
  split at h
  · cases h
  · split at h
    · unfold tokC at h
      split at h
      · cases h
      · split at h
        · split at h <;> cases h
        · cases h
    · split at h
      · cases h; exact .inl rfl
      · split at h
        · exact .inr (.inr (.inl (by assumption)))
        · split at h
          · exact .inr (.inr (.inr (by assumption)))
          · split at h
            · cases h; exact .inr (.inl rfl)
            · cases h
theorem cut_opens {xs : List Int} {a b : Nat} (h : a < b) (hb : b ≤ xs.length) : ∃ r, cut xs a b = bt xs a :: r := by
  refine ⟨cut xs (a + 1) b, ?_⟩
  unfold cut bt
  have h1 : a < (xs.take b).length := by simp; omega
  rw [List.drop_eq_getElem_cons h1]
  have h2 : a < xs.length := by omega
  simp [h2]
theorem ch_ws {xs : List Int} (hx : ∀ x ∈ xs, 0 ≤ x ∧ x ≤ 255) (hl : xs.length ≤ 65536) : ∀ (l : List Wd) (i : Nat), Ch xs i l → wfL (l.map (mw xs)) ∧ (∀ m ∈ l.map (mw xs), okW m) ∧ l.length + i ≤ xs.length + 1
  | [], _, h => h.elim
  | x :: r, i, h => by
    have hsl : (cut xs x.st x.en).length ≤ 65536 := by unfold cut; simp; omega
    rcases h with ⟨rfl, rfl, h3⟩ | ⟨h1, h2, h3, h4, h5, h6, hc⟩
    · refine ⟨.inl ⟨rfl, rfl⟩, fun m hm => ?_, by simp; omega⟩
      simp at hm
      subst hm
      exact ⟨cut_bd hx _ _, hsl, .inr (.inr (.inl (by unfold mw; simp only []; rw [cut_nil])))⟩
    · obtain ⟨g1, g2, g3⟩ := ch_ws hx hl r _ hc
      refine ⟨.inr ⟨by unfold mw; simp only []; omega, g1⟩, fun m hm => ?_, by simp; omega⟩
      simp only [List.map_cons, List.mem_cons] at hm
      rcases hm with rfl | hm
      · refine ⟨cut_bd hx _ _, hsl, ?_⟩
        obtain ⟨q, hq⟩ := cut_opens h2 h3
        rcases tok_opens h6 with e | e | e
        · exact .inl e
        · exact .inr (.inl e)
        · exact .inr (.inr (.inr ⟨_, q, hq, e⟩))
      · exact g2 m hm
theorem outE_ws {xs : List Int} (hx : ∀ x ∈ xs, 0 ≤ x ∧ x ≤ 255) (h : (outE xs).2.1 = 0) : Ws (outE xs).1 := by
  unfold outE at h ⊢
  by_cases h1 : 65536 < xs.length
  · rw [if_pos h1] at h; exact absurd h (by decide)
  · rw [if_neg h1] at h ⊢
    by_cases h2 : (lx xs).code = 0
    · rw [if_pos h2]
      obtain ⟨g1, g2, g3⟩ := ch_ws hx (by omega) _ _ (lx_ch h2)
      exact ⟨g1, g2, by simp; omega⟩
    · rw [if_neg h2] at h; exact absurd h h2
set_option maxHeartbeats 1000000
/-- A row of structs of k cells that can be read, in a block that Z names. -/
structure RowV (w : World) (Z : Nat → Prop) (k : Nat) (a : Option Addr) (len cap : Nat) (fl : List Value) : Prop where
  length : fl.length = len * k
  le : len ≤ cap
  max : cap ≤ 9223372036854775807
  cells : (len = 0 ∧ (a = none → cap = 0)) ∨ ∃ b off, a = some ⟨b, off, none⟩ ∧ Z b ∧ ∀ j u, fl[j]? = some u → w.cell? ⟨b, off + j, none⟩ = some u
theorem RowV.keep {w w' : World} {Z f : Nat → Prop} {k : Nat} {a : Option Addr} {len cap : Nat} {fl : List Value} (h : RowV w Z k a len cap fl) (g : Keep f w w') (hf : ∀ k, Z k → f k) : RowV w' Z k a len cap fl := by
  refine ⟨h.length, h.le, h.max, ?_⟩
  rcases h.cells with h0 | ⟨b, off, rfl, hz, hc⟩
  · exact .inl h0
  · refine .inr ⟨b, off, rfl, hz, fun j u hu => ?_⟩
    have h1 := hc j u hu
    have hlt := World.block_lt_of_cell? _ _ h1
    rw [← h1]
    simp only [World.cell?]
    rw [g.block b hlt (hf b hz)]
theorem RowV.weak {w : World} {Z Z' : Nat → Prop} {k : Nat} {a : Option Addr} {len cap : Nat} {fl : List Value} (h : RowV w Z k a len cap fl) (hz : ∀ k, Z k → Z' k) : RowV w Z' k a len cap fl :=
  ⟨h.length, h.le, h.max, h.cells.imp id fun ⟨b, off, e, h1, h2⟩ => ⟨b, off, e, hz b h1, h2⟩⟩
def RowS (w : World) (Z : Nat → Prop) (k : Nat) (v : Value) (n : Nat) (fl : List Value) : Prop := ∃ a cap, v = .slice a n cap ∧ RowV w Z k a n cap fl
theorem RowS.keep {w w' : World} {Z f : Nat → Prop} {k : Nat} {v : Value} {n : Nat} {fl : List Value} (h : RowS w Z k v n fl) (g : Keep f w w') (hf : ∀ k, Z k → f k) : RowS w' Z k v n fl := by
  obtain ⟨a, c, e, h⟩ := h
  exact ⟨a, c, e, h.keep g hf⟩
theorem RowS.weak {w : World} {Z Z' : Nat → Prop} {k : Nat} {v : Value} {n : Nat} {fl : List Value} (h : RowS w Z k v n fl) (hz : ∀ k, Z k → Z' k) : RowS w Z' k v n fl := by
  obtain ⟨a, c, e, h⟩ := h
  exact ⟨a, c, e, h.weak hz⟩
theorem own_row {w : World} {base e size n : Nat} {v : Value} {fl : List Value} (h : w.ownsRow base e size v n fl) {Z : Nat → Prop} (hz : ∀ k, v.ownBlock = some k → Z k) : RowS w Z size v n fl := by
  have hl := h.1
  rcases h.2 with ⟨rfl, h0⟩ | ⟨g, cap, cur, rfl, hbg, hg, hnc, hcm, hcs, htake⟩
  · subst h0
    exact ⟨none, 0, rfl, hl, Nat.le_refl _, by omega, .inl ⟨rfl, fun _ => rfl⟩⟩
  · refine ⟨_, cap, rfl, hl, hnc, by unfold maxLen at hcm; omega, .inr ⟨g, 0, rfl, hz g rfl, fun j u hu => ?_⟩⟩
    have := h.cells (g := g) rfl j u hu
    have hadd : (⟨g, 0, none⟩ : Addr).add j = ⟨g, 0 + j, none⟩ := by unfold Addr.add; split <;> simp_all
    rwa [hadd] at this
theorem own_type {w : World} {base e size n k : Nat} {v : Value} {fl : List Value} (h : w.ownsRow base e size v n fl) (hk : v.ownBlock = some k) : base ≤ k ∧ k < w.heap.size ∧ ∃ cur, w.heap[k]? = some (.cells cur e (0, 0)) := by
  rcases h.2 with ⟨rfl, h0⟩ | ⟨g, cap, cur, rfl, hbg, hg, hnc, hcm, hcs, htake⟩
  · simp [Value.ownBlock] at hk
  · simp [Value.ownBlock] at hk
    subst hk
    exact ⟨hbg, (Array.getElem?_eq_some_iff.1 hg).1, cur, hg⟩
theorem own_apart {w : World} {base e1 e2 s1 s2 n1 n2 : Nat} {v1 v2 : Value} {f1 f2 : List Value} (h1 : w.ownsRow base e1 s1 v1 n1 f1) (h2 : w.ownsRow base e2 s2 v2 n2 f2) (hne : e1 ≠ e2) {k : Nat} (hk : v1.ownBlock = some k) : v2.ownBlock ≠ some k := by
  intro hk2
  obtain ⟨_, _, c1, g1⟩ := own_type h1 hk
  obtain ⟨_, _, c2, g2⟩ := own_type h2 hk2
  rw [g1] at g2
  cases g2
  exact hne rfl
theorem flatM_get {α : Type} {g : α → List Value} {k : Nat} (hk : ∀ x, (g x).length = k) : ∀ (l : List α) (i j : Nat) (x : α) (u : Value), l[i]? = some x → (g x)[j]? = some u → (l.flatMap g)[i * k + j]? = some u
  | [], i, j, x, u, h, _ => by simp at h
  | y :: l, 0, j, x, u, h, hu => by
    simp at h
    subst h
    have hj : j < (g y).length := (List.getElem?_eq_some_iff.1 hu).1
    rw [List.flatMap_cons, Nat.zero_mul, Nat.zero_add, List.getElem?_append_left hj]
    exact hu
  | y :: l, i + 1, j, x, u, h, hu => by
    have h' : l[i]? = some x := by simpa using h
    rw [List.flatMap_cons, List.getElem?_append_right (by rw [hk, Nat.add_mul]; omega), hk]
    rw [show (i + 1) * k + j - k = i * k + j by rw [Nat.add_mul]; omega]
    exact flatM_get hk l i j x u h' hu
theorem flatM_len {α : Type} {g : α → List Value} {k : Nat} (hk : ∀ x, (g x).length = k) : ∀ (l : List α), (l.flatMap g).length = l.length * k
  | [] => by simp
  | y :: l => by rw [List.flatMap_cons, List.length_append, hk, flatM_len hk l, List.length_cons, Nat.add_mul]; omega
def cF (f : MF) : List Value := [.string (strOfNums f.name), .string (strOfNums f.ty), .string (strOfNums f.key), .int .u64 f.num, .int .i64 f.label, .int .i64 f.packed, .int .i64 f.oneof, .int .i64 f.at1.1, .int .i64 f.at1.2, .int .i64 f.nat1.1, .int .i64 f.nat1.2, .int .i64 f.tat.1, .int .i64 f.tat.2, .int .i64 f.mat.1, .int .i64 f.mat.2]
def cO (f : MO) : List Value := [.string (strOfNums f.name), .int .i64 f.at1.1, .int .i64 f.at1.2]
def cR (f : MR) : List Value := [.int .u64 f.low, .int .u64 f.high, .int .i64 f.at1.1, .int .i64 f.at1.2]
def cS (f : MS) : List Value := [.string (strOfNums f.name), .int .u64 f.num, .int .i64 f.at1.1, .int .i64 f.at1.2, .int .i64 f.nat1.1, .int .i64 f.nat1.2]
/-- A declaration and its five lists' values: fields, oneofs, declarations, ranges, symbols. -/
structure DV where
  d : MD
  f : Value
  o : Value
  dd : Value
  r : Value
  s : Value
def cD (x : DV) : List Value := [.bool x.d.enum, .string (strOfNums x.d.name), .int .i64 x.d.at1.1, .int .i64 x.d.at1.2, x.f, x.o, x.dd, x.r, x.s]
theorem cF_len (x : MF) : (cF x).length = 15 := rfl
theorem cO_len (x : MO) : (cO x).length = 3 := rfl
theorem cR_len (x : MR) : (cR x).length = 4 := rfl
theorem cS_len (x : MS) : (cS x).length = 6 := rfl
theorem cD_len (x : DV) : (cD x).length = 9 := rfl
/-- A declaration's lists, in memory, so deep. -/
def RD : Nat → World → (Nat → Prop) → DV → Prop
  | 0, _, _, _ => False
  | n + 1, w, Z, x => RowS w Z 15 x.f x.d.fields.length (x.d.fields.flatMap cF) ∧ RowS w Z 3 x.o x.d.oneofs.length (x.d.oneofs.flatMap cO) ∧ RowS w Z 4 x.r x.d.res.length (x.d.res.flatMap cR) ∧ RowS w Z 6 x.s x.d.syms.length (x.d.syms.flatMap cS) ∧
    ∃ dvs : List DV, dvs.map DV.d = x.d.decls ∧ RowS w Z 9 x.dd dvs.length (dvs.flatMap cD) ∧ ∀ y ∈ dvs, RD n w Z y
theorem RD.keep {w w' : World} {Z f : Nat → Prop} (g : Keep f w w') (hf : ∀ k, Z k → f k) : ∀ (n : Nat) (x : DV), RD n w Z x → RD n w' Z x
  | 0, _, h => h
  | n + 1, x, ⟨h1, h2, h3, h4, dvs, h5, h6, h7⟩ => ⟨h1.keep g hf, h2.keep g hf, h3.keep g hf, h4.keep g hf, dvs, h5, h6.keep g hf, fun y hy => RD.keep g hf n y (h7 y hy)⟩
theorem RD.weak {w : World} {Z Z' : Nat → Prop} (hz : ∀ k, Z k → Z' k) : ∀ (n : Nat) (x : DV), RD n w Z x → RD n w Z' x
  | 0, _, h => h
  | n + 1, x, ⟨h1, h2, h3, h4, dvs, h5, h6, h7⟩ => ⟨h1.weak hz, h2.weak hz, h3.weak hz, h4.weak hz, dvs, h5, h6.weak hz, fun y hy => RD.weak hz n y (h7 y hy)⟩
theorem RD.more {w : World} {Z : Nat → Prop} : ∀ (n : Nat) (x : DV), RD n w Z x → RD (n + 1) w Z x
  | 0, _, h => h.elim
  | n + 1, x, ⟨h1, h2, h3, h4, dvs, h5, h6, h7⟩ => ⟨h1, h2, h3, h4, dvs, h5, h6, fun y hy => RD.more n y (h7 y hy)⟩
theorem RD.upto {w : World} {Z : Nat → Prop} {n m : Nat} (h : n ≤ m) (x : DV) (hx : RD n w Z x) : RD m w Z x := by
  induction h with
  | refl => exact hx
  | step _ ih => exact RD.more _ _ ih
/-- One of the five lists' own blocks. -/
def DV.mine (x : DV) (k : Nat) : Prop := x.f.ownBlock = some k ∨ x.o.ownBlock = some k ∨ x.dd.ownBlock = some k ∨ x.r.ownBlock = some k ∨ x.s.ownBlock = some k
/-- A declaration that a call builds. -/
structure OwnD (w : World) (base n : Nat) (tF tO tD tR tS : TypeId) (E : Nat → Prop) (x : DV) : Prop where
  f : w.ownsRow base tF 15 x.f x.d.fields.length (x.d.fields.flatMap cF)
  o : w.ownsRow base tO 3 x.o x.d.oneofs.length (x.d.oneofs.flatMap cO)
  r : w.ownsRow base tR 4 x.r x.d.res.length (x.d.res.flatMap cR)
  s : w.ownsRow base tS 6 x.s x.d.syms.length (x.d.syms.flatMap cS)
  dd : ∃ (Z : Nat → Prop) (dvs : List DV), dvs.map DV.d = x.d.decls ∧ w.ownsRow base tD 9 x.dd dvs.length (dvs.flatMap cD) ∧ (∀ k, Z k → base ≤ k ∧ k < w.heap.size) ∧ (∀ k, x.mine k ∨ E k → ¬ Z k) ∧ ∀ y ∈ dvs, RD n w Z y
  me : ∀ k, x.mine k → ¬ E k
  eb : ∀ k, E k → k < w.heap.size
section
variable {w w' : World} {base n : Nat} {tF tO tD tR tS : TypeId} {E : Nat → Prop} {x : DV}
theorem OwnD.lt (h : OwnD w base n tF tO tD tR tS E x) {k : Nat} (hk : x.mine k) : base ≤ k ∧ k < w.heap.size := by
  obtain ⟨Z, dvs, _, hd, _⟩ := h.dd
  rcases hk with hk | hk | hk | hk | hk
  · exact ⟨(own_type h.f hk).1, (own_type h.f hk).2.1⟩
  · exact ⟨(own_type h.o hk).1, (own_type h.o hk).2.1⟩
  · exact ⟨(own_type hd hk).1, (own_type hd hk).2.1⟩
  · exact ⟨(own_type h.r hk).1, (own_type h.r hk).2.1⟩
  · exact ⟨(own_type h.s hk).1, (own_type h.s hk).2.1⟩
/-- What is built stays, where a call keeps all from base on but what E names. -/
theorem OwnD.keep {f : Nat → Prop} (h : OwnD w base n tF tO tD tR tS E x) (g : Keep f w w') (hf : ∀ k, base ≤ k → ¬ E k → f k) : OwnD w' base n tF tO tD tR tS E x := by
  obtain ⟨Z, dvs, e, hd, hz, hm, hy⟩ := h.dd
  refine ⟨own_keep h.f (fun k hk => hf k (own_type h.f hk).1 (h.me k (.inl hk))) g, own_keep h.o (fun k hk => hf k (own_type h.o hk).1 (h.me k (.inr (.inl hk)))) g, own_keep h.r (fun k hk => hf k (own_type h.r hk).1 (h.me k (.inr (.inr (.inr (.inl hk)))))) g, own_keep h.s (fun k hk => hf k (own_type h.s hk).1 (h.me k (.inr (.inr (.inr (.inr hk)))))) g,
    ⟨Z, dvs, e, own_keep hd (fun k hk => hf k (own_type hd hk).1 (h.me k (.inr (.inr (.inl hk))))) g, fun k hk => ⟨(hz k hk).1, Nat.lt_of_lt_of_le (hz k hk).2 g.size⟩, hm, fun y hy' => RD.keep g (fun k hk => hf k (hz k hk).1 (fun he => hm k (.inr he) hk)) n y (hy y hy')⟩, h.me, fun k hk => Nat.lt_of_lt_of_le (h.eb k hk) g.size⟩
theorem OwnD.kept (h : OwnD w base n tF tO tD tR tS E x) (hb : Below w.heap.size w w') : OwnD w' base n tF tO tD tR tS E x := h.keep (f := fun _ => True) (Keep.ofBelow hb) (fun _ _ _ => trivial)
theorem OwnD.nil (w : World) (base n : Nat) (tF tO tD tR tS : TypeId) (E : Nat → Prop) (hE : ∀ k, E k → k < w.heap.size) (e : Bool) (nm : List Int) (a : Int × Int) : OwnD w base n tF tO tD tR tS E ⟨⟨e, nm, a, [], [], [], [], []⟩, .slice none 0 0, .slice none 0 0, .slice none 0 0, .slice none 0 0, .slice none 0 0⟩ :=
  ⟨World.ownsRow_nil _ _ _ _, World.ownsRow_nil _ _ _ _, World.ownsRow_nil _ _ _ _, World.ownsRow_nil _ _ _ _, ⟨fun _ => False, [], rfl, World.ownsRow_nil _ _ _ _, fun _ h => h.elim, fun _ _ h => h, by simp⟩, fun k hk => by simp [DV.mine, Value.ownBlock] at hk, hE⟩
/-- What is built can be read. -/
theorem OwnD.rd (h : OwnD w base n tF tO tD tR tS E x) : RD (n + 1) w (fun k => base ≤ k ∧ k < w.heap.size) x := by
  have hl := fun k (hk : x.mine k) => h.lt hk
  obtain ⟨Z, dvs, e, hd, hz, hm, hy⟩ := h.dd
  refine ⟨own_row h.f (fun k hk => hl k (.inl hk)), own_row h.o (fun k hk => hl k (.inr (.inl hk))), own_row h.r (fun k hk => hl k (.inr (.inr (.inr (.inl hk))))), own_row h.s (fun k hk => hl k (.inr (.inr (.inr (.inr hk))))), dvs, e, own_row hd (fun k hk => hl k (.inr (.inr (.inl hk)))), fun y hy' => RD.weak hz n y (hy y hy')⟩
/-- A row that grew: where its block is. -/
theorem grow_mine {v v' : Value} (g : Grow w w' v v') {k : Nat} (hk : v'.ownBlock = some k) : v.ownBlock = some k ∨ w.heap.size ≤ k := by
  rcases g.own with h | h
  · exact .inl (h.symm.trans hk)
  · exact .inr (h k hk)
theorem OwnD.addF (h : OwnD w base n tF tO tD tR tS E x) (hO : tF ≠ tO) (hR : tF ≠ tR) (hS : tF ≠ tS) (hD : tF ≠ tD) {v' : Value} {l : List MF} (g : Grow w w' x.f v') (ho : w'.ownsRow base tF 15 v' l.length (l.flatMap cF)) :
    OwnD w' base n tF tO tD tR tS E ⟨{ x.d with fields := l }, v', x.o, x.dd, x.r, x.s⟩ := by
  have hK : Keep (fun k => x.f.ownBlock ≠ some k) w w' := Keep.ofGrow g (fun _ hk => hk)
  obtain ⟨Z, dvs, e, hd, hz, hm, hy⟩ := h.dd
  have hd' := own_keep hd (fun k hk (e2 : x.f.ownBlock = some k) => own_apart h.f hd hD e2 hk) hK
  have hO' := own_keep h.o (fun k hk (e2 : x.f.ownBlock = some k) => own_apart h.f h.o hO e2 hk) hK
  have hR' := own_keep h.r (fun k hk (e2 : x.f.ownBlock = some k) => own_apart h.f h.r hR e2 hk) hK
  have hS' := own_keep h.s (fun k hk (e2 : x.f.ownBlock = some k) => own_apart h.f h.s hS e2 hk) hK
  refine ⟨ho, hO', hR', hS', ⟨Z, dvs, e, hd', fun k hk => ⟨(hz k hk).1, Nat.lt_of_lt_of_le (hz k hk).2 g.size⟩, fun k hk hZ => ?_, fun y hy' => RD.keep hK (fun k hk e2 => hm k (.inl (.inl e2)) hk) n y (hy y hy')⟩, fun k hk he => ?_, fun k hk => Nat.lt_of_lt_of_le (h.eb k hk) g.size⟩
  · have hlt := (hz k hZ).2
    rcases hk with (hk | hk | hk | hk | hk) | hk
    · rcases grow_mine g hk with hk | hk
      · exact hm k (.inl (.inl hk)) hZ
      · omega
    · exact hm k (.inl (.inr (.inl hk))) hZ
    · exact hm k (.inl (.inr (.inr (.inl hk)))) hZ
    · exact hm k (.inl (.inr (.inr (.inr (.inl hk))))) hZ
    · exact hm k (.inl (.inr (.inr (.inr (.inr hk))))) hZ
    · exact hm k (.inr hk) hZ
  · have hlt := h.eb k he
    rcases hk with hk | hk | hk | hk | hk
    · rcases grow_mine g hk with hk | hk
      · exact h.me k (.inl hk) he
      · omega
    · exact h.me k (.inr (.inl hk)) he
    · exact h.me k (.inr (.inr (.inl hk))) he
    · exact h.me k (.inr (.inr (.inr (.inl hk)))) he
    · exact h.me k (.inr (.inr (.inr (.inr hk)))) he
theorem OwnD.addO (h : OwnD w base n tF tO tD tR tS E x) (hF : tO ≠ tF) (hR : tO ≠ tR) (hS : tO ≠ tS) (hD : tO ≠ tD) {v' : Value} {l : List MO} (g : Grow w w' x.o v') (ho : w'.ownsRow base tO 3 v' l.length (l.flatMap cO)) :
    OwnD w' base n tF tO tD tR tS E ⟨{ x.d with oneofs := l }, x.f, v', x.dd, x.r, x.s⟩ := by
  have hK : Keep (fun k => x.o.ownBlock ≠ some k) w w' := Keep.ofGrow g (fun _ hk => hk)
  obtain ⟨Z, dvs, e, hd, hz, hm, hy⟩ := h.dd
  have hd' := own_keep hd (fun k hk (e2 : x.o.ownBlock = some k) => own_apart h.o hd hD e2 hk) hK
  have hF' := own_keep h.f (fun k hk (e2 : x.o.ownBlock = some k) => own_apart h.o h.f hF e2 hk) hK
  have hR' := own_keep h.r (fun k hk (e2 : x.o.ownBlock = some k) => own_apart h.o h.r hR e2 hk) hK
  have hS' := own_keep h.s (fun k hk (e2 : x.o.ownBlock = some k) => own_apart h.o h.s hS e2 hk) hK
  refine ⟨hF', ho, hR', hS', ⟨Z, dvs, e, hd', fun k hk => ⟨(hz k hk).1, Nat.lt_of_lt_of_le (hz k hk).2 g.size⟩, fun k hk hZ => ?_, fun y hy' => RD.keep hK (fun k hk e2 => hm k (.inl (.inr (.inl e2))) hk) n y (hy y hy')⟩, fun k hk he => ?_, fun k hk => Nat.lt_of_lt_of_le (h.eb k hk) g.size⟩
  · have hlt := (hz k hZ).2
    rcases hk with (hk | hk | hk | hk | hk) | hk
    · exact hm k (.inl (.inl hk)) hZ
    · rcases grow_mine g hk with hk | hk
      · exact hm k (.inl (.inr (.inl hk))) hZ
      · omega
    · exact hm k (.inl (.inr (.inr (.inl hk)))) hZ
    · exact hm k (.inl (.inr (.inr (.inr (.inl hk))))) hZ
    · exact hm k (.inl (.inr (.inr (.inr (.inr hk))))) hZ
    · exact hm k (.inr hk) hZ
  · have hlt := h.eb k he
    rcases hk with hk | hk | hk | hk | hk
    · exact h.me k (.inl hk) he
    · rcases grow_mine g hk with hk | hk
      · exact h.me k (.inr (.inl hk)) he
      · omega
    · exact h.me k (.inr (.inr (.inl hk))) he
    · exact h.me k (.inr (.inr (.inr (.inl hk)))) he
    · exact h.me k (.inr (.inr (.inr (.inr hk)))) he
theorem OwnD.addR (h : OwnD w base n tF tO tD tR tS E x) (hF : tR ≠ tF) (hO : tR ≠ tO) (hS : tR ≠ tS) (hD : tR ≠ tD) {v' : Value} {l : List MR} (g : Grow w w' x.r v') (ho : w'.ownsRow base tR 4 v' l.length (l.flatMap cR)) :
    OwnD w' base n tF tO tD tR tS E ⟨{ x.d with res := l }, x.f, x.o, x.dd, v', x.s⟩ := by
  have hK : Keep (fun k => x.r.ownBlock ≠ some k) w w' := Keep.ofGrow g (fun _ hk => hk)
  obtain ⟨Z, dvs, e, hd, hz, hm, hy⟩ := h.dd
  have hd' := own_keep hd (fun k hk (e2 : x.r.ownBlock = some k) => own_apart h.r hd hD e2 hk) hK
  have hF' := own_keep h.f (fun k hk (e2 : x.r.ownBlock = some k) => own_apart h.r h.f hF e2 hk) hK
  have hO' := own_keep h.o (fun k hk (e2 : x.r.ownBlock = some k) => own_apart h.r h.o hO e2 hk) hK
  have hS' := own_keep h.s (fun k hk (e2 : x.r.ownBlock = some k) => own_apart h.r h.s hS e2 hk) hK
  refine ⟨hF', hO', ho, hS', ⟨Z, dvs, e, hd', fun k hk => ⟨(hz k hk).1, Nat.lt_of_lt_of_le (hz k hk).2 g.size⟩, fun k hk hZ => ?_, fun y hy' => RD.keep hK (fun k hk e2 => hm k (.inl (.inr (.inr (.inr (.inl e2))))) hk) n y (hy y hy')⟩, fun k hk he => ?_, fun k hk => Nat.lt_of_lt_of_le (h.eb k hk) g.size⟩
  · have hlt := (hz k hZ).2
    rcases hk with (hk | hk | hk | hk | hk) | hk
    · exact hm k (.inl (.inl hk)) hZ
    · exact hm k (.inl (.inr (.inl hk))) hZ
    · exact hm k (.inl (.inr (.inr (.inl hk)))) hZ
    · rcases grow_mine g hk with hk | hk
      · exact hm k (.inl (.inr (.inr (.inr (.inl hk))))) hZ
      · omega
    · exact hm k (.inl (.inr (.inr (.inr (.inr hk))))) hZ
    · exact hm k (.inr hk) hZ
  · have hlt := h.eb k he
    rcases hk with hk | hk | hk | hk | hk
    · exact h.me k (.inl hk) he
    · exact h.me k (.inr (.inl hk)) he
    · exact h.me k (.inr (.inr (.inl hk))) he
    · rcases grow_mine g hk with hk | hk
      · exact h.me k (.inr (.inr (.inr (.inl hk)))) he
      · omega
    · exact h.me k (.inr (.inr (.inr (.inr hk)))) he
theorem OwnD.addD (h : OwnD w base n tF tO tD tR tS E x) (hF : tF ≠ tD) (hO : tO ≠ tD) (hR : tR ≠ tD) (hS : tS ≠ tD) {Zy : Nat → Prop} {y : DV} (hz2 : ∀ k, Zy k → base ≤ k ∧ k < w.heap.size) (hm2 : ∀ k, x.mine k ∨ E k → ¬ Zy k) (hy2 : RD n w Zy y) {v' : Value} {dvs : List DV}
    (Z : Nat → Prop) (e : dvs.map DV.d = x.d.decls) (hd : w.ownsRow base tD 9 x.dd dvs.length (dvs.flatMap cD)) (hz : ∀ k, Z k → base ≤ k ∧ k < w.heap.size) (hm : ∀ k, x.mine k ∨ E k → ¬ Z k) (hy : ∀ y ∈ dvs, RD n w Z y)
    (g : Grow w w' x.dd v') (ho : w'.ownsRow base tD 9 v' (dvs.length + 1) (dvs.flatMap cD ++ cD y)) :
    OwnD w' base n tF tO tD tR tS E ⟨{ x.d with decls := x.d.decls ++ [y.d] }, x.f, x.o, v', x.r, x.s⟩ := by
  have hK : Keep (fun k => x.dd.ownBlock ≠ some k) w w' := Keep.ofGrow g (fun _ hk => hk)
  have hF' := own_keep h.f (fun k hk (e2 : x.dd.ownBlock = some k) => own_apart h.f hd hF hk e2) hK
  have hO' := own_keep h.o (fun k hk (e2 : x.dd.ownBlock = some k) => own_apart h.o hd hO hk e2) hK
  have hR' := own_keep h.r (fun k hk (e2 : x.dd.ownBlock = some k) => own_apart h.r hd hR hk e2) hK
  have hS' := own_keep h.s (fun k hk (e2 : x.dd.ownBlock = some k) => own_apart h.s hd hS hk e2) hK
  have hno : ∀ k, x.mine k ∨ E k → ¬ (Z k ∨ Zy k) := fun k hk hh => hh.elim (hm k hk) (hm2 k hk)
  refine ⟨hF', hO', hR', hS', ⟨fun k => Z k ∨ Zy k, dvs ++ [y], by simp [e], by simpa using ho, fun k hk => ?_, fun k hk hZ => ?_, fun z hz' => ?_⟩, fun k hk he => ?_, fun k hk => Nat.lt_of_lt_of_le (h.eb k hk) g.size⟩
  · rcases hk with hk | hk
    · exact ⟨(hz k hk).1, Nat.lt_of_lt_of_le (hz k hk).2 g.size⟩
    · exact ⟨(hz2 k hk).1, Nat.lt_of_lt_of_le (hz2 k hk).2 g.size⟩
  · have hlt : k < w.heap.size := hZ.elim (fun h => (hz k h).2) (fun h => (hz2 k h).2)
    rcases hk with (hk | hk | hk | hk | hk) | hk
    · exact hno k (.inl (.inl hk)) hZ
    · exact hno k (.inl (.inr (.inl hk))) hZ
    · rcases grow_mine g hk with hk | hk
      · exact hno k (.inl (.inr (.inr (.inl hk)))) hZ
      · omega
    · exact hno k (.inl (.inr (.inr (.inr (.inl hk))))) hZ
    · exact hno k (.inl (.inr (.inr (.inr (.inr hk))))) hZ
    · exact hno k (.inr hk) hZ
  · rcases List.mem_append.1 hz' with h1 | h1
    · exact RD.weak (fun k hk => Or.inl hk) n z (RD.keep hK (fun k hk e2 => hm k (.inl (.inr (.inr (.inl e2)))) hk) n z (hy z h1))
    · simp at h1
      subst h1
      exact RD.weak (fun k hk => Or.inr hk) n z (RD.keep hK (fun k hk e2 => hm2 k (.inl (.inr (.inr (.inl e2)))) hk) n z hy2)
  · have hlt := h.eb k he
    rcases hk with hk | hk | hk | hk | hk
    · exact h.me k (.inl hk) he
    · exact h.me k (.inr (.inl hk)) he
    · rcases grow_mine g hk with hk | hk
      · exact h.me k (.inr (.inr (.inl hk))) he
      · omega
    · exact h.me k (.inr (.inr (.inr (.inl hk)))) he
    · exact h.me k (.inr (.inr (.inr (.inr hk)))) he
end
/-- One struct more, laid in a block of its own first. -/
theorem append_st (t ts : TypeId) (size bytes : Nat) (z : Value) (hts : Tryz.prog.underlying ts = some (.slice t)) (hinfo : (Tryz.prog.info? t).map (fun i => (i.zero, i.size, i.bytes)) = some (some z, size, bytes)) (hzs : z.cells.size = size) (h0 : 0 < size) (hby : bytes ≤ 400)
    (base : Nat) (v : Value) (n : Nat) (fl : List Value) (w : World) (cs : Array Value) (hcs : cs.size = size) (h1 : ∀ u ∈ cs.toList, u.oneCell' = true) (h : w.ownsRow base t size v n fl) (hb : base ≤ w.heap.size) (hn : n ≤ 400000) :
    ∃ v' w', (Builtin.append_ #[ts, ts] ts #[v, .slice (some ⟨w.heap.size, 0, none⟩) 1 1]).run Tryz.prog (w.alloc (.cells cs t)) = .ok v' w' ∧ w'.ownsRow base t size v' (n + 1) (fl ++ cs.toList) ∧ Grow w w' v v' := by
  obtain ⟨i0, hi, hz0, hz1, hz2⟩ := info_parts hinfo
  have hcell : ∀ j u, cs.toList[j]? = some u → (w.alloc (.cells cs t)).cell? ((⟨w.heap.size, 0, none⟩ : Addr).add j) = some u := by
    intro j u hu
    have hadd : (⟨w.heap.size, 0, none⟩ : Addr).add j = ⟨w.heap.size, j, none⟩ := by unfold Addr.add; split <;> simp_all
    rw [hadd, World.cell?_alloc_at _ _ _ _ rfl]
    simpa using hu
  obtain ⟨v', w', hr, ho, hg⟩ := run_append_mine (P := Tryz.prog) (w.alloc (.cells cs t)) base ts ts t i0 z size bytes hts hi hz0 hz1 hz2 hzs h0 v n fl (h.alloc _) ⟨w.heap.size, 0, none⟩ 1 1 cs.toList (by simp [hcs]) hcell h1 (by unfold maxLen; omega) (Nat.le_trans (Nat.mul_le_mul (show n + 1 ≤ 400001 by omega) hby) (by decide)) (by simp; omega)
  exact ⟨v', w', hr, ho, ((Grow.refl w v).alloc _).trans hg⟩
set_option linter.unusedSimpArgs false
set_option maxHeartbeats 4000000
/-- The words that are left, as the document's functions hand them on. -/
structure StR (w0 : World) (b off cap : Nat) (s : PS) : Prop where
  rd : ReadsW w0 (some ⟨b, off, none⟩) s.l.length cap s.l
  ws : Ws s.l
theorem cell_below {w0 w : World} {p : Addr} {v : Value} (h : w0.cell? p = some v) (hb : Below w0.heap.size w0 w) : w.cell? p = some v := by
  rw [hb.cell (World.block_lt_of_cell? _ _ h)]; exact h
section
variable {w0 w : World} {b off cap : Nat} {s : PS}
theorem StR.head (h : StR w0 b off cap s) (hb : Below w0.heap.size w0 w) : ∃ sa sc, w.cell? ⟨b, off, none⟩ = some (.int .i64 (hdM s).kind) ∧ w.cell? ⟨b, off + 1, none⟩ = some (.string (strOfNums (hdM s).s)) ∧ w.cell? ⟨b, off + 2, none⟩ = some (.int .u64 (hdM s).n) ∧
    w.cell? ⟨b, off + 3, none⟩ = some (.slice sa (hdM s).b.length sc) ∧ w.cell? ⟨b, off + 4, none⟩ = some (.int .i64 (hdM s).line) ∧ w.cell? ⟨b, off + 5, none⟩ = some (.int .i64 (hdM s).col) ∧ Reads w0 sa (hdM s).b.length sc (hdM s).b ∧ b < w0.heap.size := by
  obtain ⟨x, r, e⟩ := h.ws.ne
  have hx : s.l[0]? = some x := by rw [e]; rfl
  have hh : hdM s = x := by unfold hdM; rw [e]; rfl
  rcases h.rd.cells with ⟨h0, _⟩ | ⟨b', off', e', hc⟩
  · rw [e] at h0; simp at h0
  · cases e'
    obtain ⟨sa, sc, c0, c1, c2, c3, c4, c5, hr⟩ := hc 0 x hx
    simp only [Nat.zero_mul, Nat.add_zero] at c0 c1 c2 c3 c4 c5
    rw [hh]
    exact ⟨sa, sc, cell_below c0 hb, cell_below c1 hb, cell_below c2 hb, cell_below c3 hb, cell_below c4 hb, cell_below c5 hb, hr, World.block_lt_of_cell? _ _ c0⟩
theorem StR.pos (h : StR w0 b off cap s) : 0 < s.l.length ∧ s.l.length ≤ cap ∧ cap ≤ 9223372036854775807 := by
  obtain ⟨x, r, e⟩ := h.ws.ne
  exact ⟨by rw [e]; simp, h.rd.le, h.rd.max⟩
theorem StR.next (h : StR w0 b off cap s) (hk : (hdM s).kind ≠ 5) : StR w0 b (off + 6) (cap - 1) (nxM s) := by
  have ht := h.ws.tail hk
  obtain ⟨x, r, e⟩ := h.ws.ne
  have hle := h.rd.le
  have hmx := h.rd.max
  refine ⟨⟨rfl, ?_, by omega, ?_⟩, ht⟩
  · unfold nxM; simp only [e, List.tail_cons]; rw [e] at hle; simp at hle; omega
  · rcases h.rd.cells with ⟨h0, _⟩ | ⟨b', off', e', hc⟩
    · rw [e] at h0; simp at h0
    · cases e'
      refine .inr ⟨b, off + 6, rfl, fun i y hy => ?_⟩
      have hy' : s.l[i + 1]? = some y := by rw [e]; unfold nxM at hy; rw [e] at hy; simpa using hy
      obtain ⟨sa, sc, c0, c1, c2, c3, c4, c5, hr⟩ := hc (i + 1) y hy'
      rw [show off + (i + 1) * 6 = off + 6 + i * 6 by omega] at c0 c1 c2 c3 c4 c5
      exact ⟨sa, sc, c0, c1, c2, c3, c4, c5, hr⟩
theorem StR.cds (h : StR w0 b off cap s) {s' : PS} (e : s'.l = s.l) : StR w0 b off cap s' := ⟨by rw [e]; exact h.rd, by rw [e]; exact h.ws⟩
end
theorem badM_l (s : PS) (c : Int) : (badM s c).l = s.l := by unfold badM; split <;> rfl
theorem bl_alloc {w w' : World} (h : Below w.heap.size w w') (o : Obj) : Below w.heap.size w (w'.alloc o) := h.alloc h.size o
theorem bl_set {w w' : World} {p : Addr} (h : Below w.heap.size w w') (hp : w.heap.size ≤ p.block) (v : Value) : Below w.heap.size w (w'.setCell p v) := h.setCell hp v
theorem blA {w w' : World} {p : Addr} {v : Value} (h : Below w.heap.size w w') (hp : w.heap.size ≤ p.block := by first | (simp; done) | (simp; omega) | omega) : Below w.heap.size w (w'.setCell p v) := bl_set h hp v
theorem Blk.oth {w : World} {p : Nat} {t : TypeId} {cs : Array Value} {a : Addr} {v : Value} (h : Blk w p t cs) (ha : p ≠ a.block := by first | omega | (simp; done) | (simp; omega)) : Blk (w.setCell a v) p t cs := h.other ha v
theorem bl_drew {w w' : World} (h : Below w.heap.size w w') : Below w.heap.size w w'.drew := ⟨h.os, h.tape, h.output, h.size, h.block⟩
theorem bl_drewN {w w' : World} (h : Below w.heap.size w w') (n : Nat) : Below w.heap.size w (w'.drewN n) := ⟨h.os, h.tape, h.output, h.size, h.block⟩
theorem Blk.newAt {w : World} {p : Nat} {t : TypeId} {cs : Array Value} (h : p = w.heap.size) : Blk (w.alloc (.cells cs t)) p t cs := h ▸ Blk.new w t cs
theorem Blk.cellF {w : World} {p : Nat} {t : TypeId} {cs : Array Value} (h : Blk w p t cs) : ∀ i, w.cell? ⟨p, i, none⟩ = cs[i]? := fun i => by
  simp [World.cell?, show w.heap[p]? = _ from h]
theorem Blk.frz {w : World} {p : Nat} {t : TypeId} {cs : Array Value} (h : Blk w p t cs) : ∀ i, w.frozen? ⟨p, i, none⟩ = false := fun i => h.frozen i
/-- What a block holds stays. -/
theorem bcell {w w' : World} (h : Below w.heap.size w w') {p : Nat} (hp : p < w.heap.size) : (∀ i, w'.cell? ⟨p, i, none⟩ = w.cell? ⟨p, i, none⟩) ∧ ∀ i, w'.frozen? ⟨p, i, none⟩ = w.frozen? ⟨p, i, none⟩ := by
  have e := h.block p hp
  exact ⟨fun i => by simp only [World.cell?]; rw [e], fun i => by simp only [World.frozen?]; rw [e]⟩
theorem bl_then {w w1 w2 : World} (h : Below w.heap.size w w1) (g : Below w1.heap.size w1 w2) : Below w.heap.size w w2 := below_trans h g
theorem blBy {w w' : World} (h : Below w.heap.size w w' := by (with_reducible repeat (first | assumption | refine blA ?_ | refine bl_alloc ?_ _ | refine bl_drew ?_ | refine bl_drewN ?_ _ | exact Below.refl _ _))) : Below w.heap.size w w' := h
section
variable (w0 : World) (b off cap : Nat) (s : PS) (w : World)
theorem isR (X : ByteArray) (x : List Int) (hX : X = strOfNums x) (hx : ∀ c ∈ x, 0 ≤ c ∧ c ≤ 255) (h : StR w0 b off cap s) (hb : Below w0.heap.size w0 w) :
    Calls Tryz.prog 17 #[.agg #[.slice (some ⟨b, off, none⟩) s.l.length cap, .int .i64 s.cd, .int .i64 0, .int .i64 s.ln, .int .i64 s.cl], .string X] w fun e w' => e = .returned (.bool (isM s x)) ∧ Below w.heap.size w w' := by
  have HS : Hid (((strOfNums (hdM s).s).toList == X.toList) = decide ((hdM s).s = x)) := hid (by rw [hX]; exact str_eq h.ws.hd.bd hx)
  have HI : Hid (isM s x = (decide (s.cd = 0) && ((decide ((hdM s).kind = 1) || decide ((hdM s).kind = 4)) && decide ((hdM s).s = x)))) := hid rfl
  obtain ⟨sa, sc, c0, c1, _, _, _, _, _, hB⟩ := h.head hb
  obtain ⟨hp, hq, hr⟩ := h.pos
  have hB2 : b < w.heap.size := Nat.lt_of_lt_of_le hB hb.size
  clear h hX hx hb
  generalize hdM s = m at *
  generalize isM s x = t at *
  obtain ⟨l, cd, ln, cl⟩ := s
  obtain ⟨kind, ms, n, bb, line, col⟩ := m
  dsimp only at *
  have hp2 : (0 : Int) < (l.length : Int) := by omega
  have hp3 : (l.length : Int) ≤ 9223372036854775807 := by omega
  generalize l.length = len at *
  by_cases h0 : cd = 0
  · subst h0
    by_cases h1 : kind = 1
    · subst h1
      have hs := HS.out
      clear HS
      go_enter Tryz.func17, Tryz.ntmps17
      go_wp2
      go_ret
      exact ⟨ret_bool (by rw [HI.out]; simp), below_alloc _⟩
    · by_cases h4 : kind = 4
      · subst h4
        have hs := HS.out
        clear HS
        go_enter Tryz.func17, Tryz.ntmps17
        go_wp2
        go_ret
        exact ⟨ret_bool (by rw [HI.out]; simp), below_alloc _⟩
      · have k1 : (kind == 1) = false := by simpa using h1
        have k4 : (kind == 4) = false := by simpa using h4
        replace HI := hid (show t = false by rw [HI.out]; simp [h1, h4])
        clear HS h1 h4
        go_enter Tryz.func17, Tryz.ntmps17
        go_wp2
        go_ret
        exact ⟨ret_bool HI.out.symm, below_alloc _⟩
  · have k0 : (cd == 0) = false := by simpa using h0
    replace HI := hid (show t = false by rw [HI.out]; simp [h0])
    clear HS h0
    go_enter Tryz.func17, Tryz.ntmps17
    go_wp2
    go_ret
    exact ⟨ret_bool HI.out.symm, below_alloc _⟩
theorem atR (m : Mw) (sa : Option Addr) (sc : Nat) : Calls Tryz.prog 20 #[.agg #[.int .i64 m.kind, .string (strOfNums m.s), .int .u64 m.n, .slice sa m.b.length sc, .int .i64 m.line, .int .i64 m.col]] w fun e w' => e = .returned (.agg #[.int .i64 m.line, .int .i64 m.col]) ∧ Below w.heap.size w w' := by
  obtain ⟨kind, ms, n, bb, line, col⟩ := m
  dsimp only
  go_enter Tryz.func20, Tryz.ntmps20
  go_wp2
  exact bodyPost_ret (v := .agg #[.int .i64 line, .int .i64 col]) (by simp [results, Tryz.results20, go_sem]) rfl ⟨rfl, bl_alloc (below_alloc _) _⟩
theorem badR (c : Int) (h : StR w0 b off cap s) (hb : Below w0.heap.size w0 w) (hc0 : -9223372036854775808 ≤ c) (hc1 : c ≤ 9223372036854775807) :
    Calls Tryz.prog 21 #[.agg #[.slice (some ⟨b, off, none⟩) s.l.length cap, .int .i64 s.cd, .int .i64 0, .int .i64 s.ln, .int .i64 s.cl], .int .i64 c] w fun e w' => (∃ s', Hid (s' = badM s c) ∧ e = .returned (.agg #[.slice (some ⟨b, off, none⟩) s'.l.length cap, .int .i64 s'.cd, .int .i64 0, .int .i64 s'.ln, .int .i64 s'.cl]) ∧ StR w0 b off cap s') ∧ Below w.heap.size w w' := by
  have HI : Hid (StR w0 b off cap (badM s c)) := hid (h.cds (badM_l s c))
  have HM : Hid (badM s c = if s.cd = 0 then ⟨s.l, c, (hdM s).line, (hdM s).col⟩ else s) := hid rfl
  generalize badM s c = q at *
  obtain ⟨sa, sc, _, _, _, _, c4, c5, _, hB⟩ := h.head hb
  obtain ⟨hp, hq, hr⟩ := h.pos
  have hB2 : b < w.heap.size := Nat.lt_of_lt_of_le hB hb.size
  clear h hb
  generalize hdM s = m at *
  obtain ⟨l, cd, ln, cl⟩ := s
  obtain ⟨kind, ms, n, bb, line, col⟩ := m
  dsimp only at *
  have hp2 : (0 : Int) < (l.length : Int) := by omega
  have hp3 : (l.length : Int) ≤ 9223372036854775807 := by omega
  by_cases h0 : cd = 0
  · subst h0
    replace HM := hid (show q = ⟨l, c, line, col⟩ by rw [HM.out]; rfl)
    obtain rfl := HM.out
    go_enter Tryz.func21, Tryz.ntmps21
    go_wp2
    go_region
    go_wp2
    exact bodyPost_ret (v := .agg #[.slice (some ⟨b, off, none⟩) l.length cap, .int .i64 c, .int .i64 0, .int .i64 line, .int .i64 col]) (by simp [results, Tryz.results21, go_sem]) rfl ⟨⟨_, hid rfl, rfl, HI.out⟩, by exact blBy⟩
  · replace HM := hid (show q = ⟨l, cd, ln, cl⟩ by rw [HM.out, if_neg h0])
    obtain rfl := HM.out
    have k0 : (cd == 0) = false := by simpa using h0
    clear h0
    go_enter Tryz.func21, Tryz.ntmps21
    go_wp2
    exact bodyPost_ret (v := .agg #[.slice (some ⟨b, off, none⟩) l.length cap, .int .i64 cd, .int .i64 0, .int .i64 ln, .int .i64 cl]) (by simp [results, Tryz.results21, go_sem]) rfl ⟨⟨_, hid rfl, rfl, HI.out⟩, by exact blBy⟩
/-- One word is left behind. -/
theorem eatR (X : ByteArray) (x : List Int) (hX : X = strOfNums x) (hx : ∀ c ∈ x, 0 ≤ c ∧ c ≤ 255) (h : StR w0 b off cap s) (hb : Below w0.heap.size w0 w) :
    Calls Tryz.prog 18 #[.agg #[.slice (some ⟨b, off, none⟩) s.l.length cap, .int .i64 s.cd, .int .i64 0, .int .i64 s.ln, .int .i64 s.cl], .string X] w fun e w' => (∃ s' o c, Hid (s' = eatM s x) ∧ e = .returned (.agg #[.slice (some ⟨b, o, none⟩) s'.l.length c, .int .i64 s'.cd, .int .i64 0, .int .i64 s'.ln, .int .i64 s'.cl]) ∧ StR w0 b o c s') ∧ Below w.heap.size w w' := by
  have HI := hid (fun W (g : Below w0.heap.size w0 W) => isR w0 b off cap s W X x hX hx h g)
  have HA := hid (fun W (g : Below w0.heap.size w0 W) => badR w0 b off cap s W 11 h g (by decide) (by decide))
  have HW := hid h
  have HB := hid hb
  obtain ⟨hp, hq, hr⟩ := h.pos
  by_cases h0 : s.cd = 0
  · cases hi : isM s x with
    | true =>
      have HN := hid (h.next (by have := (is_parts hi).2.1; omega))
      have HE : Hid (nxM s = eatM s x) := hid (by unfold eatM; rw [if_pos h0, if_pos hi])
      have HL : Hid (nxM s = ⟨s.l.tail, s.cd, s.ln, s.cl⟩) := hid rfl
      have hp2 : 1 ≤ (nxM s).l.length := HN.out.pos.1
      have hp4 : (nxM s).l.length = s.l.length - 1 := by unfold nxM; simp
      rw [hi] at HI
      generalize nxM s = q at *
      generalize eatM s x = q2 at *
      clear h hb hX hx hi
      obtain ⟨l, cd, ln, cl⟩ := s
      dsimp only at *
      subst h0
      have hp1 : (1 : Int) < (l.length : Int) := by omega
      have hp3 : (cap : Int) ≤ 9223372036854775807 := by omega
      have hp5 : (1 : Int) < (cap : Int) := by omega
      have hp6 : l.length ≤ cap := by omega
      go_enter Tryz.func18, Tryz.ntmps18
      go_wp2_with fail
      refine (HI.out _ (bl_alloc (bl_alloc HB.out _) _)).mono ?_
      rintro e w1 ⟨rfl, hb1⟩
      obtain ⟨c0, f0⟩ := bcell hb1 (p := w.heap.size) (by first | (simp; done) | (simp; omega) | omega)
      obtain ⟨c1, f1⟩ := bcell hb1 (p := w.heap.size + 1) (by first | (simp; done) | (simp; omega) | omega)
      replace hb1 := hid (bl_then (bl_alloc (below_alloc _) _) hb1)
      go_wp2
      exact bodyPost_ret (v := .agg #[.slice (some ⟨b, off + 6, none⟩) (l.length - 1) (cap - 1), .int .i64 0, .int .i64 0, .int .i64 ln, .int .i64 cl]) (by simp [results, Tryz.results18, go_sem, c0, c1]) rfl ⟨⟨q, off + 6, cap - 1, hid HE.out, by rw [hp4, HL.out], HN.out⟩, by have := hb1.out; exact blBy⟩
    | false =>
      have HE : Hid (badM s 11 = eatM s x) := hid (by unfold eatM; rw [if_pos h0, if_neg (by rw [hi]; simp)])
      rw [hi] at HI
      generalize badM s 11 = q at *
      generalize eatM s x = q2 at *
      clear h hb hX hx hi
      obtain ⟨l, cd, ln, cl⟩ := s
      dsimp only at *
      subst h0
      go_enter Tryz.func18, Tryz.ntmps18
      go_wp2_with fail
      refine (HI.out _ (bl_alloc (bl_alloc HB.out _) _)).mono ?_
      rintro e w1 ⟨rfl, hb1⟩
      obtain ⟨c0, f0⟩ := bcell hb1 (p := w.heap.size) (by first | (simp; done) | (simp; omega) | omega)
      obtain ⟨c1, f1⟩ := bcell hb1 (p := w.heap.size + 1) (by first | (simp; done) | (simp; omega) | omega)
      have hs1 := hb1.size
      replace hb1 := hid (bl_then (bl_alloc (below_alloc _) _) hb1)
      go_wp2_with fail
      refine (HA.out _ (bl_then HB.out hb1.out)).mono ?_
      rintro e w2 ⟨⟨s', he, rfl, hst⟩, hb2⟩
      obtain ⟨d1, g1⟩ := bcell hb2 (p := w.heap.size + 1) (by simp at hs1; omega)
      replace hb2 := hid (bl_then hb1.out hb2)
      replace hst := hid hst
      go_wp2
      exact bodyPost_ret (v := .agg #[.slice (some ⟨b, off, none⟩) s'.l.length cap, .int .i64 s'.cd, .int .i64 0, .int .i64 s'.ln, .int .i64 s'.cl]) (by simp [results, Tryz.results18, go_sem, d1, c1]) rfl ⟨⟨s', off, cap, hid (by rw [he.out, HE.out]), rfl, hst.out⟩, by have := hb2.out; exact blBy⟩
  · have HE : Hid (s = eatM s x) := hid (by unfold eatM; rw [if_neg h0])
    generalize eatM s x = q2 at *
    have k0 : (s.cd == 0) = false := by simpa using h0
    clear h hb hX hx h0 HI HA
    go_enter Tryz.func18, Tryz.ntmps18
    go_wp2
    exact bodyPost_ret (v := .agg #[.slice (some ⟨b, off, none⟩) s.l.length cap, .int .i64 s.cd, .int .i64 0, .int .i64 s.ln, .int .i64 s.cl]) (by simp [results, Tryz.results18, go_sem]) rfl ⟨⟨s, off, cap, HE, rfl, HW.out⟩, by exact blBy⟩
end
theorem reads_z (w : World) : Reads w none zM.b.length 0 zM.b := reads_nil w
section
variable (w0 : World) (b off cap : Nat) (s : PS) (w : World)
theorem takeR (k : Int) (hk0 : k ≠ 0) (hk5 : k ≠ 5) (h : StR w0 b off cap s) (hb : Below w0.heap.size w0 w) :
    Calls Tryz.prog 19 #[.agg #[.slice (some ⟨b, off, none⟩) s.l.length cap, .int .i64 s.cd, .int .i64 0, .int .i64 s.ln, .int .i64 s.cl], .int .i64 k] w fun e w' => (∃ m s' sa sc o c, Hid (m = (takeM s k).1) ∧ Hid (s' = (takeM s k).2) ∧ e = .returned (.tuple #[.agg #[.int .i64 m.kind, .string (strOfNums m.s), .int .u64 m.n, .slice sa m.b.length sc, .int .i64 m.line, .int .i64 m.col], .agg #[.slice (some ⟨b, o, none⟩) s'.l.length c, .int .i64 s'.cd, .int .i64 0, .int .i64 s'.ln, .int .i64 s'.cl]]) ∧ Hid (Reads w0 sa m.b.length sc m.b) ∧ Hid (okW m) ∧ Hid (StR w0 b o c s')) ∧ Below w.heap.size w w' := by
  have HA := hid (fun W (g : Below w0.heap.size w0 W) => badR w0 b off cap s W 11 h g (by decide) (by decide))
  have HW := hid h
  have HB := hid hb
  have HO := hid h.ws.hd
  obtain ⟨sa, sc, c0, c1, c2, c3, c4, c5, hrd, hB⟩ := h.head hb
  have HR := hid hrd
  obtain ⟨hp, hq, hr⟩ := h.pos
  have hB2 : b < w.heap.size := Nat.lt_of_lt_of_le hB hb.size
  have hB3 : b < w.heap.size + 1 := by omega
  have hB4 : b < w.heap.size + 1 + 1 := by omega
  have hB5 : b < w.heap.size + 1 + 1 + 1 := by omega
  by_cases h0 : s.cd = 0
  · by_cases hkd : (hdM s).kind = k
    · have HN := hid (h.next (by omega))
      have HE : Hid (takeM s k = (hdM s, nxM s)) := hid (by unfold takeM; rw [if_pos h0, if_pos hkd])
      have HL : Hid (nxM s = ⟨s.l.tail, s.cd, s.ln, s.cl⟩) := hid rfl
      have hp2 : 1 ≤ (nxM s).l.length := HN.out.pos.1
      have hp4 : (nxM s).l.length = s.l.length - 1 := by unfold nxM; simp
      generalize nxM s = q at *
      generalize takeM s k = q2 at *
      generalize hdM s = m at *
      clear h hb HA hrd
      obtain ⟨l, cd, ln, cl⟩ := s
      obtain ⟨kind, ms, n, bb, line, col⟩ := m
      dsimp only at *
      subst h0
      subst hkd
      have hp1 : (1 : Int) < (l.length : Int) := by omega
      have hp3 : (cap : Int) ≤ 9223372036854775807 := by omega
      have hp5 : (1 : Int) < (cap : Int) := by omega
      have hp6 : l.length ≤ cap := by omega
      have hp7 : (0 : Int) < (l.length : Int) := by omega
      go_enter Tryz.func19, Tryz.ntmps19
      go_wp2
      go_region
      all_goals go_wp2
      all_goals exact bodyPost_ret (v := .tuple #[.agg #[.int .i64 kind, .string (strOfNums ms), .int .u64 n, .slice sa bb.length sc, .int .i64 line, .int .i64 col], .agg #[.slice (some ⟨b, off + 6, none⟩) (l.length - 1) (cap - 1), .int .i64 0, .int .i64 0, .int .i64 ln, .int .i64 cl]]) (by simp [results, Tryz.results19, go_sem]) rfl ⟨⟨⟨kind, ms, n, bb, line, col⟩, q, sa, sc, off + 6, cap - 1, hid (by rw [HE.out]), hid (by rw [HE.out]), by rw [hp4, HL.out], HR, HO, HN⟩, by exact blBy⟩
    · have HE : Hid (takeM s k = (zM, badM s 11)) := hid (by unfold takeM; rw [if_pos h0, if_neg hkd])
      have hkb : ((hdM s).kind == k) = false := by simpa using hkd
      generalize badM s 11 = q at *
      generalize takeM s k = q2 at *
      generalize hdM s = m at *
      clear h hb hrd hkd
      obtain ⟨l, cd, ln, cl⟩ := s
      obtain ⟨kind, ms, n, bb, line, col⟩ := m
      dsimp only at *
      subst h0
      have hp7 : (0 : Int) < (l.length : Int) := by omega
      go_enter Tryz.func19, Tryz.ntmps19
      go_wp2_with fail
      refine (HA.out _ (bl_alloc (bl_alloc (bl_alloc HB.out _) _) _)).mono ?_
      rintro e w1 ⟨⟨s', he, rfl, hst⟩, hb1⟩
      obtain ⟨d1, g1⟩ := bcell hb1 (p := w.heap.size + 1) (by first | (simp; done) | (simp; omega) | omega)
      obtain ⟨d2, g2⟩ := bcell hb1 (p := w.heap.size + 2) (by first | (simp; done) | (simp; omega) | omega)
      have hs1 := hb1.size
      replace hb1 := hid (bl_then (bl_alloc (bl_alloc (below_alloc _) _) _) hb1)
      replace hst := hid hst
      go_wp2
      exact bodyPost_ret (v := .tuple #[.agg #[.int .i64 0, .string ⟨#[]⟩, .int .u64 0, .slice none 0 0, .int .i64 0, .int .i64 0], .agg #[.slice (some ⟨b, off, none⟩) s'.l.length cap, .int .i64 s'.cd, .int .i64 0, .int .i64 s'.ln, .int .i64 s'.cl]]) (by simp [results, Tryz.results19, go_sem, d1, d2]) rfl ⟨⟨zM, s', none, 0, off, cap, hid (by rw [HE.out]), hid (by rw [HE.out, he.out]), rfl, hid (reads_z _), hid okW_z, hst⟩, by have := hb1.out; exact blBy⟩
  · have HE : Hid (takeM s k = (zM, s)) := hid (by unfold takeM; rw [if_neg h0])
    generalize takeM s k = q2 at *
    have k0 : (s.cd == 0) = false := by simpa using h0
    clear h hb h0 HA c0 c1 c2 c3 c4 c5 hrd
    go_enter Tryz.func19, Tryz.ntmps19
    go_wp2
    go_region
    all_goals go_wp2
    all_goals exact bodyPost_ret (v := .tuple #[.agg #[.int .i64 0, .string ⟨#[]⟩, .int .u64 0, .slice none 0 0, .int .i64 0, .int .i64 0], .agg #[.slice (some ⟨b, off, none⟩) s.l.length cap, .int .i64 s.cd, .int .i64 0, .int .i64 s.ln, .int .i64 s.cl]]) (by simp [results, Tryz.results19, go_sem]) rfl ⟨⟨zM, s, none, 0, off, cap, hid (by rw [HE.out]), hid (by rw [HE.out]), rfl, hid (reads_z _), hid okW_z, HW⟩, by exact blBy⟩
end
set_option maxHeartbeats 8000000
section
variable (w0 : World) (b off cap : Nat) (s : PS) (w : World)
theorem namedR (h : StR w0 b off cap s) (hb : Below w0.heap.size w0 w) :
    Calls Tryz.prog 46 #[.agg #[.slice (some ⟨b, off, none⟩) s.l.length cap, .int .i64 s.cd, .int .i64 0, .int .i64 s.ln, .int .i64 s.cl]] w fun e w' => (∃ m n s' sa sc ta tc o c, Hid (m = (namM s).1) ∧ Hid (n = (namM s).2.1) ∧ Hid (s' = (namM s).2.2) ∧ e = .returned (.tuple #[.agg #[.int .i64 m.kind, .string (strOfNums m.s), .int .u64 m.n, .slice sa m.b.length sc, .int .i64 m.line, .int .i64 m.col], .agg #[.int .i64 n.kind, .string (strOfNums n.s), .int .u64 n.n, .slice ta n.b.length tc, .int .i64 n.line, .int .i64 n.col], .agg #[.slice (some ⟨b, o, none⟩) s'.l.length c, .int .i64 s'.cd, .int .i64 0, .int .i64 s'.ln, .int .i64 s'.cl]]) ∧ Hid (okW m) ∧ Hid (okW n) ∧ Hid (StR w0 b o c s')) ∧ Below w.heap.size w w' := by
  have HB := hid hb
  have HT := hid (takeR w0 b off cap s)
  have HW := hid h
  clear h hb
  have hb0 : Hid (Below w.heap.size w w) := hid (Below.refl _ _)
  go_enter Tryz.func46, Tryz.ntmps46
  go_wp2_with fail
  refine (HT.out _ 1 (by decide) (by decide) HW.out (bl_then HB.out (by have := hb0.out; exact blBy))).mono ?_
  rintro e w1 ⟨⟨m1, s1, sa, sc, o1, c1, hm1, he1, rfl, hr1, hk1, hst1⟩, hb1⟩
  have Bs : Blk w1 (w.heap.size) 54 #[.slice (some ⟨b, off, none⟩) s.l.length cap, .int .i64 s.cd, .int .i64 0, .int .i64 s.ln, .int .i64 s.cl] := Blk.kept (((((Blk.newAt (by simp)).kept (below_alloc _)).kept (below_alloc _)).kept (below_alloc _)).is (by first | rfl | simp)) hb1
  have Br1 : Blk w1 (w.heap.size + 1) 58 #[.int .i64 0, .string ⟨#[]⟩, .int .u64 0, .slice none 0 0, .int .i64 0, .int .i64 0] := Blk.kept ((((Blk.newAt (by simp)).kept (below_alloc _)).kept (below_alloc _)).is (by first | rfl | simp)) hb1
  have Br2 : Blk w1 (w.heap.size + 1 + 1) 58 #[.int .i64 0, .string ⟨#[]⟩, .int .u64 0, .slice none 0 0, .int .i64 0, .int .i64 0] := Blk.kept (((Blk.newAt (by simp)).kept (below_alloc _)).is (by first | rfl | simp)) hb1
  have Br3 : Blk w1 (w.heap.size + 1 + 1 + 1) 54 #[.slice none 0 0, .int .i64 0, .int .i64 0, .int .i64 0, .int .i64 0] := Blk.kept ((Blk.newAt (by simp)).is (by first | rfl | simp)) hb1
  have hs1 := hb1.size
  try simp at hs1
  have xs := Bs.cellF
  have ys := Bs.frz
  have zs : w.heap.size < w1.heap.size := by omega
  have xr1 := Br1.cellF
  have yr1 := Br1.frz
  have zr1 : w.heap.size + 1 < w1.heap.size := by omega
  have xr2 := Br2.cellF
  have yr2 := Br2.frz
  have zr2 : w.heap.size + 1 + 1 < w1.heap.size := by omega
  have xr3 := Br3.cellF
  have yr3 := Br3.frz
  have zr3 : w.heap.size + 1 + 1 + 1 < w1.heap.size := by omega
  replace hb1 : Hid (Below w.heap.size w w1) := hid (bl_then (by have := hb0.out; exact blBy) hb1)
  go_wp2_with fail
  refine (eatR w0 b o1 c1 s1 _ ⟨#[61]⟩ [61] rfl (by decide) hst1.out (bl_then HB.out (by have := hb1.out; exact blBy))).mono ?_
  rintro e w2 ⟨⟨s2, o2, c2, he2, rfl, hst2⟩, hb2⟩
  replace Bs : Blk w2 (w.heap.size) 54 #[.slice (some ⟨b, o1, none⟩) s1.l.length c1, .int .i64 s1.cd, .int .i64 0, .int .i64 s1.ln, .int .i64 s1.cl] := Blk.kept (((((((Bs.set 0 _).set 1 _).set 2 _).set 3 _).set 4 _).kept (below_alloc _)).is (by first | rfl | simp)) hb2
  replace Br1 : Blk w2 (w.heap.size + 1) 58 #[.int .i64 0, .string ⟨#[]⟩, .int .u64 0, .slice none 0 0, .int .i64 0, .int .i64 0] := Blk.kept (((((((Br1.other (show w.heap.size + 1 ≠ w.heap.size by omega) _).other (show w.heap.size + 1 ≠ w.heap.size by omega) _).other (show w.heap.size + 1 ≠ w.heap.size by omega) _).other (show w.heap.size + 1 ≠ w.heap.size by omega) _).other (show w.heap.size + 1 ≠ w.heap.size by omega) _).kept (below_alloc _)).is (by first | rfl | simp)) hb2
  replace Br2 : Blk w2 (w.heap.size + 1 + 1) 58 #[.int .i64 0, .string ⟨#[]⟩, .int .u64 0, .slice none 0 0, .int .i64 0, .int .i64 0] := Blk.kept (((((((Br2.other (show w.heap.size + 1 + 1 ≠ w.heap.size by omega) _).other (show w.heap.size + 1 + 1 ≠ w.heap.size by omega) _).other (show w.heap.size + 1 + 1 ≠ w.heap.size by omega) _).other (show w.heap.size + 1 + 1 ≠ w.heap.size by omega) _).other (show w.heap.size + 1 + 1 ≠ w.heap.size by omega) _).kept (below_alloc _)).is (by first | rfl | simp)) hb2
  replace Br3 : Blk w2 (w.heap.size + 1 + 1 + 1) 54 #[.slice none 0 0, .int .i64 0, .int .i64 0, .int .i64 0, .int .i64 0] := Blk.kept (((((((Br3.other (show w.heap.size + 1 + 1 + 1 ≠ w.heap.size by omega) _).other (show w.heap.size + 1 + 1 + 1 ≠ w.heap.size by omega) _).other (show w.heap.size + 1 + 1 + 1 ≠ w.heap.size by omega) _).other (show w.heap.size + 1 + 1 + 1 ≠ w.heap.size by omega) _).other (show w.heap.size + 1 + 1 + 1 ≠ w.heap.size by omega) _).kept (below_alloc _)).is (by first | rfl | simp)) hb2
  have Bm : Blk w2 (w1.heap.size) 58 #[.int .i64 m1.kind, .string (strOfNums m1.s), .int .u64 m1.n, .slice sa m1.b.length sc, .int .i64 m1.line, .int .i64 m1.col] := Blk.kept ((Blk.newAt (by simp)).is (by first | rfl | simp)) hb2
  clear xs ys xr1 yr1 xr2 yr2 xr3 yr3
  have hs2 := hb2.size
  try simp at hs2
  have xs := Bs.cellF
  have ys := Bs.frz
  replace zs : w.heap.size < w2.heap.size := by omega
  have xr1 := Br1.cellF
  have yr1 := Br1.frz
  replace zr1 : w.heap.size + 1 < w2.heap.size := by omega
  have xr2 := Br2.cellF
  have yr2 := Br2.frz
  replace zr2 : w.heap.size + 1 + 1 < w2.heap.size := by omega
  have xr3 := Br3.cellF
  have yr3 := Br3.frz
  replace zr3 : w.heap.size + 1 + 1 + 1 < w2.heap.size := by omega
  have xm := Bm.cellF
  have ym := Bm.frz
  have zm : w1.heap.size < w2.heap.size := by omega
  replace hb2 : Hid (Below w.heap.size w w2) := hid (bl_then (by have := hb1.out; exact blBy) hb2)
  replace hst2 := hid hst2
  go_wp2_with fail
  refine (takeR w0 b o2 c2 s2 _ 2 (by decide) (by decide) hst2.out (bl_then HB.out (by have := hb2.out; exact blBy))).mono ?_
  rintro e w3 ⟨⟨m3, s3, ta, tc, o3, c3, hm3, he3, rfl, hr3, hk3, hst3⟩, hb3⟩
  replace Bs : Blk w3 (w.heap.size) 54 #[.slice (some ⟨b, o2, none⟩) s2.l.length c2, .int .i64 s2.cd, .int .i64 0, .int .i64 s2.ln, .int .i64 s2.cl] := Blk.kept ((((((Bs.set 0 _).set 1 _).set 2 _).set 3 _).set 4 _).is (by first | rfl | simp)) hb3
  replace Br1 : Blk w3 (w.heap.size + 1) 58 #[.int .i64 0, .string ⟨#[]⟩, .int .u64 0, .slice none 0 0, .int .i64 0, .int .i64 0] := Blk.kept ((((((Br1.other (show w.heap.size + 1 ≠ w.heap.size by omega) _).other (show w.heap.size + 1 ≠ w.heap.size by omega) _).other (show w.heap.size + 1 ≠ w.heap.size by omega) _).other (show w.heap.size + 1 ≠ w.heap.size by omega) _).other (show w.heap.size + 1 ≠ w.heap.size by omega) _).is (by first | rfl | simp)) hb3
  replace Br2 : Blk w3 (w.heap.size + 1 + 1) 58 #[.int .i64 0, .string ⟨#[]⟩, .int .u64 0, .slice none 0 0, .int .i64 0, .int .i64 0] := Blk.kept ((((((Br2.other (show w.heap.size + 1 + 1 ≠ w.heap.size by omega) _).other (show w.heap.size + 1 + 1 ≠ w.heap.size by omega) _).other (show w.heap.size + 1 + 1 ≠ w.heap.size by omega) _).other (show w.heap.size + 1 + 1 ≠ w.heap.size by omega) _).other (show w.heap.size + 1 + 1 ≠ w.heap.size by omega) _).is (by first | rfl | simp)) hb3
  replace Br3 : Blk w3 (w.heap.size + 1 + 1 + 1) 54 #[.slice none 0 0, .int .i64 0, .int .i64 0, .int .i64 0, .int .i64 0] := Blk.kept ((((((Br3.other (show w.heap.size + 1 + 1 + 1 ≠ w.heap.size by omega) _).other (show w.heap.size + 1 + 1 + 1 ≠ w.heap.size by omega) _).other (show w.heap.size + 1 + 1 + 1 ≠ w.heap.size by omega) _).other (show w.heap.size + 1 + 1 + 1 ≠ w.heap.size by omega) _).other (show w.heap.size + 1 + 1 + 1 ≠ w.heap.size by omega) _).is (by first | rfl | simp)) hb3
  replace Bm : Blk w3 (w1.heap.size) 58 #[.int .i64 m1.kind, .string (strOfNums m1.s), .int .u64 m1.n, .slice sa m1.b.length sc, .int .i64 m1.line, .int .i64 m1.col] := Blk.kept ((((((Bm.other (show w1.heap.size ≠ w.heap.size by omega) _).other (show w1.heap.size ≠ w.heap.size by omega) _).other (show w1.heap.size ≠ w.heap.size by omega) _).other (show w1.heap.size ≠ w.heap.size by omega) _).other (show w1.heap.size ≠ w.heap.size by omega) _).is (by first | rfl | simp)) hb3
  clear xs ys xr1 yr1 xr2 yr2 xr3 yr3 xm ym
  have hs3 := hb3.size
  try simp at hs3
  have xs := Bs.cellF
  have ys := Bs.frz
  replace zs : w.heap.size < w3.heap.size := by omega
  have xr1 := Br1.cellF
  have yr1 := Br1.frz
  replace zr1 : w.heap.size + 1 < w3.heap.size := by omega
  have xr2 := Br2.cellF
  have yr2 := Br2.frz
  replace zr2 : w.heap.size + 1 + 1 < w3.heap.size := by omega
  have xr3 := Br3.cellF
  have yr3 := Br3.frz
  replace zr3 : w.heap.size + 1 + 1 + 1 < w3.heap.size := by omega
  have xm := Bm.cellF
  have ym := Bm.frz
  replace zm : w1.heap.size < w3.heap.size := by omega
  replace hb3 : Hid (Below w.heap.size w w3) := hid (bl_then (by have := hb2.out; exact blBy) hb3)
  go_wp2
  go_region
  all_goals go_wp2
  all_goals exact bodyPost_ret (v := .tuple #[.agg #[.int .i64 m1.kind, .string (strOfNums m1.s), .int .u64 m1.n, .slice sa m1.b.length sc, .int .i64 m1.line, .int .i64 m1.col], .agg #[.int .i64 m3.kind, .string (strOfNums m3.s), .int .u64 m3.n, .slice ta m3.b.length tc, .int .i64 m3.line, .int .i64 m3.col], .agg #[.slice (some ⟨b, o3, none⟩) s3.l.length c3, .int .i64 s3.cd, .int .i64 0, .int .i64 s3.ln, .int .i64 s3.cl]]) (by simp [results, Tryz.results46, go_sem, xr1, xr2, xr3, zr1, zr2, zr3]) rfl ⟨⟨m1, m3, s3, sa, sc, ta, tc, o3, c3, hm1, hid (by rw [hm3.out, he2.out, he1.out]; rfl), hid (by rw [he3.out, he2.out, he1.out]; rfl), rfl, hk1, hk3, hst3⟩, by have := hb3.out; exact blBy⟩
end
end Go.Proofs.YtidimdbnnnpplaaGreatDoor
