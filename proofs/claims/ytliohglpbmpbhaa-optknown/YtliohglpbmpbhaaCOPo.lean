/-
  opt: trimmed.
  opt: Fuse, Trim.
  opt: Fuse, Trim.
  opt: rows that rise are in order already.
  opt: a chain of cases as rows.
-/
import Derived.Test.YtliohglpbmpbhaaCOPl
namespace Go.Proofs.Ytliohglpbmpbhaa
open Go.RowKit Go.Shelf
set_option maxRecDepth 1000000
set_option linter.unusedVariables false
set_option linter.unusedSimpArgs false
set_option maxHeartbeats 3000000
/-- The steps that are reached, of the first so many, and where each stands. -/
def trK (mk : List Bool) (l : List IN) : Nat → List IN × List (Int × Int)
  | 0 => ([], [])
  | k + 1 => match l[k]?, mk[k]? with
    | some x, some true => ((trK mk l k).1 ++ [x], (trK mk l k).2 ++ [((k : Int), ((trK mk l k).1.length : Int))])
    | _, _ => trK mk l k
def trA (l : List IN) (mk : List Bool) : List IN × List (Int × Int) := trK mk l l.length
theorem trK_yes {mk : List Bool} {l : List IN} {k : Nat} (hk : k < l.length) (h : mk[k]? = some true) : trK mk l (k + 1) = ((trK mk l k).1 ++ [l[k]], (trK mk l k).2 ++ [((k : Int), ((trK mk l k).1.length : Int))]) := by
  conv => lhs; unfold trK
  rw [List.getElem?_eq_getElem hk, h]
theorem trK_no {mk : List Bool} {l : List IN} {k : Nat} (h : mk[k]? = some false) : trK mk l (k + 1) = trK mk l k := by
  conv => lhs; unfold trK
  rw [h]
  cases l[k]? <;> rfl
theorem trK_len (mk : List Bool) (l : List IN) (k : Nat) : (trK mk l k).1.length ≤ k := by
  induction k with
  | zero => exact Nat.le_refl _
  | succ k ih =>
    unfold trK
    split
    · simp; omega
    · omega
theorem reN_len (l : List IN) : ∀ (n : Nat) (rows : List LN) (s : List Bool × List Int), (reN l n rows s).length = s.1.length := by
  intro n
  induction n with
  | zero => intro rows s; rfl
  | succ n ih =>
    intro rows s
    unfold reN
    split
    · rfl
    · split
      · rfl
      · rw [ih, fold_len]
theorem reA_len (l : List IN) (rows : List LN) : (reA l rows).length = l.length := by unfold reA; rw [reN_len, toS_len]; simp
theorem shTrimmed : ShG 23 (fun l rows => trA l (reA l rows)) := by
  intro w0 w h0 l rows la ra lc rc g N hl hr hm hg hn hN
  show Calls Try.prog 23 _ w (ShP w g N (trK (reA l rows) l l.length))
  have HL := hid hl
  have H0 := hid h0
  have HG := hid hg
  have HRE := hid fun W (hW : Below w0.heap.size w0 W) (hM : MC W g N) => reachT w0 W hW l rows la ra lc rc g N hl hr hM hg hn hN
  have HMC := hid hm
  have hgw : g < w.heap.size := by obtain ⟨cs, q, -⟩ := hm; exact q.lt
  have hln : l.length ≤ 1048576 := by omega
  have hlen := reA_len l rows
  generalize reA l rows = mk at *
  have HLEN := hid hlen
  have m1 : (l.length : Int) ≤ 9223372036854775807 := by omega
  clear hl hr h0 hg hm hlen hN hn
  have hmk := mkMap0
  go_enter Try.func23, Try.ntmps23
  go_wp2_with fail
  refine (HRE.out _ H0.out HMC.out).mono ?_
  rintro e u ⟨rfl, hku, hou⟩
  have HKU := hid hku
  have HOU := hid hou
  have HB0 := hid (below_kg H0.out hku HG.out)
  have hwu : w.heap.size ≤ u.heap.size := hku.size
  clear hku hou HRE HMC
  go_wp2_with fail
  go_loopw [8, 19] (fun o r wr => ∃ (k : Nat) (va : Option Addr) (vc : Nat) (c : Nat), o = .slice va (trK mk l k).1.length vc ∧ r = .int .i64 k ∧ k ≤ l.length ∧ Hid (wr.ownsRow u.heap.size 42 5 (.slice va (trK mk l k).1.length vc) (trK mk l k).1.length ((trK mk l k).1.flatMap cIN)) ∧ Hid (MpI wr u.heap.size c (psM (trK mk l k).2)) ∧ Hid (c ≤ k) ∧ Hid (Below u.heap.size u wr)) (fun _ r _ => l.length - (intOf r).toNat)
  case atStart => exact ⟨0, none, 0, 0, rfl, rfl, by omega, hid (World.ownsRow_nil _ _ _ _), hid (MpI.new u), hid (by omega), hid (below_alloc _)⟩
  case round =>
    obtain ⟨k, va, vc, c, rfl, rfl, hk, HO, HMP, HC, hb⟩ := hrel
    have hle := trK_len mk l k
    by_cases hlt : k < l.length
    · have k1 : (k : Int) < (l.length : Int) := by omega
      have hk5 : k < mk.length := by rw [HLEN.out]; exact hlt
      obtain ⟨lb, lo, rfl, hcc⟩ := row_of (HL.out.kept (HB0.out.trans (hb.out.mono HB0.out.size))) (by omega) (by omega)
      have c0 := hcc (k * 5 + 0) _ (flat_at (g := cIN) (K := 5) (fun _ => rfl) hlt (u := .int .i64 l[k].op) rfl)
      have c1 := hcc (k * 5 + 1) _ (flat_at (g := cIN) (K := 5) (fun _ => rfl) hlt (u := .int .i64 l[k].a) rfl)
      have c2 := hcc (k * 5 + 2) _ (flat_at (g := cIN) (K := 5) (fun _ => rfl) hlt (u := .int .i64 l[k].b) rfl)
      have c3 := hcc (k * 5 + 3) _ (flat_at (g := cIN) (K := 5) (fun _ => rfl) hlt (u := .int .i64 l[k].c) rfl)
      have c4 := hcc (k * 5 + 4) _ (flat_at (g := cIN) (K := 5) (fun _ => rfl) hlt (u := .int .i64 l[k].d) rfl)
      simp only [Nat.add_zero, ← Nat.add_assoc] at c0 c1 c2 c3 c4
      have zb := World.block_lt_of_cell? _ _ c0
      obtain ⟨cm, -⟩ := own_cell0 (own_kept HOU.out hb.out) (cB_at mk k hk5)
      have zg := World.block_lt_of_cell? _ _ cm
      cases qn : mk[k] with
      | false =>
        rw [qn] at cm
        have HE := hid (trK_no (mk := mk) (l := l) (k := k) (by rw [List.getElem?_eq_getElem hk5, qn]))
        clear hcc qn
        go_wp2
        exact ⟨⟨k + 1, va, vc, c, by rw [HE.out], by simp, by omega, hid (by rw [HE.out]; exact own_kept HO.out (below_alloc _)), hid (by rw [HE.out]; exact HMP.out.kept (below_alloc _)), hid (by have := HC.out; omega), hid (below_trans hb.out (below_alloc _))⟩, by simp [intOf]; omega⟩
      | true =>
        rw [qn] at cm
        have HE := hid (trK_yes (mk := mk) (l := l) (k := k) hlt (by rw [List.getElem?_eq_getElem hk5, qn]))
        clear hcc qn
        generalize l[k] = x at *
        obtain ⟨xo, xa, xb, xc, xd⟩ := x
        dsimp only at c0 c1 c2 c3 c4
        have HMU := hid (HMP.out.kept (below_alloc (w := wr) (.cells #[.int .i64 xo, .int .i64 xa, .int .i64 xb, .int .i64 xc, .int .i64 xd] 42)))
        obtain ⟨w1, hrun, HM1, hg1⟩ := HMU.out.put (k := (k : Int)) (v := ((trK mk l k).1.length : Int)) (by have := HC.out; omega) (by unfold oI64; omega) (by unfold oI64; omega)
        have hnc : ∀ r, some u.heap.size = some r → ∃ o : Obj, (wr.alloc (.cells #[.int .i64 xo, .int .i64 xa, .int .i64 xb, .int .i64 xc, .int .i64 xd] 42)).heap[r]? = some o ∧ o.isCells = false := fun r e => by
          cases e
          obtain ⟨Dm, ⟨es, ck, q1, q2⟩, -⟩ := HMU.out
          exact ⟨_, q1, rfl⟩
        have hbA : Below u.heap.size u (wr.alloc (.cells #[.int .i64 xo, .int .i64 xa, .int .i64 xb, .int .i64 xc, .int .i64 xd] 42)) := below_trans hb.out (below_alloc _)
        have hb1 : Hid (Below u.heap.size u w1) := hid (hbA.grown hg1 (by have := hbA.size; omega) (fun q e => by cases e; exact Nat.le_refl _))
        have HO1 := hid (own_grown (own_kept HO.out (below_alloc (w := wr) (.cells #[.int .i64 xo, .int .i64 xa, .int .i64 xb, .int .i64 xc, .int .i64 xd] 42))) hg1 hnc)
        have hp9 : Blk w1 wr.heap.size 42 #[.int .i64 xo, .int .i64 xa, .int .i64 xb, .int .i64 xc, .int .i64 xd] := by
          have q := Blk.new wr 42 #[.int .i64 xo, .int .i64 xa, .int .i64 xb, .int .i64 xc, .int .i64 xd]
          refine (hg1.block _ q.lt (fun e => ?_)).trans q
          have := HMP.out.lt
          have e2 := Option.some.inj e
          omega
        obtain ⟨a2, d2, W5, R5, O5, HM5, HB5⟩ := fuApp w1.heap.size u w1 va vc (trK mk l k).1 ⟨xo, xa, xb, xc, xd⟩ (c + 1) _ HO1.out HM1 hb1.out (by omega) rfl
        have x9 := hp9.cellF
        have z9 := hp9.lt
        clear HMU hnc hbA hb1 HO1 hp9 HM1 hg1 HO HMP hb
        go_wp2_with (first | (at_builtin; refine wpList_append_ran rfl _ _ 22 22 rfl rfl _ _ (.slice a2 ((trK mk l k).1.length + 1) d2) W5 rfl rfl R5.out ?_))
        exact ⟨⟨k + 1, a2, d2, c + 1, by rw [HE.out]; simp, by simp, by omega, hid (by rw [HE.out]; exact O5.out), hid (by rw [HE.out]; show MpI _ _ _ (psM (_ ++ _)); rw [psM_snoc]; exact HM5.out), hid (by have := HC.out; omega), HB5⟩, by simp [intOf]; omega⟩
    · have k1 : ¬ (k : Int) < (l.length : Int) := by omega
      obtain rfl : k = l.length := by omega
      go_wp2
      refine bodyPost_ret (v := .tuple #[.slice va (trK mk l l.length).1.length vc, .map (some u.heap.size)]) (by simp [results, Try.results23, go_sem]) rfl ?_
      refine ⟨va, vc, _, c, rfl, own_mono HO.out hwu, HMP.out, hwu, ?_, md_own (own_kept HOU.out hb.out)⟩
      exact HKU.out.trans (Keep.ofBelow hb.out)
def inI (x : IN) : Prop := oI64 x.op ∧ oI64 x.a ∧ oI64 x.b ∧ oI64 x.c ∧ oI64 x.d
def lnI (x : LN) : Prop := oI64 x.tag ∧ oI64 x.pl
theorem allIN {l : List IN} (h : ∀ x ∈ l, inI x) : AllI (l.flatMap cIN) := by
  intro u hu
  obtain ⟨x, hx, hu⟩ := List.mem_flatMap.1 hu
  obtain ⟨h0, h1, h2, h3, h4⟩ := h x hx
  simp [cIN] at hu
  rcases hu with rfl | rfl | rfl | rfl | rfl
  · exact ⟨_, rfl, h0⟩
  · exact ⟨_, rfl, h1⟩
  · exact ⟨_, rfl, h2⟩
  · exact ⟨_, rfl, h3⟩
  · exact ⟨_, rfl, h4⟩
theorem allLN {l : List LN} (h : ∀ x ∈ l, lnI x) : AllI (l.flatMap cLN) := by
  intro u hu
  obtain ⟨x, hx, hu⟩ := List.mem_flatMap.1 hu
  obtain ⟨h0, h1⟩ := h x hx
  simp [cLN] at hu
  rcases hu with rfl | rfl
  · exact ⟨_, rfl, h0⟩
  · exact ⟨_, rfl, h1⟩
structure kI (k : BK) : Prop where
  d : ∀ x ∈ k.dec, inI x
  e : ∀ x ∈ k.enc, inI x
  r : ∀ x ∈ k.rows, lnI x
/-- Steps and places that are numbers. -/
structure dI (d : List IN × List (Int × Int)) : Prop where
  x : ∀ x ∈ d.1, inI x
  p : ∀ p ∈ d.2, oI64 p.2
theorem psM_mem (ps : List (Int × Int)) : ∀ (M : Int → Option Int) (x v : Int), ps.foldl (fun M p => putM M p.1 p.2) M x = some v → (∃ p ∈ ps, p.2 = v) ∨ M x = some v := by
  induction ps with
  | nil => intro M x v h; exact .inr h
  | cons p ps ih =>
    intro M x v h
    rcases ih _ x v h with ⟨q, h1, h2⟩ | h1
    · exact .inl ⟨q, List.mem_cons_of_mem _ h1, h2⟩
    · change (if x = p.1 then some p.2 else M x) = some v at h1
      split at h1
      · exact .inl ⟨p, List.mem_cons_self, by simpa using h1⟩
      · exact .inr h1
theorem dI.m {d : List IN × List (Int × Int)} (h : dI d) : ∀ x v, psM d.2 x = some v → oI64 v := fun x v hv => by
  rcases psM_mem d.2 _ x v hv with ⟨p, h1, rfl⟩ | h1
  · exact h.p p h1
  · cases h1
theorem oneI_in {x y z : IN} (hx : inI x) (hy : inI y) (h : oneI x y = some z) : inI z := by
  obtain ⟨-, hxa, -⟩ := hx
  obtain ⟨-, hya, -⟩ := hy
  unfold oneI at h
  split at h
  · cases h; exact ⟨by unfold oI64; dsimp only; omega, hxa, hya, by unfold oI64; dsimp only; omega, by unfold oI64; dsimp only; omega⟩
  · split at h
    · cases h; exact ⟨by unfold oI64; dsimp only; omega, hxa, hya, by unfold oI64; dsimp only; omega, by unfold oI64; dsimp only; omega⟩
    · split at h
      · cases h; exact ⟨by unfold oI64; dsimp only; omega, hxa, hya, by unfold oI64; dsimp only; omega, by unfold oI64; dsimp only; omega⟩
      · cases h
theorem fuN_in (nm : List Bool) (l : List IN) (hl : ∀ x ∈ l, inI x) : ∀ (n k : Nat) (out : List IN) (ps : List (Int × Int)), dI (out, ps) → out.length + n ≤ 4000000 → dI (fuN nm l n k out ps) ∧ (fuN nm l n k out ps).1.length ≤ out.length + n := by
  intro n
  induction n with
  | zero => intro k out ps h hn; exact ⟨h, Nat.le_refl _⟩
  | succ n ih =>
    intro k out ps h hn
    unfold fuN
    split
    · exact ⟨h, by dsimp only; omega⟩
    · rename_i x hx
      have hxl : inI x := hl x (List.mem_of_getElem? hx)
      split
      · rename_i z hz
        have hzi : inI z := by
          unfold fuZ at hz
          split at hz
          · rename_i x1 y1 e1 e2 e3
            exact oneI_in (hl _ (List.mem_of_getElem? e1)) (hl _ (List.mem_of_getElem? e2)) hz
          · cases hz
        have q := ih (k + 2) (out ++ [z]) (ps ++ [((k : Int), (out.length : Int))]) ⟨fun y hy => by rcases List.mem_append.1 hy with h1 | h1; exact h.x y h1; simp at h1; subst h1; exact hzi, fun p hp => by rcases List.mem_append.1 hp with h1 | h1; exact h.p p h1; simp at h1; subst h1; unfold oI64; dsimp only; omega⟩ (by simp; omega)
        refine ⟨q.1, by have := q.2; simp at this; omega⟩
      · have q := ih (k + 1) (out ++ [x]) (ps ++ [((k : Int), (out.length : Int))]) ⟨fun y hy => by rcases List.mem_append.1 hy with h1 | h1; exact h.x y h1; simp at h1; subst h1; exact hxl, fun p hp => by rcases List.mem_append.1 hp with h1 | h1; exact h.p p h1; simp at h1; subst h1; unfold oI64; dsimp only; omega⟩ (by simp; omega)
        refine ⟨q.1, by have := q.2; simp at this; omega⟩
theorem fuN_len (nm : List Bool) (l : List IN) : ∀ (n k : Nat) (out : List IN) (ps : List (Int × Int)), k ≤ l.length → (fuN nm l n k out ps).1.length ≤ out.length + (l.length - k) := by
  intro n
  induction n with
  | zero => intro k out ps hk; unfold fuN; dsimp only; omega
  | succ n ih =>
    intro k out ps hk
    unfold fuN
    split
    · dsimp only; omega
    · rename_i x hx
      have hk2 : k < l.length := (List.getElem?_eq_some_iff.1 hx).1
      split
      · rename_i z hz
        have hk3 : k + 1 < l.length := by
          unfold fuZ at hz
          split at hz
          · rename_i x1 y1 e1 e2 e3
            exact (List.getElem?_eq_some_iff.1 e2).1
          · cases hz
        have q := ih (k + 2) (out ++ [z]) (ps ++ [((k : Int), (out.length : Int))]) (by omega)
        simp at q
        omega
      · have q := ih (k + 1) (out ++ [x]) (ps ++ [((k : Int), (out.length : Int))]) (by omega)
        simp at q
        omega
theorem fuA_len (l : List IN) (nm : List Bool) : (fuA l nm).1.length ≤ l.length := by have := fuN_len nm l (l.length + 1) 0 [] [] (by omega); unfold fuA; simpa using this
theorem fuA_in (l : List IN) (nm : List Bool) (hl : ∀ x ∈ l, inI x) (hn : l.length ≤ 1048576) : dI (fuA l nm) := (fuN_in nm l hl (l.length + 1) 0 [] [] ⟨fun x hx => by simp at hx, fun p hp => by simp at hp⟩ (by simp; omega)).1
theorem trK_in (mk : List Bool) (l : List IN) (hl : ∀ x ∈ l, inI x) (hn : l.length ≤ 1048576) : ∀ k, k ≤ l.length → dI (trK mk l k) := by
  intro k
  induction k with
  | zero => intro _; exact ⟨fun x hx => by simp [trK] at hx, fun p hp => by simp [trK] at hp⟩
  | succ k ih =>
    intro hk
    have q := ih (by omega)
    have hle := trK_len mk l k
    unfold trK
    split
    · rename_i x e1 e2
      exact ⟨fun y hy => by rcases List.mem_append.1 hy with h1 | h1; exact q.x y h1; simp at h1; subst h1; exact hl _ (List.mem_of_getElem? e1), fun p hp => by rcases List.mem_append.1 hp with h1 | h1; exact q.p p h1; simp at h1; subst h1; unfold oI64; dsimp only; omega⟩
    · exact q
theorem rnN_in {M : Int → Option Int} (hM : ∀ x v, M x = some v → oI64 v) {x : Int} (hx : oI64 x) : oI64 (rnN M x) := by
  unfold rnN
  cases h : M x with
  | none => exact hx
  | some v => exact hM x v h
theorem rnI_in {M : Int → Option Int} (hM : ∀ x v, M x = some v → oI64 v) {x : IN} (hx : inI x) : inI (rnI M x) := by
  obtain ⟨h0, h1, h2, h3, h4⟩ := hx
  unfold rnI
  split
  all_goals first
    | exact ⟨h0, h1, h2, h3, h4⟩
    | exact ⟨h0, rnN_in hM h1, h2, h3, h4⟩
    | exact ⟨h0, h1, rnN_in hM h2, h3, h4⟩
theorem rnL_in {M : Int → Option Int} (hM : ∀ x v, M x = some v → oI64 v) {x : LN} (hx : lnI x) : lnI (rnL M x) := ⟨hx.1, rnN_in hM hx.2⟩
theorem shB_in {sh : List IN → List LN → List IN × List (Int × Int)} {k : BK} (h : kI k) (h1 : dI (sh k.dec k.rows)) (h2 : dI (sh k.enc [])) : kI (shB sh k) := by
  refine ⟨fun x hx => ?_, fun x hx => ?_, fun x hx => ?_⟩
  · obtain ⟨y, hy, rfl⟩ := List.mem_map.1 hx
    exact rnI_in h1.m (h1.x y hy)
  · obtain ⟨y, hy, rfl⟩ := List.mem_map.1 hx
    exact rnI_in h2.m (h2.x y hy)
  · obtain ⟨y, hy, rfl⟩ := List.mem_map.1 hx
    exact rnL_in h1.m (h.r y hy)
def fuS (l : List IN) (rows : List LN) : List IN × List (Int × Int) := fuA l (mkA (List.replicate l.length false) (nmV l rows))
def trS (l : List IN) (rows : List LN) : List IN × List (Int × Int) := trA l (reA l rows)
def fuB (k : BK) : BK := shB fuS k
def trB (k : BK) : BK := if k.dec.length = 0 ∧ k.enc.length = 0 then k else if ((shB trS k).dec.any (fun x => x.op == 3)) = true then shB trS k else ⟨(shB trS k).dec, (shB trS k).enc, []⟩
theorem fuB_in {k : BK} (h : kI k) (hs : bkSm k) : kI (fuB k) := shB_in h (fuA_in _ _ h.d hs.1) (fuA_in _ _ h.e hs.2.1)
theorem fuB_sm {k : BK} (hs : bkSm k) : bkSm (fuB k) := by
  refine ⟨?_, ?_, ?_⟩
  · show ((fuS k.dec k.rows).1.map _).length ≤ _
    rw [List.length_map]; exact Nat.le_trans (fuA_len _ _) hs.1
  · show ((fuS k.enc []).1.map _).length ≤ _
    rw [List.length_map]; exact Nat.le_trans (fuA_len _ _) hs.2.1
  · show (k.rows.map _).length ≤ _
    rw [List.length_map]; exact hs.2.2
theorem fuShort (w : World) (k : BK) (da ea ra : Option Addr) (dc ec rc : Nat) (h : BkR w k (.slice da k.dec.length dc) (.slice ea k.enc.length ec) (.slice ra k.rows.length rc)) (hs : bkSm k) (hI : kI k) : Calls Try.prog 22 #[.agg #[.slice da k.dec.length dc, .slice ea k.enc.length ec, .slice ra k.rows.length rc], .func (.func 27) #[] #[]] w (BlkA w (fuB k)) :=
  shortenedT w k da ea ra dc ec rc h hs 27 fuS shFused (cf_enter Try.func27 (by kernel_rfl) (by kernel_rfl)) (allIN (fuA_in _ _ hI.d hs.1).x) (allIN (fuA_in _ _ hI.e hs.2.1).x) (allLN hI.r) (fuA_in _ _ hI.d hs.1).m (fuA_in _ _ hI.e hs.2.1).m
theorem trShort (w : World) (k : BK) (da ea ra : Option Addr) (dc ec rc : Nat) (h : BkR w k (.slice da k.dec.length dc) (.slice ea k.enc.length ec) (.slice ra k.rows.length rc)) (hs : bkSm k) (hI : kI k) : Calls Try.prog 22 #[.agg #[.slice da k.dec.length dc, .slice ea k.enc.length ec, .slice ra k.rows.length rc], .func (.func 23) #[] #[]] w (BlkA w (shB trS k)) :=
  have h1 : dI (trS k.dec k.rows) := trK_in _ _ hI.d hs.1 _ (Nat.le_refl _)
  have h2 : dI (trS k.enc []) := trK_in _ _ hI.e hs.2.1 _ (Nat.le_refl _)
  shortenedT w k da ea ra dc ec rc h hs 23 trS shTrimmed (cf_enter Try.func23 (by kernel_rfl) (by kernel_rfl)) (allIN h1.x) (allIN h2.x) (allLN hI.r) h1.m h2.m
theorem BkO.set3 {w : World} {base base' p : Nat} {k : BK} {d e r a b c : Value} (h : BkO w base k d e r) (hp : p < base) (hb : base' ≤ base) : BkO (((w.setCell ⟨p, 0, none⟩ a).setCell ⟨p, 1, none⟩ b).setCell ⟨p, 2, none⟩ c) base' k d e r := ⟨own_mono (own_set3 h.hd hp) hb, own_mono (own_set3 h.he hp) hb, own_mono (own_set3 h.hr hp) hb, h.ap⟩
theorem below_set3 {w u : World} {p : Nat} {a b c : Value} (h : Below w.heap.size w u) (hp : w.heap.size ≤ p) : Below w.heap.size w (((u.setCell ⟨p, 0, none⟩ a).setCell ⟨p, 1, none⟩ b).setCell ⟨p, 2, none⟩ c) := by
  have q := keepO3 (f := fun j => j ≠ p) (w := u) (p := p) (a := a) (b := b) (c := c) (fun h => h rfl)
  exact ⟨q.os.trans h.os, q.tape.trans h.tape, q.output.trans h.output, Nat.le_trans h.size q.size, fun j hj => (q.block j (by have := h.size; omega) (by show j ≠ p; omega)).trans (h.block j hj)⟩
theorem fuseT (w : World) (k : BK) (da ea ra : Option Addr) (dc ec rc : Nat) (h : BkR w k (.slice da k.dec.length dc) (.slice ea k.enc.length ec) (.slice ra k.rows.length rc)) (hs : bkSm k) (hI : kI k) : Calls Try.prog 12 #[.agg #[.slice da k.dec.length dc, .slice ea k.enc.length ec, .slice ra k.rows.length rc]] w (BlkA w (fuB k)) := by
  have HC := hid fun W (hW : Below w.heap.size w W) => fuShort W k da ea ra dc ec rc (h.kept hW) hs hI
  clear h hs hI
  go_enter Try.func12, Try.ntmps12
  go_wp2_with fail
  have HBB : Hid (Below w.heap.size w ((w.alloc (.cells #[.slice da k.dec.length dc, .slice ea k.enc.length ec, .slice ra k.rows.length rc] 25)).alloc (.cells #[.slice none 0 0, .slice none 0 0, .slice none 0 0] 25))) := hid (by exact blBy)
  have hsz : ((w.alloc (.cells #[.slice da k.dec.length dc, .slice ea k.enc.length ec, .slice ra k.rows.length rc] 25)).alloc (.cells #[.slice none 0 0, .slice none 0 0, .slice none 0 0] 25)).heap.size = w.heap.size + 2 := by simp
  have BB : Hid (Blk ((w.alloc (.cells #[.slice da k.dec.length dc, .slice ea k.enc.length ec, .slice ra k.rows.length rc] 25)).alloc (.cells #[.slice none 0 0, .slice none 0 0, .slice none 0 0] 25)) (w.heap.size + 1) 25 #[.slice none 0 0, .slice none 0 0, .slice none 0 0]) := hid (Blk.newAt (by simp))
  have BA : Hid (Blk ((w.alloc (.cells #[.slice da k.dec.length dc, .slice ea k.enc.length ec, .slice ra k.rows.length rc] 25)).alloc (.cells #[.slice none 0 0, .slice none 0 0, .slice none 0 0] 25)) w.heap.size 25 #[.slice da k.dec.length dc, .slice ea k.enc.length ec, .slice ra k.rows.length rc]) := hid ((Blk.new _ _ _).kept (below_alloc _))
  generalize ((w.alloc (.cells #[.slice da k.dec.length dc, .slice ea k.enc.length ec, .slice ra k.rows.length rc] 25)).alloc (.cells #[.slice none 0 0, .slice none 0 0, .slice none 0 0] 25)) = w0 at *
  refine (HC.out _ HBB.out).mono ?_
  rintro e u ⟨da', dc', ea', ec', ra', rc', rfl, hbk, hb1⟩
  have HK := hid hbk
  have HBU := hid (below_trans HBB.out hb1)
  have B2 := BB.out.kept hb1
  have x2 := B2.cellF
  have y2 := B2.frz
  have z2 := B2.lt
  clear hbk hb1 B2
  go_wp2
  exact bodyPost_ret (v := .agg #[.slice da' (fuB k).dec.length dc', .slice ea' (fuB k).enc.length ec', .slice ra' (fuB k).rows.length rc']) (by simp [results, Try.results12, go_sem, x2]) rfl ⟨da', dc', ea', ec', ra', rc', rfl, HK.out.set3 (by omega) (by omega), below_set3 HBU.out (by omega)⟩
theorem trimT (w : World) (k : BK) (da ea ra : Option Addr) (dc ec rc : Nat) (h : BkR w k (.slice da k.dec.length dc) (.slice ea k.enc.length ec) (.slice ra k.rows.length rc)) (hs : bkSm k) (hI : kI k) : Calls Try.prog 10 #[.agg #[.slice da k.dec.length dc, .slice ea k.enc.length ec, .slice ra k.rows.length rc]] w (BlkA w (trB k)) := by
  have HC := hid fun W (hW : Below w.heap.size w W) => trShort W k da ea ra dc ec rc (h.kept hW) hs hI
  have HD := hid fun W (hW : Below w.heap.size w W) => copiedT W k da ea ra dc ec rc (h.kept hW) hs
  have HE := hid fun W => isEnumO W k da ea ra dc ec rc
  clear h hs hI
  have hen : (decide (k.dec.length = 0) && decide (k.enc.length = 0)) = decide (k.dec.length = 0 ∧ k.enc.length = 0) := by rw [Bool.decide_and]
  rw [hen] at HE
  clear hen
  obtain ⟨T, hT⟩ : ∃ T, T = trB k := ⟨_, rfl⟩
  rw [← hT]
  have HT := hid hT
  clear hT
  go_enter Try.func10, Try.ntmps10
  go_wp2_with fail
  have HBB : Hid (Below w.heap.size w ((w.alloc (.cells #[.slice da k.dec.length dc, .slice ea k.enc.length ec, .slice ra k.rows.length rc] 25)).alloc (.cells #[.slice none 0 0, .slice none 0 0, .slice none 0 0] 25))) := hid (by exact blBy)
  have hsz : ((w.alloc (.cells #[.slice da k.dec.length dc, .slice ea k.enc.length ec, .slice ra k.rows.length rc] 25)).alloc (.cells #[.slice none 0 0, .slice none 0 0, .slice none 0 0] 25)).heap.size = w.heap.size + 2 := by simp
  have BB : Hid (Blk ((w.alloc (.cells #[.slice da k.dec.length dc, .slice ea k.enc.length ec, .slice ra k.rows.length rc] 25)).alloc (.cells #[.slice none 0 0, .slice none 0 0, .slice none 0 0] 25)) (w.heap.size + 1) 25 #[.slice none 0 0, .slice none 0 0, .slice none 0 0]) := hid (Blk.newAt (by simp))
  have BA : Hid (Blk ((w.alloc (.cells #[.slice da k.dec.length dc, .slice ea k.enc.length ec, .slice ra k.rows.length rc] 25)).alloc (.cells #[.slice none 0 0, .slice none 0 0, .slice none 0 0] 25)) w.heap.size 25 #[.slice da k.dec.length dc, .slice ea k.enc.length ec, .slice ra k.rows.length rc]) := hid ((Blk.new _ _ _).kept (below_alloc _))
  generalize ((w.alloc (.cells #[.slice da k.dec.length dc, .slice ea k.enc.length ec, .slice ra k.rows.length rc] 25)).alloc (.cells #[.slice none 0 0, .slice none 0 0, .slice none 0 0] 25)) = w0 at *
  refine (HE.out _).mono ?_
  rintro e u0 ⟨rfl, hb0⟩
  by_cases hen : k.dec.length = 0 ∧ k.enc.length = 0
  · rw [decide_eq_true hen]
    have HE2 : Hid (T = k) := hid (by rw [HT.out]; unfold trB; rw [if_pos hen])
    replace HBB := hid (below_trans HBB.out hb0)
    replace BB := hid (BB.out.kept hb0)
    have x1 := (BA.out.kept hb0).cellF
    have z1 := (BA.out.kept hb0).lt
    have hs0 := hb0.size
    clear hb0 hen
    go_wp2_with fail
    refine (HD.out _ HBB.out).mono ?_
    rintro e u ⟨da', dc', ea', ec', ra', rc', rfl, hbk, hb1⟩
    have HK := hid hbk
    have HBU := hid (below_trans HBB.out hb1)
    have B2 := BB.out.kept hb1
    have x2 := B2.cellF
    have y2 := B2.frz
    have z2 := B2.lt
    clear hbk hb1 B2
    go_wp2
    exact bodyPost_ret (v := .agg #[.slice da' k.dec.length dc', .slice ea' k.enc.length ec', .slice ra' k.rows.length rc']) (by simp [results, Try.results10, go_sem, x2]) rfl (by rw [HE2.out]; exact ⟨da', dc', ea', ec', ra', rc', rfl, HK.out.set3 (by omega) (by omega), below_set3 HBU.out (by omega)⟩)
  · rw [decide_eq_false hen]
    have HE2 : Hid (T = if ((shB trS k).dec.any (fun x => x.op == 3)) = true then shB trS k else ⟨(shB trS k).dec, (shB trS k).enc, []⟩) := hid (by rw [HT.out]; unfold trB; rw [if_neg hen])
    clear HT
    replace HBB := hid (below_trans HBB.out hb0)
    replace BB := hid (BB.out.kept hb0)
    have x1 := (BA.out.kept hb0).cellF
    have z1 := (BA.out.kept hb0).lt
    have hs0 := hb0.size
    clear hb0 hen
    go_wp2_with fail
    refine (HC.out _ HBB.out).mono ?_
    rintro e u ⟨da', dc', ea', ec', ra', rc', rfl, hbk, hb1⟩
    generalize shB trS k = kk at *
    have HXD : Hid (∀ j, (Value.slice da' kk.dec.length dc').ownBlock = some j → j < u.heap.size) := hid fun j hj => (own_type hbk.hd hj).2.1
    have HXE : Hid (∀ j, (Value.slice ea' kk.enc.length ec').ownBlock = some j → j < u.heap.size) := hid fun j hj => (own_type hbk.he hj).2.1
    have HK := hid (hbk.kept (below_alloc (.cells #[.slice da' kk.dec.length dc', .slice ea' kk.enc.length ec', .slice ra' kk.rows.length rc'] 25)))
    have BO : Hid (Blk (u.alloc (.cells #[.slice da' kk.dec.length dc', .slice ea' kk.enc.length ec', .slice ra' kk.rows.length rc'] 25)) u.heap.size 25 #[.slice da' kk.dec.length dc', .slice ea' kk.enc.length ec', .slice ra' kk.rows.length rc']) := hid (Blk.new _ _ _)
    have HBU := hid (below_trans (below_trans HBB.out hb1) (below_alloc (.cells #[.slice da' kk.dec.length dc', .slice ea' kk.enc.length ec', .slice ra' kk.rows.length rc'] 25)))
    replace BB := hid ((BB.out.kept hb1).kept (below_alloc (.cells #[.slice da' kk.dec.length dc', .slice ea' kk.enc.length ec', .slice ra' kk.rows.length rc'] 25)))
    have hs1 := hb1.size
    clear hbk hb1 x1 z1
    go_wp2_with fail
    generalize u.alloc (.cells #[.slice da' kk.dec.length dc', .slice ea' kk.enc.length ec', .slice ra' kk.rows.length rc'] 25) = u1 at *
    refine (hasJumpT u1 kk.dec da' dc' (own_row HK.out.hd (fun _ _ => trivial))).mono ?_
    rintro e u2 ⟨rfl, hb2⟩
    replace HK := hid (HK.out.kept hb2)
    replace BO := hid (BO.out.kept hb2)
    replace BB := hid (BB.out.kept hb2)
    replace HBU := hid (below_trans HBU.out hb2)
    have x3 := BO.out.cellF
    have y3 := BO.out.frz
    have z3 := BO.out.lt
    have x2 := BB.out.cellF
    have y2 := BB.out.frz
    have z2 := BB.out.lt
    have hne : w.heap.size + 1 ≠ u.heap.size := by omega
    clear hb2
    cases hj : kk.dec.any (fun x => x.op == 3) with
    | true =>
      replace HE2 : Hid (T = kk) := hid (by rw [HE2.out, if_pos hj])
      clear hj
      go_wp2
      exact bodyPost_ret (v := .agg #[.slice da' kk.dec.length dc', .slice ea' kk.enc.length ec', .slice ra' kk.rows.length rc']) (by simp [results, Try.results10, go_sem, x2]) rfl (by rw [HE2.out]; exact ⟨da', dc', ea', ec', ra', rc', rfl, HK.out.set3 (by omega) (by omega), below_set3 HBU.out (by omega)⟩)
    | false =>
      replace HE2 : Hid (T = ⟨kk.dec, kk.enc, []⟩) := hid (by rw [HE2.out, if_neg (by rw [hj]; simp)])
      clear hj
      go_wp2
      have hkp : Keep (fun j => j ≠ u.heap.size) u2 (u2.setCell ⟨u.heap.size, 2, none⟩ (.slice none 0 0)) := Keep.setCell _ _ _ (fun h => h rfl)
      have HK2 : BkO (u2.setCell ⟨u.heap.size, 2, none⟩ (.slice none 0 0)) u0.heap.size ⟨kk.dec, kk.enc, []⟩ (.slice da' kk.dec.length dc') (.slice ea' kk.enc.length ec') (.slice none 0 0) := ⟨own_keep HK.out.hd (fun j hj => by have := HXD.out j hj; show j ≠ u.heap.size; omega) hkp, own_keep HK.out.he (fun j hj => by have := HXE.out j hj; show j ≠ u.heap.size; omega) hkp, World.ownsRow_nil _ _ _ _, HK.out.ap⟩
      have hbu : Below w.heap.size w (u2.setCell ⟨u.heap.size, 2, none⟩ (.slice none 0 0)) := by
        have h := HBU.out
        exact ⟨hkp.os.trans h.os, hkp.tape.trans h.tape, hkp.output.trans h.output, Nat.le_trans h.size hkp.size, fun j hj => (hkp.block j (by have := h.size; omega) (by show j ≠ u.heap.size; omega)).trans (h.block j hj)⟩
      exact bodyPost_ret (v := .agg #[.slice da' kk.dec.length dc', .slice ea' kk.enc.length ec', .slice none 0 0]) (by simp [results, Try.results10, go_sem, x2]) rfl (by rw [HE2.out]; exact ⟨da', dc', ea', ec', none, 0, rfl, HK2.set3 (by omega) (by omega), below_set3 hbu (by omega)⟩)
def RiseT (l : List LN) : Prop := ∀ i j : Nat, i < j → ∀ x y : LN, l[i]? = some x → l[j]? = some y → x.tag < y.tag
theorem nanT (w : World) (x : Int) : Calls Try.prog 82 #[.int .i64 x] w fun e w' => e = .returned (.bool false) ∧ w' = w := by
  go_enter Try.func82, Try.ntmps82
  go_wp2
  go_ret
  exact ⟨rfl, rfl⟩
theorem cmpGt (w : World) (x y : Int) (h : y < x) : Calls Try.prog 62 #[.int .i64 x, .int .i64 y] w fun e w' => e = .returned (.int .i64 1) ∧ w' = w := by
  have h1 : ¬ x < y := by omega
  have HN := hid fun (W : World) (x : Int) => nanT W x
  go_enter Try.func62, Try.ntmps62
  go_wp2_with (go_at_call 82; refine (HN.out _ _).mono ?_; rintro e w1 ⟨rfl, rfl⟩)
  go_ret
  exact ⟨rfl, rfl⟩
theorem byTagT (w : World) (x y : LN) (h : y.tag < x.tag) : Calls Try.prog 61 #[.agg #[.int .i64 x.tag, .int .i64 x.pl], .agg #[.int .i64 y.tag, .int .i64 y.pl]] w fun e w' => e = .returned (.int .i64 1) ∧ Below w.heap.size w w' := by
  have HC := hid fun (W : World) => cmpGt W x.tag y.tag h
  clear h
  go_enter Try.func61, Try.ntmps61
  go_wp2_with (go_at_call 62; refine (HC.out _).mono ?_; rintro e w1 ⟨rfl, rfl⟩)
  go_ret
  exact ⟨rfl, by exact blBy⟩
theorem oneTagT (w : World) (x y : LN) (h : y.tag < x.tag) : Calls Try.prog 64 #[.agg #[.int .i64 x.tag, .int .i64 x.pl], .agg #[.int .i64 y.tag, .int .i64 y.pl]] w fun e w' => e = .returned (.bool false) ∧ Below w.heap.size w w' := by
  have h1 : (x.tag == y.tag) = false := by simp; omega
  go_enter Try.func64, Try.ntmps64
  go_wp2
  go_ret
  exact ⟨rfl, by exact blBy⟩
theorem own_two {w : World} {base n c : Nat} {a : Option Addr} {l : List LN} (h : w.ownsRow base 28 2 (.slice a n c) n (l.flatMap cLN)) (hn : n = l.length) (h0 : 0 < n) : ∃ g, a = some ⟨g, 0, none⟩ ∧ g < w.heap.size ∧ ∀ i x, l[i]? = some x → (w.cell? ⟨g, i * 2, none⟩ = some (.int .i64 x.tag) ∧ w.cell? ⟨g, i * 2 + 1, none⟩ = some (.int .i64 x.pl)) := by
  obtain ⟨g, rfl⟩ := (own_at0 h).1 h0
  refine ⟨g, rfl, (own_type (k := g) h rfl).2.1, fun i x hx => ?_⟩
  obtain ⟨hi, rfl⟩ := List.getElem?_eq_some_iff.1 hx
  have e0 := (own_cell0 h (flat_at (g := cLN) (K := 2) (j := 0) (fun _ => rfl) hi (u := .int .i64 l[i].tag) rfl)).1
  have e1 := (own_cell0 h (flat_at (g := cLN) (K := 2) (j := 1) (fun _ => rfl) hi (u := .int .i64 l[i].pl) rfl)).1
  exact ⟨e0, e1⟩
theorem insertT (w : World) (base c : Nat) (a : Option Addr) (l : List LN) (ho : w.ownsRow base 28 2 (.slice a l.length c) l.length (l.flatMap cLN)) (hr : RiseT l) (hn : l.length ≤ 1048576) : Calls Try.prog 94 #[.slice a l.length c, .int .i64 0, .int .i64 (l.length : Int), .func (.func 61) #[] #[]] w fun e w' => e = .returned (.tuple #[]) ∧ Below w.heap.size w w' := by
  have HO := hid ho
  have HR := hid hr
  clear ho hr
  go_enter Try.func94, Try.ntmps94
  go_wp2
  go_loopw [8] (fun r wr => ∃ i : Nat, r = .int .i64 i ∧ 1 ≤ i ∧ i ≤ l.length + 1 ∧ Hid (Below w.heap.size w wr)) (fun r _ => l.length + 1 - (intOf r).toNat)
  case atStart => exact ⟨1, by simp, by omega, by omega, hid (Below.refl _ _)⟩
  case round =>
    obtain ⟨i, rfl, hi1, hi2, hb⟩ := hrel
    by_cases hlt : i < l.length
    · have k1 : (i : Int) < (l.length : Int) := by omega
      obtain ⟨g, rfl, hg, hcc⟩ := own_two (own_kept HO.out hb.out) rfl (by omega)
      obtain ⟨c0, c1⟩ := hcc i l[i] (List.getElem?_eq_getElem hlt)
      obtain ⟨d0, d1⟩ := hcc (i - 1) l[i - 1] (List.getElem?_eq_getElem (by omega))
      have hlt2 := HR.out (i - 1) i (by omega) l[i - 1] l[i] (List.getElem?_eq_getElem (by omega)) (List.getElem?_eq_getElem hlt)
      have HC := hid fun (W : World) => byTagT W l[i] l[i - 1] hlt2
      have hw1 : IntKind.i64.wrap ((i : Int) - 1) = ((i - 1 : Nat) : Int) := by rw [IntKind.wrap_i64]; omega
      have hw2 : IntKind.i64.wrap ((i : Int) + 1) = (i : Int) + 1 := by rw [IntKind.wrap_i64]; omega
      clear hcc hlt2
      generalize l[i] = x at *
      generalize l[i - 1] = y at *
      generalize ei : i - 1 = i1 at *
      have g0 : (0 < i) = True := eq_true (by omega)
      have g1 : (0 : Int) ≤ (i1 : Int) := by omega
      have g2 : (i1 : Int) < (l.length : Int) := by omega
      have g3 : (0 : Int) ≤ (i : Int) := by omega
      have HSF : Hid (∀ W, Below wr.heap.size wr W → W.cell? ⟨g, i * 2, none⟩ = some (.int .i64 x.tag) ∧ W.cell? ⟨g, i * 2 + 1, none⟩ = some (.int .i64 x.pl) ∧ W.cell? ⟨g, i1 * 2, none⟩ = some (.int .i64 y.tag) ∧ W.cell? ⟨g, i1 * 2 + 1, none⟩ = some (.int .i64 y.pl)) := hid fun W hW => ⟨cell_below c0 hW, cell_below c1 hW, cell_below d0 hW, cell_below d1 hW⟩
      clear c0 c1 d0 d1
      generalize wr = W1 at *
      go_wp2
      go_loopw [9] (fun r wr2 => r = .int .i64 (i : Int) ∧ Hid (Below W1.heap.size W1 wr2)) (fun _ _ => 0)
      case atStart => exact ⟨rfl, hid (Below.refl _ _)⟩
      case round =>
        obtain ⟨rfl, hb2⟩ := hrel
        have HW : Hid (Below W1.heap.size W1 wr.drew) := hid (below_trans hb2.out (below_drew1 _))
        clear hb2
        go_wp2_with fail
        go_region_held3 (fun W => W.cell? ⟨g, i * 2, none⟩ = some (.int .i64 x.tag) ∧ W.cell? ⟨g, i * 2 + 1, none⟩ = some (.int .i64 x.pl) ∧ W.cell? ⟨g, i1 * 2, none⟩ = some (.int .i64 y.tag) ∧ W.cell? ⟨g, i1 * 2 + 1, none⟩ = some (.int .i64 y.pl)) (exact HSF.out _ HW.out) ((refine (HC.out _).mono ?_; rintro e u ⟨rfl, hbu⟩; replace HW := hid (below_trans HW.out hbu); clear hbu))
        go_wp2
        exact ⟨⟨i + 1, by simp, by omega, by omega, hid (below_trans hb.out HW.out)⟩, by simp [intOf]; omega⟩
    · have k1 : ¬ (i : Int) < (l.length : Int) := by omega
      go_wp2
      refine bodyPost_end (v := .tuple #[]) (by simp [results, Try.results94, go_sem]) rfl ⟨rfl, hb.out⟩
theorem stableT (w : World) (base c : Nat) (a : Option Addr) (l : List LN) (ho : w.ownsRow base 28 2 (.slice a l.length c) l.length (l.flatMap cLN)) (hr : RiseT l) (hn : l.length < 20) : Calls Try.prog 81 #[.slice a l.length c, .int .i64 (l.length : Int), .func (.func 61) #[] #[]] w fun e w' => e = .returned (.tuple #[]) ∧ Below w.heap.size w w' := by
  have HC := hid (insertT w base c a l ho hr (by omega))
  have k1 : ((20 : Int) ≤ (l.length : Int)) = False := eq_false (by omega)
  have k2 : ((20 : Int) < (l.length : Int)) = False := eq_false (by omega)
  have k3 : (20 ≤ l.length) = False := eq_false (by omega)
  have k4 : (20 < l.length) = False := eq_false (by omega)
  clear ho hr
  go_enter Try.func81, Try.ntmps81
  go_wp2
  go_loopw [7, 8] (fun p q wr => p = .int .i64 0 ∧ q = .int .i64 20 ∧ wr = w) (fun _ _ _ => 0)
  case atStart => exact ⟨rfl, rfl, rfl⟩
  case round =>
    obtain ⟨rfl, rfl, rfl⟩ := hrel
    go_wp2_with fail
    refine HC.out.mono ?_
    rintro e u ⟨rfl, hbu⟩
    have HB := hid hbu
    clear hbu HC
    go_wp2
    go_loopw [6] (fun p wr2 => p = .int .i64 20 ∧ wr2 = u) (fun _ _ => 0)
    case atStart => exact ⟨rfl, rfl⟩
    case round =>
      obtain ⟨rfl, rfl⟩ := hrel
      go_wp2
      refine bodyPost_end (v := .tuple #[]) (by simp [results, Try.results81, go_sem]) rfl ⟨rfl, HB.out⟩
theorem sortStT (w : World) (base c : Nat) (a : Option Addr) (l : List LN) (ho : w.ownsRow base 28 2 (.slice a l.length c) l.length (l.flatMap cLN)) (hr : RiseT l) (hn : l.length < 20) : Calls Try.prog 60 #[.slice a l.length c, .func (.func 61) #[] #[]] w fun e w' => e = .returned (.tuple #[]) ∧ Below w.heap.size w w' := by
  have HC := hid (stableT w base c a l ho hr hn)
  clear ho hr
  go_enter Try.func60, Try.ntmps60
  go_wp2_with fail
  refine HC.out.mono ?_
  rintro e u ⟨rfl, hbu⟩
  go_wp2
  refine bodyPost_end (v := .tuple #[]) (by simp [results, Try.results60, go_sem]) rfl ⟨rfl, hbu⟩
theorem compactT (w : World) (base c : Nat) (a : Option Addr) (l : List LN) (ho : w.ownsRow base 28 2 (.slice a l.length c) l.length (l.flatMap cLN)) (hr : RiseT l) (hn : l.length ≤ 1048576) : Calls Try.prog 63 #[.slice a l.length c, .func (.func 64) #[] #[]] w fun e w' => e = .returned (.slice a l.length c) ∧ Below w.heap.size w w' := by
  by_cases h2 : l.length < 2
  · have k1 : ((l.length : Int) < 2) = True := eq_true (by omega)
    have k2 : (l.length < 2) = True := eq_true (by omega)
    clear ho hr
    go_enter Try.func63, Try.ntmps63
    go_wp2
    go_ret
    exact ⟨rfl, Below.refl _ _⟩
  · have k1 : ((l.length : Int) < 2) = False := eq_false (by omega)
    have k2 : (l.length < 2) = False := eq_false (by omega)
    have HO := hid ho
    have HR := hid hr
    clear ho hr
    go_enter Try.func63, Try.ntmps63
    go_wp2
    clear k1 k2
    go_loopw [5] (fun r wr => ∃ i : Nat, r = .int .i64 i ∧ 1 ≤ i ∧ i ≤ l.length ∧ Hid (Below w.heap.size w wr)) (fun r _ => l.length + 1 - (intOf r).toNat)
    case atStart => exact ⟨1, by simp, by omega, by omega, hid (Below.refl _ _)⟩
    case round =>
      obtain ⟨i, rfl, hi1, hi2, hb⟩ := hrel
      by_cases hlt : i < l.length
      · have k1 : (i : Int) < (l.length : Int) := by omega
        obtain ⟨g, rfl, hg, hcc⟩ := own_two (own_kept HO.out hb.out) rfl (by omega)
        obtain ⟨c0, c1⟩ := hcc i l[i] (List.getElem?_eq_getElem hlt)
        obtain ⟨d0, d1⟩ := hcc (i - 1) l[i - 1] (List.getElem?_eq_getElem (by omega))
        have hlt2 := HR.out (i - 1) i (by omega) l[i - 1] l[i] (List.getElem?_eq_getElem (by omega)) (List.getElem?_eq_getElem hlt)
        have HC := hid fun (W : World) => oneTagT W l[i] l[i - 1] hlt2
        have hw1 : IntKind.i64.wrap ((i : Int) - 1) = ((i - 1 : Nat) : Int) := by rw [IntKind.wrap_i64]; omega
        have hw2 : IntKind.i64.wrap ((i : Int) + 1) = (i : Int) + 1 := by rw [IntKind.wrap_i64]; omega
        clear hcc hlt2
        generalize l[i] = x at *
        generalize l[i - 1] = y at *
        generalize ei : i - 1 = i1 at *
        have g1 : (0 : Int) ≤ (i1 : Int) := by omega
        have g2 : (i1 : Int) < (l.length : Int) := by omega
        have g3 : (0 : Int) ≤ (i : Int) := by omega
        have HSF : Hid (∀ W, Below wr.heap.size wr W → W.cell? ⟨g, i * 2, none⟩ = some (.int .i64 x.tag) ∧ W.cell? ⟨g, i * 2 + 1, none⟩ = some (.int .i64 x.pl) ∧ W.cell? ⟨g, i1 * 2, none⟩ = some (.int .i64 y.tag) ∧ W.cell? ⟨g, i1 * 2 + 1, none⟩ = some (.int .i64 y.pl)) := hid fun W hW => ⟨cell_below c0 hW, cell_below c1 hW, cell_below d0 hW, cell_below d1 hW⟩
        clear c0 c1 d0 d1
        have HW : Hid (Below wr.heap.size wr wr.drew) := hid (below_drew1 _)
        go_wp2_with fail
        go_region_held3 (fun W => W.cell? ⟨g, i * 2, none⟩ = some (.int .i64 x.tag) ∧ W.cell? ⟨g, i * 2 + 1, none⟩ = some (.int .i64 x.pl) ∧ W.cell? ⟨g, i1 * 2, none⟩ = some (.int .i64 y.tag) ∧ W.cell? ⟨g, i1 * 2 + 1, none⟩ = some (.int .i64 y.pl)) (exact HSF.out _ HW.out) ((refine (HC.out _).mono ?_; rintro e u ⟨rfl, hbu⟩; replace HW := hid (below_trans HW.out hbu); clear hbu))
        go_wp2
        exact ⟨⟨i + 1, by simp, by omega, by omega, hid (below_trans hb.out HW.out)⟩, by simp [intOf]; omega⟩
      · have k1 : ¬ (i : Int) < (l.length : Int) := by omega
        go_wp2
        go_ret
        exact ⟨rfl, hb.out⟩
theorem byTagsT (w : World) (base c : Nat) (a : Option Addr) (l : List LN) (ho : w.ownsRow base 28 2 (.slice a l.length c) l.length (l.flatMap cLN)) (hr : RiseT l) (hn : l.length < 20) : Calls Try.prog 47 #[.slice a l.length c] w fun e w' => e = .returned (.slice a l.length c) ∧ Below w.heap.size w w' := by
  have HC := hid (sortStT w base c a l ho hr hn)
  have HD := hid fun W (hW : Below w.heap.size w W) => compactT W base c a l (own_kept ho hW) hr (by omega)
  clear ho hr
  go_enter Try.func47, Try.ntmps47
  go_wp2_with fail
  refine HC.out.mono ?_
  rintro e u ⟨rfl, hbu⟩
  have HB := hid hbu
  clear hbu
  go_wp2_with fail
  refine (HD.out _ HB.out).mono ?_
  rintro e u2 ⟨rfl, hbu⟩
  have HB2 := hid (below_trans HB.out hbu)
  clear hbu
  go_wp2
  go_ret
  exact ⟨rfl, HB2.out⟩
def chN (l : List IN) : Nat → Nat → List LN → List LN × Nat
  | 0, k, r => (r, k)
  | n + 1, k, r => match l[k]? with
    | none => (r, k)
    | some x => if x.op = 2 then (if x.b ≤ (k : Int) then (r ++ [⟨x.a, (k : Int) + 1⟩], k) else chN l n x.b.toNat (r ++ [⟨x.a, (k : Int) + 1⟩])) else (r, k)
def chA (l : List IN) : List LN × Nat := chN l (l.length + 1) 1 []
theorem chN_out {l : List IN} {n k : Nat} {r : List LN} (hk : l.length ≤ k) : chN l n k r = (r, k) := by
  cases n with
  | zero => rfl
  | succ n => unfold chN; rw [List.getElem?_eq_none hk]
theorem chN_step {l : List IN} {n k : Nat} {r : List LN} (hk : k < l.length) : chN l (n + 1) k r = if l[k].op = 2 then (if l[k].b ≤ (k : Int) then (r ++ [⟨l[k].a, (k : Int) + 1⟩], k) else chN l n l[k].b.toNat (r ++ [⟨l[k].a, (k : Int) + 1⟩])) else (r, k) := by
  conv => lhs; unfold chN
  rw [List.getElem?_eq_getElem hk]
theorem appendLn (s : Nat) (base : Nat) (U : World) (oa : Option Addr) (oc : Nat) (out : List LN) (y : LN) (h : U.ownsRow base 28 2 (.slice oa out.length oc) out.length (out.flatMap cLN)) (hb : base ≤ U.heap.size) (hn : out.length ≤ 4000000) (hs : U.heap.size = s) : ∃ a c w', Hid ((Builtin.append_ #[23, 23] 23 #[.slice oa out.length oc, .slice (some ⟨s, 0, none⟩) 1 1]).run Try.prog (U.alloc (.cells #[.int .i64 y.tag, .int .i64 y.pl] 28)) = .ok (.slice a (out.length + 1) c) w') ∧ Hid (w'.ownsRow base 28 2 (.slice a (out ++ [y]).length c) (out ++ [y]).length ((out ++ [y]).flatMap cLN)) ∧ Hid (Grow U w' (.slice oa out.length oc) (.slice a (out.length + 1) c)) := by
  subst hs
  obtain ⟨v', w', h1, h2, h3⟩ := append_st 28 23 2 16 (.agg #[.int .i64 0, .int .i64 0]) Try.underlying23 Try.infoOL rfl (by decide) (by decide) base _ out.length (out.flatMap cLN) U #[.int .i64 y.tag, .int .i64 y.pl] rfl (fun u hu => by simp at hu; rcases hu with rfl | rfl <;> rfl) h hb hn
  obtain ⟨a, c, rfl⟩ := own_shape h2
  exact ⟨a, c, w', hid h1, hid (by have q := h2; rw [List.flatMap_append, List.length_append]; exact q), hid h3⟩
theorem chainT (w : World) (l : List IN) (la : Option Addr) (lc : Nat) (hl : RowS w AnyZ 5 (.slice la l.length lc) l.length (l.flatMap cIN)) (hn : l.length ≤ 1048576) (hr : RiseT (chA l).1) (h20 : (chA l).1.length < 20) : Calls Try.prog 28 #[.slice la l.length lc] w fun e w' => ∃ a c, e = .returned (.tuple #[.slice a (chA l).1.length c, .int .i64 ((chA l).2 : Int)]) ∧ w'.ownsRow w.heap.size 28 2 (.slice a (chA l).1.length c) (chA l).1.length ((chA l).1.flatMap cLN) ∧ Below w.heap.size w w' := by
  have HL := hid hl
  have HBT := hid fun (W : World) (c : Nat) (a : Option Addr) (ho : W.ownsRow w.heap.size 28 2 (.slice a (chA l).1.length c) (chA l).1.length ((chA l).1.flatMap cLN)) => byTagsT W w.heap.size c a (chA l).1 ho hr h20
  have hA : chN l (l.length + 1) 1 [] = chA l := rfl
  generalize chA l = A at *
  have HA := hid hA
  clear hl hr h20 hA
  go_enter Try.func28, Try.ntmps28
  go_wp2
  go_loopw [2, 4] (fun o r wr => ∃ (k : Nat) (va : Option Addr) (vc : Nat) (out : List LN) (n : Nat), o = .slice va out.length vc ∧ r = .int .i64 k ∧ Hid (chN l n k out = A) ∧ l.length < n + k ∧ 1 ≤ k ∧ Hid (out.length < k ∧ out.length ≤ l.length) ∧ Hid (wr.ownsRow w.heap.size 28 2 (.slice va out.length vc) out.length (out.flatMap cLN)) ∧ Hid (Below w.heap.size w wr)) (fun _ r _ => l.length + 1 - (intOf r).toNat)
  case atStart => exact ⟨1, none, 0, [], l.length + 1, rfl, by simp, HA, by omega, by omega, hid (by simp), hid (World.ownsRow_nil _ _ _ _), hid (Below.refl _ _)⟩
  case round =>
    obtain ⟨k, va, vc, out, n, rfl, rfl, HN, hnk, hk1, HOL, HO, hb⟩ := hrel
    have hol : out.length ≤ 4000000 := by have := HOL.out; omega
    by_cases hlt : k < l.length
    · have k1 : ((k : Int) < (l.length : Int)) = True := eq_true (by omega)
      have k1n : (k < l.length) = True := eq_true hlt
      have j0 : (0 : Int) ≤ (k : Int) := by omega
      have j1 : (k : Int) < (l.length : Int) := by omega
      obtain ⟨n, rfl⟩ : ∃ n', n = n' + 1 := ⟨n - 1, by
        rcases n with _ | n
        · omega
        · rfl⟩
      obtain ⟨lb, lo, rfl, hcc⟩ := row_of (HL.out.kept hb.out) (by omega) (by omega)
      have c0 := hcc (k * 5 + 0) _ (flat_at (g := cIN) (K := 5) (fun _ => rfl) hlt (u := .int .i64 l[k].op) rfl)
      have c1 := hcc (k * 5 + 1) _ (flat_at (g := cIN) (K := 5) (fun _ => rfl) hlt (u := .int .i64 l[k].a) rfl)
      have c2 := hcc (k * 5 + 2) _ (flat_at (g := cIN) (K := 5) (fun _ => rfl) hlt (u := .int .i64 l[k].b) rfl)
      simp only [Nat.add_zero, ← Nat.add_assoc] at c0 c1 c2
      have zb := World.block_lt_of_cell? _ _ c0
      have HST := hid (chN_step (l := l) (n := n) (r := out) hlt)
      have HCC : Hid (∀ W, Below w.heap.size w W → W.cell? ⟨lb, lo + k * 5 + 1, none⟩ = some (.int .i64 l[k].a) ∧ W.cell? ⟨lb, lo + k * 5 + 2, none⟩ = some (.int .i64 l[k].b)) := hid fun W hW => by
        obtain ⟨lb2, lo2, e, hcc2⟩ := row_of (HL.out.kept hW) (by omega) (by omega)
        cases e
        have e1 := hcc2 (k * 5 + 1) _ (flat_at (g := cIN) (K := 5) (fun _ => rfl) hlt (u := .int .i64 l[k].a) rfl)
        have e2 := hcc2 (k * 5 + 2) _ (flat_at (g := cIN) (K := 5) (fun _ => rfl) hlt (u := .int .i64 l[k].b) rfl)
        simp only [← Nat.add_assoc] at e1 e2
        exact ⟨e1, e2⟩
      clear hcc
      generalize l[k] = x at *
      obtain ⟨xo, xa, xb, xc, xd⟩ := x
      dsimp only at c0 c1 c2
      have hw1 : IntKind.i64.wrap ((k : Int) + 1) = (k : Int) + 1 := by rw [IntKind.wrap_i64]; omega
      by_cases h2 : xo = 2
      · subst h2
        obtain ⟨a2, d2, W5, R5, O5, G5⟩ := appendLn wr.heap.size w.heap.size wr va vc out ⟨xa, (k : Int) + 1⟩ HO.out hb.out.size hol rfl
        have HB5 : Hid (Below w.heap.size w W5) := hid (hb.out.trans (G5.out.below hb.out.size (fun j hj => (own_type HO.out hj).1)))
        obtain ⟨e1, e2⟩ := HCC.out W5 HB5.out
        have z5 := World.block_lt_of_cell? _ _ e1
        clear G5 HCC
        by_cases h3 : xb ≤ (k : Int)
        · have HE : Hid (A = (out ++ [⟨xa, (k : Int) + 1⟩], k)) := hid (by rw [← HN.out, HST.out, if_pos rfl, if_pos h3])
          have g3 : (xb ≤ (k : Int)) = True := eq_true h3
          rw [HE.out] at HBT
          clear HN HST HA
          go_wp2_with (first | (at_builtin; refine wpList_append_ran rfl _ _ 23 23 rfl rfl _ _ (.slice a2 (out.length + 1) d2) W5 rfl rfl R5.out ?_) | fail)
          have HO6 : Hid (W5.ownsRow w.heap.size 28 2 (.slice a2 (out.length + 1) d2) (out.length + 1) ((out ++ [(⟨xa, (k : Int) + 1⟩ : LN)]).flatMap cLN)) := hid (by have q := O5.out; rw [List.length_append] at q; exact q)
          simp only [List.length_append, List.length_cons, List.length_nil, Nat.zero_add] at HBT
          refine (HBT.out _ _ _ HO6.out).mono ?_
          rintro e u ⟨rfl, hbu⟩
          have HBU := hid (below_trans HB5.out hbu)
          have HOU := hid (own_kept HO6.out hbu)
          clear hbu
          go_wp2
          refine bodyPost_ret (v := .tuple #[.slice a2 (out.length + 1) d2, .int .i64 (k : Int)]) (by simp [results, Try.results28, go_sem]) rfl ?_
          rw [HE.out]
          refine ⟨a2, d2, by simp, by have q := HOU.out; simpa using q, HBU.out⟩
        · have HN2 : Hid (chN l n xb.toNat (out ++ [⟨xa, (k : Int) + 1⟩]) = A) := hid (by rw [← HN.out, HST.out, if_pos rfl, if_neg h3])
          obtain ⟨m, rfl⟩ : ∃ m : Nat, xb = m := ⟨xb.toNat, by omega⟩
          rw [Int.toNat_natCast] at HN2
          have g3 : ((m : Int) ≤ (k : Int)) = False := eq_false h3
          have g4 : (m ≤ k) = False := eq_false (by omega)
          clear HN HST
          go_wp2_with (first | (at_builtin; refine wpList_append_ran rfl _ _ 23 23 rfl rfl _ _ (.slice a2 (out.length + 1) d2) W5 rfl rfl R5.out ?_) | fail)
          exact ⟨⟨m, a2, d2, out ++ [⟨xa, (k : Int) + 1⟩], n, by simp, rfl, HN2, by omega, by omega, hid (by have := HOL.out; simp; omega), O5, HB5⟩, by simp [intOf]; omega⟩
      · have k2 : (xo == 2) = false := by simpa using h2
        have HE : Hid (A = (out, k)) := hid (by rw [← HN.out, HST.out, if_neg h2])
        rw [HE.out] at HBT
        clear HN HST HA HCC
        go_wp2_with fail
        refine (HBT.out _ _ _ HO.out).mono ?_
        rintro e u ⟨rfl, hbu⟩
        have HBU := hid (below_trans hb.out hbu)
        have HOU := hid (own_kept HO.out hbu)
        clear hbu
        go_wp2
        refine bodyPost_ret (v := .tuple #[.slice va out.length vc, .int .i64 (k : Int)]) (by simp [results, Try.results28, go_sem]) rfl ?_
        rw [HE.out]
        exact ⟨_, _, rfl, HOU.out, HBU.out⟩
    · have k1 : ((k : Int) < (l.length : Int)) = False := eq_false (by omega)
      have k1n : (k < l.length) = False := eq_false hlt
      have HE : Hid (A = (out, k)) := hid (by rw [← HN.out, chN_out (by omega)])
      rw [HE.out] at HBT
      clear HN HA
      go_wp2_with fail
      refine (HBT.out _ _ _ HO.out).mono ?_
      rintro e u ⟨rfl, hbu⟩
      have HBU := hid (below_trans hb.out hbu)
      have HOU := hid (own_kept HO.out hbu)
      clear hbu
      go_wp2
      refine bodyPost_ret (v := .tuple #[.slice va out.length vc, .int .i64 (k : Int)]) (by simp [results, Try.results28, go_sem]) rfl ?_
      rw [HE.out]
      exact ⟨_, _, rfl, HOU.out, HBU.out⟩
end Go.Proofs.Ytliohglpbmpbhaa
