/-
  What is merged is typed; brackets make no difference.
  Merging: brackets make no difference; the empty message changes nothing.
  How long the lists of what is merged are.
-/
import Derived.Test.YtnebbmeomjiogaaGreatDoorCBI
namespace Go.Proofs.YtnebbmeomjiogaaGreatDoor
open Go.RowKit
set_option maxRecDepth 1000000
set_option linter.unusedVariables false
set_option linter.unusedSimpArgs false
theorem cmpV_zeroL {k n1 n2 n3 : Int} {xs ys zs : List Int} (h : cmpV k n1 n2 xs ys = 0) : cmpV k n2 n3 ys zs = cmpV k n1 n3 xs zs := by
  unfold cmpV at *
  split at h
  · rename_i e
    rw [if_pos e, (cmpX_eq xs ys).1 h, if_pos e]
  · rename_i e
    rw [if_neg e, if_neg e]
    split at h
    · rename_i e2
      rw [if_pos e2, if_pos e2, (cmpI_eq _ _).1 h]
    · rename_i e2
      rw [if_neg e2, if_neg e2, (cmpI_eq _ _).1 h]
theorem kBth (k : Int) : Bth (KIn k) (kOrd k) (fun _ q => q) where
  mem hx hy _ := hy
  l {x y z} hx hy hz e := by
    rw [kOrd_eq hy hz, kOrd_eq hx hz]
    rw [kOrd_eq hx hy] at e
    split
    · rfl
    · rename_i q
      rw [if_neg q] at e
      exact cmpV_zeroL e
  r {x y z} hx hy hz e := by
    rw [kOrd_eq hz hy, kOrd_eq hz hx]
    rw [kOrd_eq hx hy] at e
    split
    · rfl
    · rename_i q
      rw [if_neg q] at e
      rw [cmpV_neg k y.1.n z.1.n, cmpV_neg k x.1.n z.1.n, cmpV_zeroL e]
theorem kOrd_keyLt {k : Int} {p q : CV CM × CV CM} : kOrd k p q < 0 ↔ keyLt k p.1 q.1 = true := by
  unfold kOrd keyLt
  rw [decide_eq_true_eq]
/-- Keys that rise, of pairs. -/
theorem keys_asc {k : Int} {ks : List (CV CM)} (hs : ∀ v ∈ ks, scalarB k v = true) : keysB k ks = true ↔ ks.Pairwise (fun a b => keyLt k a b = true) := by
  rw [keysB_iff]
  constructor
  · intro h
    have O := kOrdO k
    have key : ∀ (n i : Nat) (hi : i + 1 + n < ks.length), keyLt k ks[i] ks[i + 1 + n] = true := by
      intro n
      induction n with
      | zero => intro i hi; exact h i hi
      | succ n ih =>
        intro i hi
        have h1 := ih i (by omega)
        have h2 := h (i + 1 + n) (by omega)
        have z : CV CM := ks[i]
        have := O.lt (x := (ks[i], z)) (y := (ks[i + 1 + n], z)) (z := (ks[i + 1 + n + 1], z)) (hs _ (List.getElem_mem _)) (hs _ (List.getElem_mem _)) (hs _ (List.getElem_mem _)) ((kOrd_keyLt (p := (ks[i], z)) (q := (ks[i + 1 + n], z))).2 h1) ((kOrd_keyLt (p := (ks[i + 1 + n], z)) (q := (ks[i + 1 + n + 1], z))).2 h2)
        have h3 : keyLt k ks[i] ks[i + 1 + n + 1] = true := (kOrd_keyLt (p := (ks[i], z)) (q := (ks[i + 1 + n + 1], z))).1 this
        exact h3
    rw [List.pairwise_iff_getElem]
    intro i j hi hj hij
    have := key (j - i - 1) i (by omega)
    simpa [show i + 1 + (j - i - 1) = j by omega] using this
  · intro h i hi
    exact List.pairwise_iff_getElem.1 h i (i + 1) (by omega) hi (by omega)
theorem zip_fst {α β : Type} : ∀ {a : List α} {b : List β}, a.length = b.length → (a.zip b).map Prod.fst = a
  | [], [], _ => rfl
  | x :: a, y :: b, h => by rw [List.zip_cons_cons, List.map_cons, zip_fst (by simpa using h)]
theorem zip_maps {α β : Type} : ∀ (l : List (α × β)), (l.map Prod.fst).zip (l.map Prod.snd) = l
  | [] => rfl
  | p :: r => by rw [List.map_cons, List.map_cons, List.zip_cons_cons, zip_maps r]
theorem prs_asc {k : Int} {f : CF CM} (hl : f.ks.length = f.vs.length) (hs : ∀ v ∈ f.ks, scalarB k v = true) (hk : keysB k f.ks = true) : Asc (kOrd k) (prs f) ∧ ∀ p ∈ prs f, KIn k p := by
  have h1 := (keys_asc hs).1 hk
  have h2 : ((prs f).map Prod.fst).Pairwise (fun a b => keyLt k a b = true) := by unfold prs; rw [zip_fst hl]; exact h1
  rw [List.pairwise_map] at h2
  refine ⟨h2.imp (fun h => kOrd_keyLt.2 h), fun p hp => hs p.1 (List.of_mem_zip hp).1⟩
theorem asc_keys {k : Int} {l : List (CV CM × CV CM)} (hi : ∀ p ∈ l, KIn k p) (h : Asc (kOrd k) l) : keysB k (l.map Prod.fst) = true := by
  rw [keys_asc (fun v hv => by obtain ⟨p, hp, rfl⟩ := List.mem_map.1 hv; exact hi p hp), List.pairwise_map]
  exact h.imp (fun h => kOrd_keyLt.1 h)
/-- What a typed field's shape is. -/
theorem fld_facts {l : List TV} {o : FT} {f : CF CM} (h : fieldB l o f = true) : shapeB o.lab f = true ∧ (∀ v ∈ f.vs, valB l o v = true) ∧ (∀ v ∈ f.ks, scalarB o.key v = true) ∧ keysB o.key f.ks = true := by
  unfold fieldB at h
  simp only [Bool.and_eq_true, List.all_eq_true] at h
  exact h
theorem fld_mk {l : List TV} {o : FT} {f : CF CM} (h1 : shapeB o.lab f = true) (h2 : ∀ v ∈ f.vs, valB l o v = true) (h3 : ∀ v ∈ f.ks, scalarB o.key v = true) (h4 : keysB o.key f.ks = true) : fieldB l o f = true := by
  unfold fieldB
  simp only [Bool.and_eq_true, List.all_eq_true]
  exact ⟨h1, h2, h3, h4⟩
theorem keysB_nil (k : Int) : keysB k [] = true := by rw [keysB_iff]; intro i hi; simp at hi
/-- Two typed fields of one number make a typed one. -/
theorem both_typed {l : List TV} {mg : TV → CM → CM → CM} {x : TV} {a b : CF CM} (ha : fieldB l (ownF x.t.fs a.num) a = true) (hb : fieldB l (ownF x.t.fs a.num) b = true) : fieldB l (ownF x.t.fs a.num) (bothF l mg x a b) = true := by
  obtain ⟨a1, a2, a3, a4⟩ := fld_facts ha
  obtain ⟨b1, b2, b3, b4⟩ := fld_facts hb
  unfold bothF
  generalize ownF x.t.fs a.num = o at *
  split
  · rename_i h
    refine fld_mk ?_ ?_ (by simp) (keysB_nil _)
    · unfold shapeB
      rw [h.1]
      rfl
    · intro v hv
      simp only [List.mem_singleton] at hv
      subst hv
      unfold valB
      rw [if_pos h.2]
      rfl
  · split
    · rename_i h
      refine fld_mk ?_ ?_ (by simp) (keysB_nil _)
      · unfold shapeB
        rw [if_pos h]
        rfl
      · intro v hv
        rcases List.mem_append.1 hv with hv | hv
        · exact a2 v hv
        · exact b2 v hv
    · split
      · rename_i h2 h
        unfold shapeB at a1 b1
        rw [if_neg h2, if_pos h, decide_eq_true_eq] at a1 b1
        obtain ⟨pa, ia⟩ := prs_asc a1 a3 a4
        obtain ⟨pb, ib⟩ := prs_asc b1 b3 b4
        unfold mapM
        have hin := uni_in (kBth o.key) ia ib
        refine fld_mk ?_ ?_ ?_ (asc_keys hin (uni_asc (kOrdO o.key) (kBth o.key) _ _ ia ib pa pb))
        · unfold shapeB
          rw [if_neg h2, if_pos h, List.length_map, List.length_map]
          simp
        · intro v hv
          obtain ⟨p, hp, rfl⟩ := List.mem_map.1 hv
          rcases uni_mem _ _ hp with hp | hp | ⟨q, _, r, hr, _, rfl⟩
          · exact a2 _ (List.of_mem_zip hp).2
          · exact b2 _ (List.of_mem_zip hp).2
          · exact b2 _ (List.of_mem_zip hr).2
        · intro v hv
          obtain ⟨p, hp, rfl⟩ := List.mem_map.1 hv
          exact hin p hp
      · exact hb
theorem merg_fs (l : List TV) (d : Nat) (x : TV) (a b : CM) : (mergM l (d + 1) x a b).fs = uni fOrd (bothF l (mergM l d) x) (a.fs.filter (rivB x.t.fs b.fs)) b.fs := rfl
theorem merg_us (l : List TV) (d : Nat) (x : TV) (a b : CM) : (mergM l (d + 1) x a b).us = a.us ++ b.us := rfl
theorem hold_facts {l : List TV} {x : TV} {m : CM} (h : holdB l entB x m = true) : riseM m.fs = true ∧ (∀ f ∈ m.fs, hasF x.t.fs f.num = true ∧ fieldB l (ownF x.t.fs f.num) f = true) ∧ singleB x.t.fs m.fs = true ∧ ∀ e ∈ m.us, entB e = true := by
  unfold holdB typB8 at h
  simp only [Bool.and_eq_true, List.all_eq_true] at h
  exact h
theorem hold_mk {l : List TV} {x : TV} {m : CM} (h1 : riseM m.fs = true) (h2 : ∀ f ∈ m.fs, hasF x.t.fs f.num = true ∧ fieldB l (ownF x.t.fs f.num) f = true) (h3 : singleB x.t.fs m.fs = true) (h4 : ∀ e ∈ m.us, entB e = true) : holdB l entB x m = true := by
  unfold holdB typB8
  simp only [Bool.and_eq_true, List.all_eq_true]
  exact ⟨h1, h2, h3, h4⟩
/-- At most one member of each oneof. -/
def Single (fs : List FT) (l : List (CF CM)) : Prop := ∀ x ∈ l, ∀ y ∈ l, (ownF fs x.num).lab = 4 → (ownF fs y.num).lab = 4 → (ownF fs x.num).one.toNat = (ownF fs y.num).one.toNat → x.num = y.num
theorem single_iff {fs : List FT} {l : List (CF CM)} (hr : riseM l = true) : singleB fs l = true ↔ Single fs l := by
  unfold singleB
  rw [single_pairs]
  constructor
  · rintro ⟨-, hp⟩ x hx y hy h4 g4 e
    obtain ⟨i, hi, rfl⟩ := List.mem_iff_getElem.1 hx
    obtain ⟨j, hj, rfl⟩ := List.mem_iff_getElem.1 hy
    rcases Nat.lt_trichotomy i j with q | q | q
    · exact absurd e (List.pairwise_iff_getElem.1 hp i j hi hj q h4 g4)
    · subst q; rfl
    · exact absurd e.symm (List.pairwise_iff_getElem.1 hp j i hj hi q g4 h4)
  · intro h
    refine ⟨fun _ _ _ => rfl, ?_⟩
    rw [List.pairwise_iff_getElem]
    intro i j hi hj hij h4 g4 e
    have h1 := h _ (List.getElem_mem hi) _ (List.getElem_mem hj) h4 g4 e
    have h2 := rise_lt hr i j hij hj
    omega
theorem riv_not {fs : List FT} {os : List (CF CM)} {o p : CF CM} (h : rivB fs os o = true) (hp : p ∈ os) (h4 : (ownF fs o.num).lab = 4) (g4 : (ownF fs p.num).lab = 4) : (ownF fs p.num).one ≠ (ownF fs o.num).one := by
  intro e
  unfold rivB at h
  rw [Bool.not_eq_true', Bool.and_eq_false_iff] at h
  rcases h with h | h
  · simp [h4] at h
  · rw [List.any_eq_false] at h
    have := h p hp
    unfold memB at this
    simp [g4, e] at this
theorem allM_both {l : List TV} {mg : TV → CM → CM → CM} {x : TV} {a b : CF CM} {z : CM} (ha : fieldB l (ownF x.t.fs a.num) a = true) (hb : fieldB l (ownF x.t.fs a.num) b = true) (hz : z ∈ allM (bothF l mg x a b)) : z ∈ allM a ∨ z ∈ allM b ∨ ((ownF x.t.fs a.num).lab = 1 ∧ (ownF x.t.fs a.num).kind = 17 ∧ z = mg (blwB l x a) (wM a) (wM b)) := by
  unfold bothF at hz
  split at hz
  · rename_i h
    refine .inr (.inr ⟨h.1, h.2, ?_⟩)
    simpa [allM] using hz
  · split at hz
    · have : z ∈ (a.vs ++ b.vs).flatMap CV.ms := by simpa [allM] using hz
      rw [List.flatMap_append, List.mem_append] at this
      rcases this with h | h
      · exact .inl (List.mem_append.2 (.inr h))
      · exact .inr (.inl (List.mem_append.2 (.inr h)))
    · split at hz
      · unfold mapM allM at hz
        rcases List.mem_append.1 hz with h | h
        · obtain ⟨v, hv, hzv⟩ := List.mem_flatMap.1 h
          obtain ⟨p, hp, rfl⟩ := List.mem_map.1 hv
          rcases uni_mem _ _ hp with hp | hp | ⟨q, _, r, hr, _, rfl⟩
          · exact .inl (List.mem_append.2 (.inl (List.mem_flatMap.2 ⟨_, (List.of_mem_zip hp).1, hzv⟩)))
          · exact .inr (.inl (List.mem_append.2 (.inl (List.mem_flatMap.2 ⟨_, (List.of_mem_zip hp).1, hzv⟩))))
          · exact .inr (.inl (List.mem_append.2 (.inl (List.mem_flatMap.2 ⟨_, (List.of_mem_zip hr).1, hzv⟩))))
        · obtain ⟨v, hv, hzv⟩ := List.mem_flatMap.1 h
          obtain ⟨p, hp, rfl⟩ := List.mem_map.1 hv
          rcases uni_mem _ _ hp with hp | hp | ⟨q, _, r, hr, _, rfl⟩
          · exact .inl (List.mem_append.2 (.inr (List.mem_flatMap.2 ⟨_, (List.of_mem_zip hp).2, hzv⟩)))
          · exact .inr (.inl (List.mem_append.2 (.inr (List.mem_flatMap.2 ⟨_, (List.of_mem_zip hp).2, hzv⟩))))
          · exact .inr (.inl (List.mem_append.2 (.inr (List.mem_flatMap.2 ⟨_, (List.of_mem_zip hr).2, hzv⟩))))
      · exact .inr (.inl hz)
/-- The message in a field through which a path can go on. -/
theorem wM_in {l : List TV} {o : FT} {f : CF CM} (h : fieldB l o f = true) (h1 : o.lab = 1) (h17 : o.kind = 17) : wM f ∈ allM f ∧ f = ⟨f.num, [], [⟨0, [], [wM f]⟩]⟩ := by
  obtain ⟨s1, s2, -, -⟩ := fld_facts h
  unfold shapeB at s1
  rw [h1] at s1
  simp at s1
  obtain ⟨k0, v1⟩ := s1
  obtain ⟨num, ks, vs⟩ := f
  dsimp only at k0 v1 s2
  subst k0
  match vs, v1 with
  | [v], _ =>
    have h3 := s2 v List.mem_cons_self
    unfold valB at h3
    rw [if_pos h17] at h3
    simp only [Bool.and_eq_true, beq_iff_eq] at h3
    obtain ⟨vn, vb, vms⟩ := v
    dsimp only at h3
    obtain ⟨e1, e2, e3⟩ := h3
    have e2' : vb = [] := List.eq_nil_of_length_eq_zero (by omega)
    subst e1 e2'
    match vms, (show vms.length = 1 by omega) with
    | [z], _ => exact ⟨by simp [wM, allM], rfl⟩
theorem kept_mk {l : List TV} {d : Nat} {x : TV} {m : CM} (h1 : holdB l entB x m = true) (h2 : ∀ f ∈ m.fs, ∀ z ∈ allM f, keptB l d (blwB l x f) z = true) : keptB l (d + 1) x m = true := by
  show (holdB l entB x m && m.fs.all (fun f => (allM f).all (walkB (holdB l entB) (blwB l) d (blwB l x f)))) = true
  rw [h1, Bool.true_and, List.all_eq_true]
  intro f hf
  rw [List.all_eq_true]
  exact h2 f hf
theorem blw_num (l : List TV) (x : TV) {f g : CF CM} (h : f.num = g.num) : blwB l x f = blwB l x g := by unfold blwB; rw [h]
theorem blw_in {l : List TV} {x : TV} (hx : x ∈ l) (f : CF CM) : blwB l x f ∈ l := by
  unfold blwB
  cases h : l[(ownF x.t.fs f.num).ref.toNat]? with
  | none => exact hx
  | some y => exact List.mem_of_getElem? h
/-- What is merged is typed. -/
theorem merg_kept {l : List TV} (ho : ∀ x ∈ l, ∀ o ∈ x.t.fs, o.lab = 4 → 0 ≤ o.one ∧ o.one < 128) : ∀ (d : Nat) (x : TV) (hx : x ∈ l) (a b : CM), keptB l d x a = true → keptB l d x b = true → keptB l d x (mergM l d x a b) = true
  | 0, x, hx, a, b, _, hb => hb
  | d + 1, x, hx, a, b, ha, hb => by
    obtain ⟨ha1, ha2⟩ := kept_all ha
    obtain ⟨hb1, hb2⟩ := kept_all hb
    obtain ⟨ar, at', aS, ae⟩ := hold_facts ha1
    obtain ⟨br, bt, bs, be⟩ := hold_facts hb1
    have asA := rise_asc.1 ar
    have bsA := rise_asc.1 br
    have iA : ∀ f ∈ a.fs.filter (rivB x.t.fs b.fs), hasF x.t.fs f.num = true := fun f hf => (at' f (List.mem_filter.1 hf).1).1
    have iB : ∀ f ∈ b.fs, hasF x.t.fs f.num = true := fun f hf => (bt f hf).1
    have hA : Asc fOrd (a.fs.filter (rivB x.t.fs b.fs)) := asA.filter _
    have hU := uni_asc (fOrdO _) (bothB l (mergM l d) x) _ _ iA iB hA bsA
    have ori : ∀ f ∈ (mergM l (d + 1) x a b).fs, (∃ p ∈ a.fs, rivB x.t.fs b.fs p = true ∧ p.num = f.num) ∨ ∃ q ∈ b.fs, q.num = f.num := fun f hf => by
      rcases uni_mem _ _ hf with h | h | ⟨p, hp, q, hq, e, rfl⟩
      · exact .inl ⟨f, (List.mem_filter.1 h).1, (List.mem_filter.1 h).2, rfl⟩
      · exact .inr ⟨f, h, rfl⟩
      · exact .inr ⟨q, hq, by rw [both_num (iA p hp) (fOrd_eq.1 e)]; exact (fOrd_eq.1 e).symm⟩
    have hT : ∀ f ∈ (mergM l (d + 1) x a b).fs, hasF x.t.fs f.num = true ∧ fieldB l (ownF x.t.fs f.num) f = true := fun f hf => by
      rcases uni_mem _ _ hf with h | h | ⟨p, hp, q, hq, e, rfl⟩
      · exact at' f (List.mem_filter.1 h).1
      · exact bt f h
      · have en := fOrd_eq.1 e
        rw [both_num (iA p hp) en]
        refine ⟨iA p hp, both_typed (at' p (List.mem_filter.1 hp).1).2 ?_⟩
        rw [en]
        exact (bt q hq).2
    refine kept_mk (hold_mk (rise_asc.2 hU) hT ((single_iff (rise_asc.2 hU)).2 ?_) ?_) ?_
    · have sA := (single_iff ar).1 aS
      have sB := (single_iff br).1 bs
      have nn : ∀ {n : Int}, hasF x.t.fs n = true → (ownF x.t.fs n).lab = 4 → 0 ≤ (ownF x.t.fs n).one := fun h h4 => (ho x hx _ (ownF_hasF h).1 h4).1
      intro u hu v hv h4 g4 e
      have hu' := (hT u hu).1
      have hv' := (hT v hv).1
      have e1 : (ownF x.t.fs u.num).one = (ownF x.t.fs v.num).one := by
        have := nn hu' h4
        have := nn hv' g4
        omega
      rcases ori u hu with ⟨p, hp, rp, ep⟩ | ⟨p, hp, ep⟩ <;> rcases ori v hv with ⟨q, hq, rq, eq⟩ | ⟨q, hq, eq⟩
      · rw [← ep] at h4; rw [← eq] at g4; rw [← ep, ← eq] at e e1 ⊢
        exact sA p hp q hq h4 g4 e
      · rw [← ep] at h4; rw [← eq] at g4; rw [← ep, ← eq] at e e1 ⊢
        exact absurd e1.symm (riv_not rp hq h4 g4)
      · rw [← ep] at h4; rw [← eq] at g4; rw [← ep, ← eq] at e e1 ⊢
        exact absurd e1 (riv_not rq hp g4 h4)
      · rw [← ep] at h4; rw [← eq] at g4; rw [← ep, ← eq] at e e1 ⊢
        exact sB p hp q hq h4 g4 e
    · intro e he
      rw [merg_us] at he
      rcases List.mem_append.1 he with h | h
      · exact ae e h
      · exact be e h
    · intro f hf z hz
      rcases uni_mem _ _ hf with h | h | ⟨p, hp, q, hq, e, rfl⟩
      · exact ha2 f (List.mem_filter.1 h).1 z hz
      · exact hb2 f h z hz
      · have en := fOrd_eq.1 e
        have hpa := (List.mem_filter.1 hp).1
        have tp := (at' p hpa).2
        have tq : fieldB l (ownF x.t.fs p.num) q = true := by rw [en]; exact (bt q hq).2
        rw [blw_num l x (both_num (iA p hp) en)]
        rcases allM_both tp tq hz with h | h | ⟨h1, h17, rfl⟩
        · exact ha2 p hpa z h
        · rw [blw_num l x en]
          exact hb2 q hq z h
        · refine merg_kept ho d _ (blw_in hx p) _ _ (ha2 p hpa _ (wM_in tp h1 h17).1) ?_
          rw [blw_num l x en]
          exact hb2 q hq _ (wM_in tq h1 h17).1
theorem uni_any {α : Type} {ord : α → α → Int} {both : α → α → α} (P : α → Bool) : ∀ (a b : List α), (∀ x ∈ a, ∀ y ∈ b, ord x y = 0 → P x = P y ∧ P (both x y) = P x) → (uni ord both a b).any P = (a.any P || b.any P)
  | [], b, _ => by rw [uni_nil]; simp
  | x :: a, [], _ => by rw [uni_nilR]; simp
  | x :: a, y :: b, h => by
    rcases Int.lt_trichotomy (ord x y) 0 with q | q | q
    · rw [uni_lt q, List.any_cons, uni_any P a (y :: b) (fun x' hx y' hy => h x' (List.mem_cons_of_mem _ hx) y' hy), List.any_cons (a := x), Bool.or_assoc]
    · obtain ⟨e1, e2⟩ := h x List.mem_cons_self y List.mem_cons_self q
      rw [uni_eq q, List.any_cons, uni_any P a b (fun x' hx y' hy => h x' (List.mem_cons_of_mem _ hx) y' (List.mem_cons_of_mem _ hy)), List.any_cons (a := x), List.any_cons (a := y), e2, ← e1]
      cases P x <;> simp
    · rw [uni_gt q, List.any_cons, uni_any P (x :: a) b (fun x' hx y' hy => h x' hx y' (List.mem_cons_of_mem _ hy)), List.any_cons (a := y)]
      cases P y <;> simp
termination_by a b => a.length + b.length
theorem memB_num {fs : List FT} {w : Int} {p q : CF CM} (h : p.num = q.num) : memB fs w p = memB fs w q := by unfold memB; rw [h]
theorem rivB_num {fs : List FT} {os : List (CF CM)} {p q : CF CM} (h : p.num = q.num) : rivB fs os p = rivB fs os q := by unfold rivB; rw [h]
theorem rivB_def (fs : List FT) (os : List (CF CM)) (o : CF CM) : rivB fs os o = !((ownF fs o.num).lab == 4 && os.any (memB fs (ownF fs o.num).one)) := rfl
/-- Members that are left out for c's sake have a rival in c. -/
theorem any_riv (fs : List FT) (w : Int) (b c : List (CF CM)) : ((b.filter (rivB fs c)).any (memB fs w) || c.any (memB fs w)) = (b.any (memB fs w) || c.any (memB fs w)) := by
  cases hc : c.any (memB fs w) with
  | true => simp
  | false =>
    rw [Bool.or_false, Bool.or_false, Bool.eq_iff_iff, List.any_eq_true, List.any_eq_true]
    constructor
    · rintro ⟨p, hp, h⟩
      exact ⟨p, (List.mem_filter.1 hp).1, h⟩
    · rintro ⟨p, hp, h⟩
      refine ⟨p, List.mem_filter.2 ⟨hp, ?_⟩, h⟩
      unfold memB at h
      rw [Bool.and_eq_true, beq_iff_eq, beq_iff_eq] at h
      unfold rivB
      rw [h.2, hc, Bool.and_false]
      rfl
theorem wM_mk (n : Int) (z : CM) : wM ⟨n, [], [⟨0, [], [z]⟩]⟩ = z := rfl
theorem mapM_def (o : FT) (a b : CF CM) : mapM o a b = ⟨o.num, (uni (kOrd o.key) (fun _ q => q) (prs a) (prs b)).map Prod.fst, (uni (kOrd o.key) (fun _ q => q) (prs a) (prs b)).map Prod.snd⟩ := rfl
theorem prs_map (o : FT) (a b : CF CM) : prs (mapM o a b) = uni (kOrd o.key) (fun _ q => q) (prs a) (prs b) := by
  unfold prs mapM
  exact zip_maps _
theorem both_def (l : List TV) (mg : TV → CM → CM → CM) (x : TV) (p y : CF CM) : bothF l mg x p y = if (ownF x.t.fs p.num).lab = 1 ∧ (ownF x.t.fs p.num).kind = 17 then ⟨(ownF x.t.fs p.num).num, [], [⟨0, [], [mg (blwB l x p) (wM p) (wM y)]⟩]⟩ else if (ownF x.t.fs p.num).lab = 2 ∨ (ownF x.t.fs p.num).lab = 3 then ⟨(ownF x.t.fs p.num).num, [], p.vs ++ y.vs⟩ else if (ownF x.t.fs p.num).lab = 5 then mapM (ownF x.t.fs p.num) p y else y := rfl
/-- Three typed fields of one number: brackets make no difference. -/
theorem both_assoc {l : List TV} {mg : TV → CM → CM → CM} {x : TV} {a b c : CF CM} (h : hasF x.t.fs a.num = true) (ab : a.num = b.num) (bc : b.num = c.num) (ta : fieldB l (ownF x.t.fs a.num) a = true) (tb : fieldB l (ownF x.t.fs a.num) b = true) (tc : fieldB l (ownF x.t.fs a.num) c = true)
    (hA : (ownF x.t.fs a.num).lab = 1 → (ownF x.t.fs a.num).kind = 17 → mg (blwB l x a) (mg (blwB l x a) (wM a) (wM b)) (wM c) = mg (blwB l x a) (wM a) (mg (blwB l x a) (wM b) (wM c))) : bothF l mg x (bothF l mg x a b) c = bothF l mg x a (bothF l mg x b c) := by
  have e1 := both_num (l := l) (mg := mg) h ab
  have hb : hasF x.t.fs b.num = true := by rw [← ab]; exact h
  have ho := (ownF_hasF h).2
  have e2 : blwB l x (bothF l mg x a b) = blwB l x a := blw_num l x e1
  have e3 : blwB l x b = blwB l x a := blw_num l x ab.symm
  have eb : ownF x.t.fs b.num = ownF x.t.fs a.num := by rw [ab]
  have ea : ownF x.t.fs (bothF l mg x a b).num = ownF x.t.fs a.num := by rw [e1]
  have u1 : bothF l mg x (bothF l mg x a b) c = if (ownF x.t.fs a.num).lab = 1 ∧ (ownF x.t.fs a.num).kind = 17 then ⟨(ownF x.t.fs a.num).num, [], [⟨0, [], [mg (blwB l x a) (wM (bothF l mg x a b)) (wM c)]⟩]⟩ else if (ownF x.t.fs a.num).lab = 2 ∨ (ownF x.t.fs a.num).lab = 3 then ⟨(ownF x.t.fs a.num).num, [], (bothF l mg x a b).vs ++ c.vs⟩ else if (ownF x.t.fs a.num).lab = 5 then mapM (ownF x.t.fs a.num) (bothF l mg x a b) c else c := by
    rw [both_def l mg x (bothF l mg x a b) c, ea, e2]
  have u2 : bothF l mg x b c = if (ownF x.t.fs a.num).lab = 1 ∧ (ownF x.t.fs a.num).kind = 17 then ⟨(ownF x.t.fs a.num).num, [], [⟨0, [], [mg (blwB l x a) (wM b) (wM c)]⟩]⟩ else if (ownF x.t.fs a.num).lab = 2 ∨ (ownF x.t.fs a.num).lab = 3 then ⟨(ownF x.t.fs a.num).num, [], b.vs ++ c.vs⟩ else if (ownF x.t.fs a.num).lab = 5 then mapM (ownF x.t.fs a.num) b c else c := by
    rw [both_def l mg x b c, eb, e3]
  have u3 : ∀ y : CF CM, bothF l mg x a y = if (ownF x.t.fs a.num).lab = 1 ∧ (ownF x.t.fs a.num).kind = 17 then ⟨(ownF x.t.fs a.num).num, [], [⟨0, [], [mg (blwB l x a) (wM a) (wM y)]⟩]⟩ else if (ownF x.t.fs a.num).lab = 2 ∨ (ownF x.t.fs a.num).lab = 3 then ⟨(ownF x.t.fs a.num).num, [], a.vs ++ y.vs⟩ else if (ownF x.t.fs a.num).lab = 5 then mapM (ownF x.t.fs a.num) a y else y := fun y => rfl
  rw [u1, u3 (bothF l mg x b c), u2, u3 b]
  clear u1 u2 u3 e1 e2 ea
  generalize ownF x.t.fs a.num = o at *
  generalize blwB l x a = T at *
  by_cases h1 : o.lab = 1 ∧ o.kind = 17
  · simp only [if_pos h1, wM_mk]
    rw [hA h1.1 h1.2]
  · simp only [if_neg h1]
    by_cases h2 : o.lab = 2 ∨ o.lab = 3
    · simp only [if_pos h2, List.append_assoc]
    · simp only [if_neg h2]
      by_cases h5 : o.lab = 5
      · simp only [if_pos h5]
        obtain ⟨a1, a2, a3, a4⟩ := fld_facts ta
        obtain ⟨b1, b2, b3, b4⟩ := fld_facts tb
        obtain ⟨c1, c2, c3, c4⟩ := fld_facts tc
        unfold shapeB at a1 b1 c1
        rw [if_neg h2, if_pos h5, decide_eq_true_eq] at a1 b1 c1
        obtain ⟨pa, ia⟩ := prs_asc a1 a3 a4
        obtain ⟨pb, ib⟩ := prs_asc b1 b3 b4
        obtain ⟨pc, ic⟩ := prs_asc c1 c3 c4
        have := uni_assoc (kOrdO o.key) (kBth o.key) _ _ _ ia ib ic pa pb pc (fun _ _ _ _ _ _ _ _ => rfl)
        rw [mapM_def o (mapM o a b) c, mapM_def o a (mapM o b c), prs_map, prs_map, this]
      · simp only [if_neg h5]
/-- Brackets make no difference. -/
theorem merg_assoc {l : List TV} : ∀ (d : Nat) (x : TV) (a b c : CM), keptB l d x a = true → keptB l d x b = true → keptB l d x c = true → mergM l d x (mergM l d x a b) c = mergM l d x a (mergM l d x b c)
  | 0, x, a, b, c, _, _, _ => rfl
  | d + 1, x, a, b, c, ha, hb, hc => by
    obtain ⟨ha1, ha2⟩ := kept_all ha
    obtain ⟨hb1, hb2⟩ := kept_all hb
    obtain ⟨hc1, hc2⟩ := kept_all hc
    obtain ⟨ar, at', -, -⟩ := hold_facts ha1
    obtain ⟨br, bt, -, -⟩ := hold_facts hb1
    obtain ⟨cr, ct, -, -⟩ := hold_facts hc1
    have O := fOrdO (fun f : CF CM => hasF x.t.fs f.num = true)
    have B := bothB l (mergM l d) x
    have iA : ∀ f ∈ a.fs.filter (rivB x.t.fs b.fs), hasF x.t.fs f.num = true := fun f hf => (at' f (List.mem_filter.1 hf).1).1
    have iB : ∀ f ∈ b.fs, hasF x.t.fs f.num = true := fun f hf => (bt f hf).1
    have iC : ∀ f ∈ c.fs, hasF x.t.fs f.num = true := fun f hf => (ct f hf).1
    have sA : Asc fOrd (a.fs.filter (rivB x.t.fs b.fs)) := (rise_asc.1 ar).filter _
    have sB := rise_asc.1 br
    have sC := rise_asc.1 cr
    refine CM.ext ?_ ?_
    · rw [merg_fs, merg_fs, merg_fs, merg_fs]
      rw [uni_filter O (rivB x.t.fs c.fs) _ _ iA iB sA sB (fun p hp q hq e => ⟨rivB_num (fOrd_eq.1 e), rivB_num (both_num (iA p hp) (fOrd_eq.1 e))⟩)]
      rw [uni_assoc O B _ _ _ (fun f hf => iA f (List.mem_filter.1 hf).1) (fun f hf => iB f (List.mem_filter.1 hf).1) iC (sA.filter _) (sB.filter _) sC ?_]
      · congr 1
        rw [List.filter_filter]
        refine List.filter_congr fun o ho => ?_
        have hB' : ∀ f ∈ b.fs.filter (rivB x.t.fs c.fs), hasF x.t.fs f.num = true := fun f hf => iB f (List.mem_filter.1 hf).1
        have hu : (uni fOrd (bothF l (mergM l d) x) (b.fs.filter (rivB x.t.fs c.fs)) c.fs).any (memB x.t.fs (ownF x.t.fs o.num).one) = (b.fs.any (memB x.t.fs (ownF x.t.fs o.num).one) || c.fs.any (memB x.t.fs (ownF x.t.fs o.num).one)) := by
          rw [uni_any (memB x.t.fs (ownF x.t.fs o.num).one) _ _ (fun p hp q hq e => ⟨memB_num (fOrd_eq.1 e), memB_num (both_num (hB' p hp) (fOrd_eq.1 e))⟩), any_riv]
        rw [rivB_def x.t.fs c.fs o, rivB_def x.t.fs b.fs o, rivB_def x.t.fs _ o, hu]
        cases (ownF x.t.fs o.num).lab == 4 <;> cases b.fs.any (memB x.t.fs (ownF x.t.fs o.num).one) <;> cases c.fs.any (memB x.t.fs (ownF x.t.fs o.num).one) <;> rfl
      · intro p hp q hq r hr e1 e2
        have hpa := (List.mem_filter.1 (List.mem_filter.1 hp).1).1
        have hqb := (List.mem_filter.1 hq).1
        have n1 := fOrd_eq.1 e1
        have n2 := fOrd_eq.1 e2
        have tp := (at' p hpa).2
        have tq : fieldB l (ownF x.t.fs p.num) q = true := by rw [n1]; exact (bt q hqb).2
        have tr : fieldB l (ownF x.t.fs p.num) r = true := by rw [n1, n2]; exact (ct r hr).2
        refine both_assoc (at' p hpa).1 n1 n2 tp tq tr (fun h1 h17 => ?_)
        refine merg_assoc d _ _ _ _ (ha2 p hpa _ (wM_in tp h1 h17).1) ?_ ?_
        · rw [blw_num l x n1]
          exact hb2 q hqb _ (wM_in tq h1 h17).1
        · rw [blw_num l x (n1.trans n2)]
          exact hc2 r hr _ (wM_in tr h1 h17).1
    · rw [merg_us, merg_us, merg_us, merg_us, List.append_assoc]
theorem merg_nilR (l : List TV) (d : Nat) (x : TV) (a : CM) : mergM l (d + 1) x a (CM.mk [] []) = a := by
  refine CM.ext ?_ ?_
  · rw [merg_fs]
    show uni fOrd _ (a.fs.filter (rivB x.t.fs [])) [] = a.fs
    rw [uni_nilR, List.filter_eq_self]
    intro f _
    unfold rivB
    simp
  · rw [merg_us]
    exact List.append_nil _
theorem merg_nilL (l : List TV) (d : Nat) (x : TV) (a : CM) : mergM l (d + 1) x (CM.mk [] []) a = a := by
  refine CM.ext ?_ ?_
  · rw [merg_fs]
    show uni fOrd _ [] a.fs = a.fs
    rw [uni_nil]
  · rw [merg_us]
    rfl
/-- No list of a message has more than L, so deep. -/
def sizM (L : Nat) : Nat → CM → Prop
  | 0, _ => True
  | d + 1, m => m.fs.length ≤ L ∧ m.us.length ≤ L ∧ ∀ f ∈ m.fs, f.ks.length ≤ L ∧ f.vs.length ≤ L ∧ ∀ z ∈ allM f, sizM L d z
theorem siz_mono {L L' : Nat} (h : L ≤ L') : ∀ (d : Nat) (m : CM), sizM L d m → sizM L' d m
  | 0, _, _ => trivial
  | d + 1, m, g => ⟨Nat.le_trans g.1 h, Nat.le_trans g.2.1 h, fun f hf => ⟨Nat.le_trans (g.2.2 f hf).1 h, Nat.le_trans (g.2.2 f hf).2.1 h, fun z hz => siz_mono h d z ((g.2.2 f hf).2.2 z hz)⟩⟩
theorem uni_len {α : Type} {ord : α → α → Int} {both : α → α → α} : ∀ (a b : List α), (uni ord both a b).length ≤ a.length + b.length
  | [], b => by rw [uni_nil]; simp
  | x :: a, [] => by rw [uni_nilR]; simp
  | x :: a, y :: b => by
    rcases Int.lt_trichotomy (ord x y) 0 with q | q | q
    · rw [uni_lt q]
      have := uni_len (ord := ord) (both := both) a (y :: b)
      simp at *
      omega
    · rw [uni_eq q]
      have := uni_len (ord := ord) (both := both) a b
      simp at *
      omega
    · rw [uni_gt q]
      have := uni_len (ord := ord) (both := both) (x :: a) b
      simp at *
      omega
termination_by a b => a.length + b.length
theorem prs_le (f : CF CM) : (prs f).length ≤ f.ks.length := by unfold prs; rw [List.length_zip]; omega
theorem both_siz {l : List TV} {mg : TV → CM → CM → CM} {x : TV} {a b : CF CM} {L1 L2 : Nat} (h1 : 1 ≤ L1) (ha : a.ks.length ≤ L1 ∧ a.vs.length ≤ L1) (hb : b.ks.length ≤ L2 ∧ b.vs.length ≤ L2) : (bothF l mg x a b).ks.length ≤ L1 + L2 ∧ (bothF l mg x a b).vs.length ≤ L1 + L2 := by
  unfold bothF mapM
  have e := uni_len (ord := kOrd (ownF x.t.fs a.num).key) (both := fun _ q => q) (prs a) (prs b)
  have e1 := prs_le a
  have e2 := prs_le b
  split
  · constructor
    · simp
    · show ([_] : List (CV CM)).length ≤ _
      simp
      omega
  · split
    · constructor
      · simp
      · show (a.vs ++ b.vs).length ≤ _
        rw [List.length_append]
        omega
    · split
      · constructor
        · show (List.map Prod.fst _).length ≤ _
          rw [List.length_map]
          omega
        · show (List.map Prod.snd _).length ≤ _
          rw [List.length_map]
          omega
      · omega
theorem siz_merg {l : List TV} {L1 L2 : Nat} (h1 : 1 ≤ L1) : ∀ (d : Nat) (x : TV) (a b : CM), keptB l d x a = true → keptB l d x b = true → sizM L1 d a → sizM L2 d b → sizM (L1 + L2) d (mergM l d x a b)
  | 0, _, _, _, _, _, _, _ => trivial
  | d + 1, x, a, b, ka, kb, sa, sb => by
    obtain ⟨ha1, ha2⟩ := kept_all ka
    obtain ⟨hb1, hb2⟩ := kept_all kb
    have fa := (hold_facts ha1).2.1
    have fb := (hold_facts hb1).2.1
    refine ⟨?_, ?_, ?_⟩
    · rw [merg_fs]
      have e := uni_len (ord := fOrd) (both := bothF l (mergM l d) x) (a.fs.filter (rivB x.t.fs b.fs)) b.fs
      have e2 := List.length_filter_le (rivB x.t.fs b.fs) a.fs
      have := sa.1
      have := sb.1
      omega
    · rw [merg_us, List.length_append]
      have := sa.2.1
      have := sb.2.1
      omega
    · intro f hf
      rw [merg_fs] at hf
      rcases uni_mem _ _ hf with h | h | ⟨p, hp, q, hq, e, rfl⟩
      · have hm := (List.mem_filter.1 h).1
        have s := sa.2.2 f hm
        exact ⟨by omega, by omega, fun z hz => siz_mono (by omega) d z (s.2.2 z hz)⟩
      · have s := sb.2.2 f h
        exact ⟨by omega, by omega, fun z hz => siz_mono (by omega) d z (s.2.2 z hz)⟩
      · have hm := (List.mem_filter.1 hp).1
        have s := sa.2.2 p hm
        have t := sb.2.2 q hq
        have en := fOrd_eq.1 e
        have tp := (fa p hm).2
        have tq := (fb q hq).2
        rw [← en] at tq
        have hs := both_siz (l := l) (mg := mergM l d) (x := x) h1 ⟨s.1, s.2.1⟩ ⟨t.1, t.2.1⟩
        refine ⟨hs.1, hs.2, fun z hz => ?_⟩
        rcases allM_both tp tq hz with g | g | ⟨g1, g17, rfl⟩
        · exact siz_mono (by omega) d z (s.2.2 z g)
        · exact siz_mono (by omega) d z (t.2.2 z g)
        · have w1 := (wM_in tp g1 g17).1
          have w2 := (wM_in tq g1 g17).1
          refine siz_merg h1 d _ _ _ (ha2 p hm _ w1) ?_ (s.2.2 _ w1) (t.2.2 _ w2)
          have := hb2 q hq _ w2
          rw [blw_num l x en]
          exact this
end Go.Proofs.YtnebbmeomjiogaaGreatDoor
