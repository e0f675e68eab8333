/-
  Masks: what is left is typed; the parts, merged, are the whole.
  Masks: sizes; the names of fields are ways.
  merge: the paths of a message: what they name.
  merge: Paths.
  Equal: what the program answers, at every depth.
  Equal: what the document answers.
  Equal: what the document answers, at every depth.
-/
import Derived.Test.YtmiemocdjkeefaaGreatDoorCIL
import Derived.Test.YtmiemocdjkeefaaGreatDoorCGN
import Derived.Test.YtmiemocdjkeefaaGreatDoorIX
import Derived.Test.YtmiemocdjkeefaaGreatDoorCGP
import Derived.Test.YtmiemocdjkeefaaGreatDoorCTY
import Derived.Deep.RegionWith
import Derived.BigQuiet
namespace Go.Proofs.YtmiemocdjkeefaaGreatDoor
open Go.RowKit
set_option maxRecDepth 1000000
set_option linter.unusedVariables false
set_option linter.unusedSimpArgs false
set_option maxHeartbeats 600000
theorem go_facts {l : List TV} (hg : goodB l = true) {d : Nat} {x : TV} (hx : x ∈ l) {m : CM} (hk : keptB l (d + 1) x m = true) {ms : List (List Int)} (hw : ∀ v ∈ ms, WyP l x.t.fs v) {y : CF CM} (hy : y ∈ m.fs) (hgo : goB ms y.num = true) :
    (ownF x.t.fs y.num).lab = 1 ∧ (ownF x.t.fs y.num).kind = 17 ∧ (ownF x.t.fs y.num).num = y.num ∧ y = arM y.num (wM y) ∧ (∀ v ∈ rstI ms y.num, WyP l (blwB l x y).t.fs v) ∧ keptB l d (blwB l x y) (wM y) = true := by
  obtain ⟨h1, h2⟩ := kept_all hk
  obtain ⟨-, ht, -, -⟩ := hold_facts h1
  obtain ⟨hh, hf⟩ := ht y hy
  obtain ⟨o1, o2⟩ := ownF_hasF hh
  obtain ⟨⟨r, hr⟩, hne⟩ := goB_iff.1 hgo
  have key : ∀ r ∈ rstI ms y.num, isWyB (ownF x.t.fs y.num) = true ∧ WyP l ((l[(ownF x.t.fs y.num).ref.toNat]?).elim [] (·.t.fs)) r := fun r hr => by
    obtain ⟨f, hf, hfn, hfr⟩ := wyP_cons (hw _ (rstI_mem.1 hr))
    have e : ownF x.t.fs y.num = f := riseOneW (good_rise hg hx).1 o1 hf (by rw [o2, hfn])
    rw [e]
    exact hfr (hne r hr)
  have hwy := (key r hr).1
  unfold isWyB at hwy
  simp only [Bool.and_eq_true, decide_eq_true_eq] at hwy
  obtain ⟨w1, w2⟩ := wM_in hf hwy.1 hwy.2
  refine ⟨hwy.1, hwy.2, o2, w2, fun v hv => ?_, h2 y hy _ w1⟩
  have := (key v hv).2
  obtain ⟨r0, r1⟩ := good_refs hg hx o1
  unfold blwB
  rw [List.getElem?_eq_getElem r1] at this ⊢
  exact this
theorem lf1_cases {sN sU : Bool} {L : List (List Int) → CM → CM} {ms : List (List Int)} (y : CF CM) : (goB ms y.num = true ∧ lf1 sN sU L ms y = [arM y.num (L (rstI ms y.num) (wthM y))]) ∨ (goB ms y.num = false ∧ ((if ms.any (hdI y.num) then sN else sU) = true ∧ lf1 sN sU L ms y = [y] ∨ (if ms.any (hdI y.num) then sN else sU) = false ∧ lf1 sN sU L ms y = [])) := by
  unfold lf1
  generalize goB ms y.num = g
  generalize ms.any (hdI y.num) = a
  cases g <;> cases a <;> cases sN <;> cases sU <;> simp
theorem lf1_from {sN sU : Bool} {L : List (List Int) → CM → CM} {ms : List (List Int)} {xs : List (CF CM)} {o : CF CM} (h : o ∈ xs.flatMap (lf1 sN sU L ms)) : ∃ y ∈ xs, o.num = y.num ∧ (o = y ∨ goB ms y.num = true ∧ o = arM y.num (L (rstI ms y.num) (wthM y))) := by
  obtain ⟨y, hy, ho⟩ := List.mem_flatMap.1 h
  refine ⟨y, hy, ?_⟩
  rcases lf1_cases (sN := sN) (sU := sU) (L := L) (ms := ms) y with ⟨q, e⟩ | ⟨q, ⟨-, e⟩ | ⟨-, e⟩⟩
  · rw [e, List.mem_singleton] at ho
    subst ho
    exact ⟨rfl, .inr ⟨q, rfl⟩⟩
  · rw [e, List.mem_singleton] at ho
    subst ho
    exact ⟨rfl, .inl rfl⟩
  · rw [e] at ho
    cases ho
theorem flat_pw (f : CF CM → List (CF CM)) : ∀ xs : List (CF CM), (∀ x ∈ xs, f x = [] ∨ ∃ z, f x = [z] ∧ z.num = x.num) → xs.Pairwise (fun a b => a.num < b.num) → (xs.flatMap f).Pairwise (fun a b => a.num < b.num)
  | [], _, _ => by simp
  | x :: xs, h, hp => by
    obtain ⟨h1, h2⟩ := List.pairwise_cons.1 hp
    have ih := flat_pw f xs (fun y hy => h y (by simp [hy])) h2
    rw [List.flatMap_cons]
    rcases h x (by simp) with e | ⟨z, e, ez⟩
    · rw [e]; exact ih
    · rw [e, List.singleton_append, List.pairwise_cons]
      refine ⟨fun y hy => ?_, ih⟩
      obtain ⟨u, hu, hyu⟩ := List.mem_flatMap.1 hy
      rcases h u (by simp [hu]) with q | ⟨v, q, ev⟩
      · rw [q] at hyu; cases hyu
      · rw [q, List.mem_singleton] at hyu
        subst hyu
        rw [ez, ev]
        exact h1 u hu
theorem lf1_one {sN sU : Bool} {L : List (List Int) → CM → CM} {ms : List (List Int)} (y : CF CM) : lf1 sN sU L ms y = [] ∨ ∃ z, lf1 sN sU L ms y = [z] ∧ z.num = y.num := by
  rcases lf1_cases (sN := sN) (sU := sU) (L := L) (ms := ms) y with ⟨q, e⟩ | ⟨q, ⟨-, e⟩ | ⟨-, e⟩⟩
  · exact .inr ⟨_, e, rfl⟩
  · exact .inr ⟨_, e, rfl⟩
  · exact .inl e
theorem rise_pw {xs : List (CF CM)} : riseM xs = true ↔ xs.Pairwise (fun a b => a.num < b.num) := by
  rw [rise_asc]
  unfold Asc
  constructor
  · intro h; exact h.imp (fun q => fOrd_lt.1 q)
  · intro h; exact h.imp (fun q => fOrd_lt.2 q)
theorem left_kept {l : List TV} (hg : goodB l = true) (sN sU : Bool) : ∀ (d : Nat) (x : TV) (m : CM) (ms : List (List Int)), x ∈ l → keptB l d x m = true → (∀ v ∈ ms, WyP l x.t.fs v) → keptB l d x (leftM sN sU d ms m) = true
  | 0, _, _, _, _, h, _ => h
  | d + 1, x, m, ms, hx, hk, hw => by
    obtain ⟨h1, h2⟩ := kept_all hk
    obtain ⟨hr, ht, hs, hu⟩ := hold_facts h1
    have hR : riseM (m.fs.flatMap (lf1 sN sU (leftM sN sU d) ms)) = true := rise_pw.2 (flat_pw _ _ (fun y _ => lf1_one y) (rise_pw.1 hr))
    have ga : ∀ y ∈ m.fs, goB ms y.num = true → keptB l d (blwB l x y) (leftM sN sU d (rstI ms y.num) (wthM y)) = true := fun y hy hgo => by
      obtain ⟨-, -, -, -, g5, g6⟩ := go_facts hg hx hk hw hy hgo
      exact left_kept hg sN sU d _ _ _ (blw_in hx y) g6 g5
    rw [leftM]
    refine kept_mk (hold_mk hR (fun o ho => ?_) ((single_iff hR).2 ?_) ?_) (fun o ho z hz => ?_)
    · obtain ⟨y, hy, en, rfl | ⟨hgo, rfl⟩⟩ := lf1_from ho
      · exact ht o hy
      · obtain ⟨g1, g2, -, -, -, -⟩ := go_facts hg hx hk hw hy hgo
        rw [en]
        refine ⟨(ht y hy).1, fld_mk ?_ ?_ ?_ ?_⟩
        · rw [g1]; rfl
        · intro v hv
          unfold arM at hv
          rw [List.mem_singleton] at hv
          subst hv
          unfold valB
          rw [if_pos g2]
          rfl
        · intro v hv
          cases hv
        · exact keysB_nil _
    · have sA := (single_iff hr).1 hs
      intro u hu' v hv' h4 g4 e
      obtain ⟨p, hp, ep, -⟩ := lf1_from hu'
      obtain ⟨q, hq, eq, -⟩ := lf1_from hv'
      rw [ep] at h4 e ⊢
      rw [eq] at g4 e ⊢
      exact sA p hp q hq h4 g4 e
    · intro e he
      cases sU with
      | true => exact hu e he
      | false => cases he
    · obtain ⟨y, hy, en, rfl | ⟨hgo, rfl⟩⟩ := lf1_from ho
      · exact h2 o hy z hz
      · rw [blw_num l x en]
        have ez : z = leftM sN sU d (rstI ms y.num) (wthM y) := by
          unfold allM arM at hz
          simpa using hz
        rw [ez]
        exact ga y hy hgo
theorem nm_no46 {xs : List Int} (h : nmB xs = true) : ∀ c ∈ xs, c ≠ 46 := by
  unfold nmB at h
  rw [Bool.and_eq_true] at h
  have key : ∀ (f i : Nat), nmA xs f i = true → ∀ j, i ≤ j → j < i + f → bt xs j ≠ 46 := by
    intro f
    induction f with
    | zero => intro i _ j h1 h2; omega
    | succ f ih =>
      intro i hi j h1 h2
      rw [nmA, Bool.and_eq_true] at hi
      by_cases e : j = i
      · subst e
        intro q
        rw [q] at hi
        have := hi.1
        revert this
        cases hj : decide (j ≠ 0) <;> decide
      · exact ih (i + 1) hi.2 j (by omega) (by omega)
  intro c hc
  obtain ⟨i, hi, rfl⟩ := List.mem_iff_getElem.1 hc
  have := key _ 0 h.2 i (Nat.zero_le _) (by omega)
  unfold bt at this
  simpa [hi] using this
theorem ct_no46 : ∀ (xs : List Int), (∀ c ∈ xs, c ≠ 46) → ctN xs = xs ∧ ctG xs = false
  | [], _ => ⟨rfl, rfl⟩
  | c :: r, h => by
    obtain ⟨h1, h2⟩ := ct_no46 r (fun x hx => h x (by simp [hx]))
    rw [ctN, ctG, if_neg (h c (by simp)), if_neg (h c (by simp)), h1, h2]
    exact ⟨rfl, rfl⟩
theorem good_nms {l : List TV} (hg : goodB l = true) {x : TV} (hx : x ∈ l) : (∀ f ∈ x.t.fs, nmB f.name = true) ∧ x.t.fs.Pairwise (fun f g => f.name ≠ g.name) := by
  obtain ⟨k, hk, rfl⟩ := List.mem_iff_getElem.1 hx
  have h := good_at hg hk
  unfold stepB typB at h
  cases he : l[k].t.enum with
  | false =>
    rw [he] at h
    simp only [Bool.and_eq_true, Bool.false_eq_true, if_false] at h
    have h2 := h.2.2.2
    unfold msgB at h2
    simp only [Bool.and_eq_true] at h2
    have h3 := h2.2.2.2.2.2.2
    unfold nmsB at h3
    rw [Bool.and_eq_true] at h3
    have h4 := List.all_eq_true.1 h3.1
    refine ⟨fun f hf => h4 _ (List.mem_append_right _ (List.mem_map_of_mem hf)), ?_⟩
    have h5 := h3.2
    rw [dfB_iff _ (fun z hz => by obtain ⟨y, _, rfl⟩ := List.mem_map.1 hz; trivial), List.nodup_iff_pairwise_ne, List.pairwise_map, List.pairwise_append] at h5
    have h6 := h5.2.1
    rw [List.pairwise_map] at h6
    exact h6.imp (fun hne e => hne (by rw [e]))
  | true =>
    rw [he] at h
    simp only [Bool.and_eq_true, if_true, decide_eq_true_eq] at h
    have h3 : l[k].t.fs.length = 0 := by have := h.2.2.2.1; omega
    rw [List.eq_nil_of_length_eq_zero h3]
    exact ⟨fun f hf => (by cases hf), List.Pairwise.nil⟩
theorem find_nm : ∀ (fs : List FT) (f : FT), f ∈ fs → fs.Pairwise (fun f g => f.name ≠ g.name) → fs.find? (nmP f.name) = some f
  | g :: fs, f, hf, hp => by
    obtain ⟨h1, h2⟩ := List.pairwise_cons.1 hp
    rcases List.mem_cons.1 hf with rfl | hf
    · rw [List.find?_cons_of_pos (by unfold nmP; simp)]
    · rw [List.find?_cons_of_neg (by unfold nmP; simpa using h1 f hf)]
      exact find_nm fs f hf h2
theorem way_nm {l : List TV} {fs : List FT} (hp : fs.Pairwise (fun f g => f.name ≠ g.name)) (hn : ∀ f ∈ fs, nmB f.name = true) {f : FT} (hf : f ∈ fs) (n : Nat) : wayM l (n + 1) fs f.name = some [f.num] := by
  obtain ⟨h1, h2⟩ := ct_no46 f.name (nm_no46 (hn f hf))
  rw [wayM, h1, find_nm fs f hf hp]
  dsimp only
  rw [h2, if_neg (by simp)]
set_option maxHeartbeats 1000000
def HasM (d : Nat) (m : CM) : Prop := ∃ (w : World) (Z : Nat → Prop) (cs : List Value), MsgE w Z d cs m
theorem HasM.no {m : CM} (h : HasM 0 m) : False := by
  obtain ⟨w, Z, cs, h⟩ := h
  exact h
theorem HasM.sub {d : Nat} {m : CM} (h : HasM (d + 1) m) {y : CF CM} (hy : y ∈ m.fs) {v : CV CM} (hv : v ∈ y.vs) {z : CM} (hz : z ∈ v.ms) : HasM d z := by
  obtain ⟨w, Z, cs, h⟩ := h
  obtain ⟨ds, g⟩ := msg_within h hy hv hz
  exact ⟨w, Z, ds, g⟩
/-- The paths of a message, each with its way. -/
def pw1 (P : List FT → CM → List (List Int × List Int)) (l : List TV) (fs : List FT) (x : CF CM) : List (List Int × List Int) :=
  if goP fs x then (P (fsAt l (ownF fs x.num).ref) (wthM x)).map (fun q => ((ownF fs x.num).name ++ 46 :: q.1, x.num :: q.2)) else [((ownF fs x.num).name, [x.num])]
def pwM (l : List TV) : Nat → List FT → CM → List (List Int × List Int)
  | 0, _, _ => []
  | d + 1, fs, m => m.fs.flatMap (pw1 (pwM l d) l fs)
theorem pt_pw (l : List TV) : ∀ (d : Nat) (fs : List FT) (ah : List Int) (m : CM), ptM l d fs ah m = (pwM l d fs m).map (fun q => ah ++ q.1)
  | 0, _, _, _ => rfl
  | d + 1, fs, ah, m => by
    rw [ptM, pwM, List.map_flatMap]
    congr 1
    funext x
    unfold pt1 pw1
    split
    · rw [pt_pw l d, List.map_map]
      congr 1
      funext q
      simp [Function.comp]
    · rfl
theorem kept_own {l : List TV} {d : Nat} {x : TV} {m : CM} (hk : keptB l (d + 1) x m = true) {y : CF CM} (hy : y ∈ m.fs) : ownF x.t.fs y.num ∈ x.t.fs ∧ (ownF x.t.fs y.num).num = y.num := ownF_hasF (kept_ms hk hy).1
theorem kept_go {l : List TV} (hg : goodB l = true) {d : Nat} {x : TV} (hx : x ∈ l) {m : CM} (hk : keptB l (d + 1) x m = true) (hE : HasM (d + 1) m) {y : CF CM} (hy : y ∈ m.fs) (hw : isWyB (ownF x.t.fs y.num) = true) : ∃ t ∈ l, l[(ownF x.t.fs y.num).ref.toNat]? = some t ∧ fsAt l (ownF x.t.fs y.num).ref = t.t.fs ∧ keptB l d t (wthM y) = true ∧ HasM d (wthM y) ∧ ∃ v z, y.vs = [v] ∧ v.ms = [z] := by
  obtain ⟨h1, h2⟩ := kept_own hk hy
  obtain ⟨v, z, t, e1, e2, e3, e4, e5⟩ := kept_wayM hg hx hk h1 hw hy h2.symm
  have ew : wthM y = z := by unfold wthM; rw [e1]; dsimp only; rw [e2]
  refine ⟨t, e4, e3, by unfold fsAt; rw [e3]; rfl, by rw [ew]; exact e5, ?_, v, z, e1, e2⟩
  rw [ew]
  exact hE.sub hy (v := v) (by rw [e1]; simp) (by rw [e2]; simp)
theorem goP_go {fs : List FT} {y : CF CM} (h : goP fs y = true) : isWyB (ownF fs y.num) = true ∧ 0 < (wthM y).fs.length := by
  unfold goP at h
  simpa using h
theorem ct_dot : ∀ (xs r : List Int), (∀ c ∈ xs, c ≠ 46) → ctN (xs ++ 46 :: r) = xs ∧ ctG (xs ++ 46 :: r) = true ∧ ctR (xs ++ 46 :: r) = r
  | [], r, _ => by
    rw [List.nil_append, ctN, ctG, ctR, if_pos rfl, if_pos rfl, if_pos rfl]
    exact ⟨rfl, rfl, rfl⟩
  | c :: xs, r, h => by
    obtain ⟨h1, h2, h3⟩ := ct_dot xs r (fun x hx => h x (by simp [hx]))
    have hc := h c (by simp)
    rw [List.cons_append, ctN, ctG, ctR, if_neg hc, if_neg hc, if_neg hc, h1, h2, h3]
    exact ⟨rfl, rfl, rfl⟩
theorem pw_way {l : List TV} (hg : goodB l = true) : ∀ (d : Nat) (x : TV) (m : CM), x ∈ l → keptB l d x m = true → HasM d m → ∀ q ∈ pwM l d x.t.fs m, ∀ n, q.1.length < n → wayM l n x.t.fs q.1 = some q.2
  | 0, _, _, _, _, hE, _, _, _, _ => absurd hE HasM.no
  | d + 1, x, m, hx, hk, hE, q, hq, n, hn => by
    rw [pwM] at hq
    obtain ⟨y, hy, hq⟩ := List.mem_flatMap.1 hq
    obtain ⟨n, rfl⟩ : ∃ k, n = k + 1 := ⟨n - 1, by omega⟩
    obtain ⟨o1, o2⟩ := kept_own hk hy
    obtain ⟨hN, hP⟩ := good_nms hg hx
    unfold pw1 at hq
    split at hq
    · rename_i hgo
      obtain ⟨w1, w2⟩ := goP_go hgo
      obtain ⟨t, ht, et, ef, kt, hT, -⟩ := kept_go hg hx hk hE hy w1
      obtain ⟨r, hr, rfl⟩ := List.mem_map.1 hq
      rw [ef] at hr
      obtain ⟨c1, c2, c3⟩ := ct_dot (ownF x.t.fs y.num).name r.1 (nm_no46 (hN _ o1))
      have ih := pw_way hg d t (wthM y) ht kt hT r hr n (by simp at hn; omega)
      rw [wayM, c1, c2, c3, find_nm _ _ o1 hP]
      dsimp only
      rw [if_pos rfl, if_pos w1, et]
      show Option.map _ (wayM l n t.t.fs r.1) = _
      rw [ih, o2]
      rfl
    · rw [List.mem_singleton] at hq
      subst hq
      rw [way_nm hP hN o1, o2]
theorem fnd_num {xs : List (CF CM)} (hp : xs.Pairwise (fun a b => a.num < b.num)) {y : CF CM} (hy : y ∈ xs) : xs.find? (isN y.num) = some y := by
  induction xs with
  | nil => cases hy
  | cons a r ih =>
    obtain ⟨h1, h2⟩ := List.pairwise_cons.1 hp
    rcases List.mem_cons.1 hy with rfl | hy
    · rw [List.find?_cons_of_pos (by unfold isN; simp)]
    · have := h1 y hy
      rw [List.find?_cons_of_neg (by unfold isN; simp; omega)]
      exact ih h2 hy
theorem kept_pw {l : List TV} {d : Nat} {x : TV} {m : CM} (hk : keptB l (d + 1) x m = true) : m.fs.Pairwise (fun a b => a.num < b.num) := rise_pw.1 (hold_facts (kept_all hk).1).1
theorem pw_val {l : List TV} (hg : goodB l = true) : ∀ (d : Nat) (x : TV) (m : CM), x ∈ l → keptB l d x m = true → HasM d m → ∀ q ∈ pwM l d x.t.fs m, q.2 ≠ [] ∧ ∃ y, (intoM q.2.dropLast m).fs.find? (isN (q.2.getLastD 0)) = some y
  | 0, _, _, _, _, hE, _, _ => absurd hE HasM.no
  | d + 1, x, m, hx, hk, hE, q, hq => by
    rw [pwM] at hq
    obtain ⟨y, hy, hq⟩ := List.mem_flatMap.1 hq
    have hf := fnd_num (kept_pw hk) hy
    unfold pw1 at hq
    split at hq
    · rename_i hgo
      obtain ⟨w1, w2⟩ := goP_go hgo
      obtain ⟨t, ht, et, ef, kt, hT, -⟩ := kept_go hg hx hk hE hy w1
      obtain ⟨r, hr, rfl⟩ := List.mem_map.1 hq
      rw [ef] at hr
      obtain ⟨i1, i2⟩ := pw_val hg d t (wthM y) ht kt hT r hr
      dsimp only
      refine ⟨by simp, ?_⟩
      obtain ⟨a, b, e⟩ : ∃ a b, r.2 = a :: b := by
        cases h : r.2 with
        | nil => exact absurd h i1
        | cons a b => exact ⟨a, b, rfl⟩
      rw [e] at i2 ⊢
      rw [List.dropLast_cons_cons, intoM, hf]
      exact i2
    · rw [List.mem_singleton] at hq
      subst hq
      exact ⟨by simp, y, hf⟩
theorem pw_some {l : List TV} (hg : goodB l = true) {d : Nat} {x : TV} {m : CM} (hx : x ∈ l) (hk : keptB l d x m = true) (hE : HasM d m) {q : List Int × List Int} (hq : q ∈ pwM l d x.t.fs m) : (valM l x.t.fs m q.1).2 = 0 := by
  obtain ⟨-, y, hy⟩ := pw_val hg d x m hx hk hE q hq
  unfold valM
  rw [pw_way hg d x m hx hk hE q hq _ (Nat.lt_succ_self _)]
  dsimp only
  rw [hy]
theorem ctD_app : ∀ a b : List Int, ctD (a ++ b) = ctD a + ctD b
  | [], b => by simp [ctD]
  | c :: a, b => by
    rw [List.cons_append, ctD, ctD, ctD_app a b]
    split <;> omega
theorem ctD_no : ∀ a : List Int, (∀ c ∈ a, c ≠ 46) → ctD a = 0
  | [], _ => rfl
  | c :: a, h => by rw [ctD, if_neg (h c (by simp)), ctD_no a (fun x hx => h x (by simp [hx]))]
theorem pw_bd {l : List TV} (hg : goodB l = true) (hok : ∀ x ∈ l, OkV x) (hnm : ∀ x ∈ l, ∀ f ∈ x.t.fs, f.name.length ≤ 4000000) : ∀ (d : Nat) (x : TV) (m : CM), x ∈ l → keptB l d x m = true → HasM d m → ∀ q ∈ pwM l d x.t.fs m, (∀ c ∈ q.1, 0 ≤ c ∧ c ≤ 255) ∧ q.1.length ≤ d * 4000001 ∧ ctD q.1 ≤ d
  | 0, _, _, _, _, hE, _, _ => absurd hE HasM.no
  | d + 1, x, m, hx, hk, hE, q, hq => by
    rw [pwM] at hq
    obtain ⟨y, hy, hq⟩ := List.mem_flatMap.1 hq
    obtain ⟨o1, o2⟩ := kept_own hk hy
    have hT := (hok x hx).ok.fs _ o1
    have hL := hnm x hx _ o1
    have hD := ctD_no _ (nm_no46 ((good_nms hg hx).1 _ o1))
    unfold pw1 at hq
    split at hq
    · rename_i hgo
      obtain ⟨w1, w2⟩ := goP_go hgo
      obtain ⟨t, ht, et, ef, kt, hT2, -⟩ := kept_go hg hx hk hE hy w1
      obtain ⟨r, hr, rfl⟩ := List.mem_map.1 hq
      rw [ef] at hr
      obtain ⟨i1, i2, i3⟩ := pw_bd hg hok hnm d t (wthM y) ht kt hT2 r hr
      dsimp only
      refine ⟨fun c hc => ?_, by simp; omega, by rw [ctD_app, ctD, if_pos rfl, hD]; omega⟩
      rcases List.mem_append.1 hc with hc | hc
      · exact hT.1 c hc
      · rcases List.mem_cons.1 hc with rfl | hc
        · omega
        · exact i1 c hc
    · rw [List.mem_singleton] at hq
      subst hq
      exact ⟨hT.1, by dsimp only; omega, by dsimp only; omega⟩
theorem msk_pw {l : List TV} {fs : List FT} : ∀ L : List (List Int × List Int), (∀ q ∈ L, wayM l (q.1.length + 1) fs q.1 = some q.2) → mskM l fs (L.map Prod.fst) = some (L.map Prod.snd)
  | [], _ => rfl
  | q :: L, h => by
    rw [List.map_cons, mskM, h q (by simp)]
    dsimp only
    rw [msk_pw L (fun r hr => h r (by simp [hr]))]
    rfl
theorem flat_at {β : Type} (g : CF CM → List β) : ∀ (xs : List (CF CM)) (y : CF CM), xs.Pairwise (fun a b => a.num < b.num) → y ∈ xs → (∀ x ∈ xs, x.num ≠ y.num → g x = []) → xs.flatMap g = g y
  | [], y, _, hy, _ => by cases hy
  | a :: r, y, hp, hy, h => by
    obtain ⟨h1, h2⟩ := List.pairwise_cons.1 hp
    rw [List.flatMap_cons]
    rcases List.mem_cons.1 hy with rfl | hy
    · rw [show r.flatMap g = [] from List.flatMap_eq_nil_iff.2 (fun x hx => h x (by simp [hx]) (by have := h1 x hx; omega)), List.append_nil]
    · rw [h a (by simp) (by have := h1 y hy; omega), List.nil_append]
      exact flat_at g r y h2 hy (fun x hx => h x (by simp [hx]))
theorem pw1_hd {P : List FT → CM → List (List Int × List Int)} {l : List TV} {fs : List FT} {x : CF CM} : ∀ q ∈ pw1 P l fs x, ∃ r, q.2 = x.num :: r := fun q hq => by
  unfold pw1 at hq
  split at hq
  · obtain ⟨r, hr, rfl⟩ := List.mem_map.1 hq
    exact ⟨_, rfl⟩
  · rw [List.mem_singleton] at hq
    subst hq
    exact ⟨_, rfl⟩
theorem rst_flat {l : List TV} {P : List FT → CM → List (List Int × List Int)} {fs : List FT} {xs : List (CF CM)} (hp : xs.Pairwise (fun a b => a.num < b.num)) {y : CF CM} (hy : y ∈ xs) : rstI ((xs.flatMap (pw1 P l fs)).map Prod.snd) y.num = (pw1 P l fs y).map (fun q => q.2.tail) := by
  unfold rstI
  rw [List.map_flatMap, List.filter_flatMap, List.map_flatMap]
  rw [flat_at _ xs y hp hy]
  · rw [List.filter_eq_self.2 (fun w hw => ?_), List.map_map]
    · rfl
    · obtain ⟨q, hq, rfl⟩ := List.mem_map.1 hw
      obtain ⟨r, e⟩ := pw1_hd q hq
      rw [e]
      unfold hdI
      simp
  · intro x hx hne
    rw [show ((pw1 P l fs x).map Prod.snd).filter (hdI y.num) = [] from List.filter_eq_nil_iff.2 (fun w hw => ?_)]
    · rfl
    · obtain ⟨q, hq, rfl⟩ := List.mem_map.1 hw
      obtain ⟨r, e⟩ := pw1_hd q hq
      rw [e]
      unfold hdI
      simpa using hne
/-- What all paths keep. -/
def kf1 (K : List FT → CM → CM) (l : List TV) (fs : List FT) (y : CF CM) : CF CM := if goP fs y then arM y.num (K (fsAt l (ownF fs y.num).ref) (wthM y)) else y
def kfM (l : List TV) : Nat → List FT → CM → CM
  | 0, _, m => m
  | d + 1, fs, m => CM.mk (m.fs.map (kf1 (kfM l d) l fs)) []
theorem flat_map {α β : Type} (f : α → List β) (g : α → β) : ∀ xs : List α, (∀ x ∈ xs, f x = [g x]) → xs.flatMap f = xs.map g
  | [], _ => rfl
  | a :: r, h => by rw [List.flatMap_cons, h a (by simp), flat_map f g r (fun x hx => h x (by simp [hx]))]; rfl
theorem pw_len {l : List TV} (hg : goodB l = true) : ∀ (d : Nat) (x : TV) (m : CM), x ∈ l → keptB l d x m = true → HasM d m → 0 < m.fs.length → pwM l d x.t.fs m ≠ []
  | 0, _, _, _, _, hE, _ => absurd hE HasM.no
  | d + 1, x, m, hx, hk, hE, h0 => by
    obtain ⟨y, hy⟩ : ∃ y, y ∈ m.fs := List.exists_mem_of_length_pos h0
    intro he
    rw [pwM, List.flatMap_eq_nil_iff] at he
    have := he y hy
    unfold pw1 at this
    split at this
    · rename_i hgo
      obtain ⟨w1, w2⟩ := goP_go hgo
      obtain ⟨t, ht, et, ef, kt, hT, -⟩ := kept_go hg hx hk hE hy w1
      rw [ef] at this
      exact pw_len hg d t (wthM y) ht kt hT w2 (List.map_eq_nil_iff.1 this)
    · cases this
theorem left_pw {l : List TV} (hg : goodB l = true) : ∀ (d : Nat) (x : TV) (m : CM), x ∈ l → keptB l d x m = true → HasM d m → leftM true false d ((pwM l d x.t.fs m).map Prod.snd) m = kfM l d x.t.fs m
  | 0, _, _, _, _, hE => absurd hE HasM.no
  | d + 1, x, m, hx, hk, hE => by
    rw [leftM, kfM]
    have hp := kept_pw hk
    congr 1
    refine flat_map _ _ _ (fun y hy => ?_)
    have hr := rst_flat (l := l) (P := pwM l d) (fs := x.t.fs) hp hy
    rw [show m.fs.flatMap (pw1 (pwM l d) l x.t.fs) = pwM l (d + 1) x.t.fs m from rfl] at hr
    have hany : ((pwM l (d + 1) x.t.fs m).map Prod.snd).any (hdI y.num) = decide (rstI ((pwM l (d + 1) x.t.fs m).map Prod.snd) y.num ≠ []) := by
      unfold rstI
      generalize (pwM l (d + 1) x.t.fs m).map Prod.snd = L
      induction L with
      | nil => rfl
      | cons a r ih =>
        rw [List.any_cons, ih]
        cases h : hdI y.num a with
        | false => rw [List.filter_cons_of_neg (by rw [h]; simp)]; simp
        | true => rw [List.filter_cons_of_pos h]; simp
    unfold lf1 goB kf1
    rw [hany, hr]
    unfold pw1
    cases hgo : goP x.t.fs y with
    | true =>
      obtain ⟨w1, w2⟩ := goP_go hgo
      obtain ⟨t, ht, et, ef, kt, hT, -⟩ := kept_go hg hx hk hE hy w1
      have hne := pw_len hg d t (wthM y) ht kt hT w2
      have hv := pw_val hg d t (wthM y) ht kt hT
      rw [if_pos rfl, if_pos rfl, List.map_map, ef]
      have e1 : (pwM l d t.t.fs (wthM y)).map ((fun q => q.2.tail) ∘ fun q => ((ownF x.t.fs y.num).name ++ 46 :: q.1, y.num :: q.2)) = (pwM l d t.t.fs (wthM y)).map Prod.snd := rfl
      rw [e1, if_pos]
      · rw [left_pw hg d t (wthM y) ht kt hT]
      · rw [Bool.and_eq_true]
        refine ⟨decide_eq_true (fun e => hne (List.map_eq_nil_iff.1 e)), ?_⟩
        rw [Bool.not_eq_true', List.any_eq_false]
        intro r hr2
        obtain ⟨q, hq, rfl⟩ := List.mem_map.1 hr2
        have := (hv q hq).1
        simpa using this
    | false => rfl
theorem kf_pw {l : List TV} (hg : goodB l = true) : ∀ (d : Nat) (x : TV) (m : CM), x ∈ l → keptB l d x m = true → HasM d m → pwM l d x.t.fs (kfM l d x.t.fs m) = pwM l d x.t.fs m
  | 0, _, _, _, _, hE => absurd hE HasM.no
  | d + 1, x, m, hx, hk, hE => by
    rw [kfM, pwM, pwM]
    show (m.fs.map _).flatMap _ = _
    rw [List.flatMap_map]
    have key : ∀ y ∈ m.fs, pw1 (pwM l d) l x.t.fs (kf1 (kfM l d) l x.t.fs y) = pw1 (pwM l d) l x.t.fs y := fun y hy => by
      unfold kf1
      cases hgo : goP x.t.fs y with
      | false => rfl
      | true =>
        obtain ⟨w1, w2⟩ := goP_go hgo
        obtain ⟨t, ht, et, ef, kt, hT, -⟩ := kept_go hg hx hk hE hy w1
        rw [if_pos rfl]
        have e0 : (arM y.num (kfM l d (fsAt l (ownF x.t.fs y.num).ref) (wthM y))).num = y.num := rfl
        have e1 : wthM (arM y.num (kfM l d (fsAt l (ownF x.t.fs y.num).ref) (wthM y))) = kfM l d t.t.fs (wthM y) := by rw [wth_ar, ef]
        have e2 : 0 < (kfM l d t.t.fs (wthM y)).fs.length := by
          cases d with
          | zero => exact absurd hT HasM.no
          | succ d =>
            rw [kfM]
            show 0 < (List.map _ _).length
            rw [List.length_map]
            exact w2
        have hgo2 : goP x.t.fs (arM y.num (kfM l d (fsAt l (ownF x.t.fs y.num).ref) (wthM y))) = true := by
          unfold goP
          rw [e0, e1, w1, decide_eq_true e2]
          rfl
        unfold pw1
        rw [hgo, hgo2, if_pos rfl, if_pos rfl, e0, e1, ef, kf_pw hg d t (wthM y) ht kt hT]
    have gen : ∀ ys : List (CF CM), (∀ y ∈ ys, y ∈ m.fs) → ys.flatMap (fun y => pw1 (pwM l d) l x.t.fs (kf1 (kfM l d) l x.t.fs y)) = ys.flatMap (pw1 (pwM l d) l x.t.fs) := by
      intro ys
      induction ys with
      | nil => intro _; rfl
      | cons a r ih =>
        intro h
        rw [List.flatMap_cons, List.flatMap_cons, key a (h a (by simp)), ih (fun y hy => h y (by simp [hy]))]
    exact gen m.fs (fun _ h => h)
/-- How many fields there are, those of messages within too. -/
def cntM : Nat → CM → Nat
  | 0, _ => 0
  | d + 1, m => (m.fs.map (fun y => 1 + cntM d (wthM y))).sum
theorem pw_cnt (l : List TV) : ∀ (d : Nat) (fs : List FT) (m : CM), (pwM l d fs m).length ≤ cntM d m
  | 0, _, _ => Nat.le_refl _
  | d + 1, fs, m => by
    rw [pwM, cntM, List.length_flatMap]
    have key : ∀ ys : List (CF CM), (ys.map (fun y => (pw1 (pwM l d) l fs y).length)).sum ≤ (ys.map (fun y => 1 + cntM d (wthM y))).sum := by
      intro ys
      induction ys with
      | nil => exact Nat.le_refl _
      | cons a r ih =>
        simp only [List.map_cons, List.sum_cons]
        have : (pw1 (pwM l d) l fs a).length ≤ 1 + cntM d (wthM a) := by
          unfold pw1
          split
          · rw [List.length_map]
            have := pw_cnt l d (fsAt l (ownF fs a.num).ref) (wthM a)
            omega
          · simp
        omega
    exact key m.fs
theorem pt_ok {l : List TV} (hg : goodB l = true) (hok : ∀ x ∈ l, OkV x) (hnm : ∀ x ∈ l, ∀ f ∈ x.t.fs, f.name.length ≤ 4000000) : ∀ (d : Nat) (x : TV) (m : CM), x ∈ l → keptB l d x m = true → HasM d m → PtOk l d x.t.fs m
  | 0, _, _, _, _, hE => absurd hE HasM.no
  | d + 1, x, m, hx, hk, hE => by
    rw [PtOk]
    intro y hy
    obtain ⟨o1, o2⟩ := kept_own hk hy
    refine ⟨⟨(hok x hx).ok.fs _ o1, hnm x hx _ o1⟩, fun hw => ?_⟩
    obtain ⟨t, ht, et, ef, kt, hT, v, z, ev, ez⟩ := kept_go hg hx hk hE hy hw
    obtain ⟨r0, r1⟩ := good_refs hg hx o1
    refine ⟨⟨v, [], z, [], ev, ez⟩, (ownF x.t.fs y.num).ref.toNat, r1, by omega, ?_⟩
    have e2 : l[(ownF x.t.fs y.num).ref.toNat] = t := by
      rw [List.getElem?_eq_getElem r1] at et
      exact Option.some.inj et
    rw [e2]
    exact pt_ok hg hok hnm d t (wthM y) ht kt hT
theorem listT (l : List TV) (hok : ∀ x ∈ l, OkV x) (hg : goodB l = true) (W0 : World) (p : Nat) (ta : Option Addr) (tc : Nat) (hT : TbR W0 (.slice ta l.length tc) l) (hp : W0.heap.size ≤ p) : ∀ d : Nat, LsC l W0 p (.slice ta l.length tc) d
  | 0 => fun w k hk cs m ah ps av pv h => absurd h (fun h => h)
  | d + 1 => listStep l hok hg W0 p ta tc hT hp d (listT l hok hg W0 p ta tc hT hp d)
/-- What Paths answers. -/
def PthA (w : World) (ps : List (List Int)) (n : Int) (e : Ending) (w' : World) : Prop := ∃ (pa : Option Addr) (pc : Nat), e = .returned (.tuple #[.slice pa ps.length pc, .int .i64 n]) ∧ w'.ownsRow w.heap.size 9 1 (.slice pa ps.length pc) ps.length (ps.map (fun s => Value.string (strOfNums s))) ∧ Below w.heap.size w w'
theorem PthA.no {w w' : World} {n : Int} (h : Below w.heap.size w w') : PthA w [] n (.returned (.tuple #[.slice none 0 0, .int .i64 n])) w' := ⟨none, 0, rfl, World.ownsRow_nil _ _ _ _, h⟩
theorem PthA.yes {w w' : World} {ps : List (List Int)} {pv : Value} (ho : w'.ownsRow w.heap.size 9 1 pv ps.length (ps.map (fun s => Value.string (strOfNums s)))) (h : Below w.heap.size w w') : PthA w ps 0 (.returned (.tuple #[pv, .int .i64 0])) w' := by
  obtain ⟨a, c, rfl⟩ := own_shape ho
  exact ⟨a, c, rfl, ho, h⟩
theorem pathsT (w : World) (l : List TV) (ta : Option Addr) (tc : Nat) (h : TbR w (.slice ta l.length tc) l) (hk : ∀ x ∈ l, OkV x) (hnm : ∀ x ∈ l, ∀ f ∈ x.t.fs, f.name.length ≤ 4000000) (mx : Int) (hm0 : w.cell? ⟨0, 0, none⟩ = some (.int .i64 mx)) (k : Nat) (hkl : k < l.length) (hg : goodB l = true) (he : l[k].t.enum = false) (Z : Nat → Prop) (d : Nat) (cs : List Value) (m : CM) (hm : MsgE w Z (d + 1) cs m) (ka : keptB l (d + 1) l[k] m = true) (hn1 : (d + 1) * 4000001 ≤ 140737488355328) (hn2 : (ptM l (d + 1) l[k].t.fs [] m).length ≤ 4000000) : Calls Tryz.prog 17 #[.agg #[.slice ta l.length tc], .int .i64 (k : Int), .agg cs.toArray] w (PthA w (ptM l (d + 1) l[k].t.fs [] m) 0) := by
  have HPO : Hid (PtOk l (d + 1) l[k].t.fs m) := hid (pt_ok hg hk hnm (d + 1) l[k] m (List.getElem_mem hkl) ka ⟨w, Z, cs, hm⟩)
  obtain ⟨fa, fc, ua, uc, rfl, -⟩ := msg_openD hm
  have HMO : Hid (MsgE w (· < w.heap.size) (d + 1) [.slice fa m.fs.length fc, .slice ua m.us.length uc] m) := hid (MsgE.go (Keep.refl (fun _ => True) _) (fun _ _ => trivial) (fun b hb => hb.2) (d + 1) _ _ (MsgE.old (d + 1) _ _ hm))
  have HTA := hid fun W (hW : Below w.heap.size w W) q (hz : w.heap.size ≤ q) (hq : Blk W q 29 #[.slice fa m.fs.length fc, .slice ua m.us.length uc]) => tAtOk W l ta tc (h.kept hW) hk mx (cell_below hm0 hW) k hkl hg he (fun b => Z b ∨ w.heap.size ≤ b) (d + 1) [m] (some ⟨q, 0, none⟩) 1 (mgs1 (MsgE.go (keepT hW) (fun _ _ => trivial) (fun b h => Or.inl h) (d + 1) _ _ hm) (Or.inr hz) hq) (by simp [ka])
  have HLS := hid fun W (hW : Below w.heap.size w W) => listT l hk hg W W.heap.size ta tc (h.kept hW) (Nat.le_refl _) (d + 1) (W.alloc (.cells #[.slice ta l.length tc, .slice none 0 0, .slice none 0 0] 84)) k hkl [.slice fa m.fs.length fc, .slice ua m.us.length uc] m [] [] (.slice none 0 0) (.slice none 0 0) (MsgE.go (f := (· < w.heap.size)) (Keep.ofBelow (below_trans hW (below_alloc _))) (fun _ h => h) (fun b hb => Nat.lt_of_lt_of_le hb hW.size) (d + 1) _ _ HMO.out) HPO.out ⟨Blk.new _ _ _, World.ownsRow_nil _ _ _ _, World.ownsRow_nil _ _ _ _, below_alloc _⟩ (fun c hc => by cases hc) (by simpa using hn1) (by simpa using hn2)
  obtain ⟨a1, c1, a2, c2, a3, c3, a4, c4, e1, e2, e3, e4⟩ := shT_of (h.ty l[k] (List.getElem_mem hkl))
  have ec : cTV l[k] = [.string (strOfNums l[k].t.name), .bool l[k].t.enum, .slice a1 l[k].t.fs.length c1, .slice a2 l[k].t.os.length c2, .slice a3 l[k].t.ss.length c3, .slice a4 l[k].t.rs.length c4] := by unfold cTV; rw [e1, e2, e3, e4]
  rw [ec] at HTA HLS
  obtain ⟨P, HP⟩ : ∃ P, Hid (P = ptM l (d + 1) l[k].t.fs [] m) := ⟨_, hid rfl⟩
  rw [← HP.out] at HLS ⊢
  clear h hk hm0 hg he hm ka hnm hn1 hn2 e1 e2 e3 e4 ec HPO HP HMO
  generalize l[k] = x at *
  go_enter Tryz.func17, Tryz.ntmps17
  go_wp2_with fail
  refine (HTA.out _ (by exact blBy) _ ?_ (Blk.newAt (by simp))).mono ?_
  · omega
  rintro e w1 ⟨rfl, hbx⟩
  have BT : Hid (Blk w1 w.heap.size 24 #[.slice ta l.length tc]) := hid ((((Blk.new _ _ _).kept (below_alloc _)).kept (below_alloc _)).kept hbx)
  have BA : Hid (Blk w1 (w.heap.size + 1) 29 #[.slice fa m.fs.length fc, .slice ua m.us.length uc]) := hid (((Blk.newAt (by simp)).kept (below_alloc _)).kept hbx)
  have HB1 : Hid (Below w.heap.size w w1) := hid (bl_then (by exact blBy) hbx)
  clear hbx HTA
  have xt := BT.out.cellF
  have zt := BT.out.lt
  have xa := BA.out.cellF
  have za := BA.out.lt
  have HL := hid (HLS.out (w1.alloc (.cells #[.string (strOfNums x.t.name), .bool x.t.enum, .slice a1 x.t.fs.length c1, .slice a2 x.t.os.length c2, .slice a3 x.t.ss.length c3, .slice a4 x.t.rs.length c4] 63)) (bl_alloc HB1.out _))
  have HW : Hid (Below w.heap.size w (w1.alloc (.cells #[.string (strOfNums x.t.name), .bool x.t.enum, .slice a1 x.t.fs.length c1, .slice a2 x.t.os.length c2, .slice a3 x.t.ss.length c3, .slice a4 x.t.rs.length c4] 63))) := hid (bl_alloc HB1.out _)
  rw [show (w1.alloc (.cells #[.string (strOfNums x.t.name), .bool x.t.enum, .slice a1 x.t.fs.length c1, .slice a2 x.t.os.length c2, .slice a3 x.t.ss.length c3, .slice a4 x.t.rs.length c4] 63)).heap.size = w1.heap.size + 1 from by simp] at HL
  clear HLS
  go_wp2_with fail
  refine HL.out.mono ?_
  rintro e w2 ⟨rfl, av, pv, hS, hsz, -⟩
  have HO : Hid (w2.ownsRow w.heap.size 9 1 pv P.length (P.map (fun s => Value.string (strOfNums s)))) := hid (own_mono hS.op (by have := HB1.out.size; omega))
  have HB2 : Hid (Below w.heap.size w w2) := hid (HW.out.trans (hS.bel.mono HW.out.size))
  have BL := hid hS.blk
  clear hS hsz xt zt xa za HL
  have xl := BL.out.cellF
  have zl := BL.out.lt
  go_wp2
  exact bodyPost_ret (v := .tuple #[pv, .int .i64 0]) (by simp [results, Tryz.results17, go_sem]) rfl (PthA.yes HO.out (by have := HB2.out; exact blBy))
theorem pathsBad (w : World) (l : List TV) (ta : Option Addr) (tc : Nat) (h : TbR w (.slice ta l.length tc) l) (hk : ∀ x ∈ l, OkV x) (mx : Int) (hm0 : w.cell? ⟨0, 0, none⟩ = some (.int .i64 mx)) (k : Nat) (hkl : k < l.length) (hg : goodB l = true) (he : l[k].t.enum = false) (Z : Nat → Prop) (d : Nat) (cs : List Value) (m : CM) (hm : MsgE w Z (d + 1) cs m) (ka : keptB l (d + 1) l[k] m = false) : Calls Tryz.prog 17 #[.agg #[.slice ta l.length tc], .int .i64 (k : Int), .agg cs.toArray] w (PthA w [] 10) := by
  obtain ⟨fa, fc, ua, uc, rfl, -⟩ := msg_openD hm
  have HTA := hid fun W (hW : Below w.heap.size w W) q (hz : w.heap.size ≤ q) (hq : Blk W q 29 #[.slice fa m.fs.length fc, .slice ua m.us.length uc]) => tAtBad W l ta tc (h.kept hW) hk mx (cell_below hm0 hW) k hkl hg he (fun b => Z b ∨ w.heap.size ≤ b) (d + 1) [m] (some ⟨q, 0, none⟩) 1 (mgs1 (MsgE.go (keepT hW) (fun _ _ => trivial) (fun b h => Or.inl h) (d + 1) _ _ hm) (Or.inr hz) hq) (by simp [ka])
  clear h hk hm0 hg he hm ka
  go_enter Tryz.func17, Tryz.ntmps17
  go_wp2_with fail
  refine (HTA.out _ (by exact blBy) _ ?_ (Blk.newAt (by simp))).mono ?_
  · omega
  rintro e w1 ⟨rfl, hbx⟩
  have HB1 : Hid (Below w.heap.size w w1) := hid (bl_then (by exact blBy) hbx)
  clear hbx HTA
  go_wp2
  exact bodyPost_ret (v := .tuple #[.slice none 0 0, .int .i64 10]) (by simp [results, Tryz.results17, go_sem]) rfl (PthA.no (by have := HB1.out; exact blBy))
theorem pathsNo (w : World) (l : List TV) (ta : Option Addr) (tc : Nat) (h : TbR w (.slice ta l.length tc) l) (hk : ∀ x ∈ l, OkV x) (mx : Int) (hm0 : w.cell? ⟨0, 0, none⟩ = some (.int .i64 mx)) (idx : Int) (hno : isB l idx false = false) (fa ua : Option Addr) (fn1 fc un uc : Nat) : Calls Tryz.prog 17 #[.agg #[.slice ta l.length tc], .int .i64 idx, .agg #[.slice fa fn1 fc, .slice ua un uc]] w (PthA w [] 18) := by
  have HTA := hid fun W (hW : Below w.heap.size w W) q (hq : Blk W q 29 #[.slice fa fn1 fc, .slice ua un uc]) => tAtNo W l ta tc (h.kept hW) hk mx (cell_below hm0 hW) idx hno fa ua fn1 fc un uc q 1 (by decide) (by decide) (hq.cell 0 _ rfl) (hq.cell 1 _ rfl)
  clear h hk hm0 hno
  go_enter Tryz.func17, Tryz.ntmps17
  go_wp2_with fail
  refine (HTA.out _ (by exact blBy) _ (Blk.newAt (by simp))).mono ?_
  rintro e w1 ⟨rfl, hbx⟩
  have HB1 : Hid (Below w.heap.size w w1) := hid (bl_then (by exact blBy) hbx)
  clear hbx HTA
  go_wp2
  exact bodyPost_ret (v := .tuple #[.slice none 0 0, .int .i64 18]) (by simp [results, Tryz.results17, go_sem]) rfl (PthA.no (by have := HB1.out; exact blBy))
theorem CE.ext4 {x y : CE} (h1 : x.num = y.num) (h2 : x.kind = y.kind) (h3 : x.n = y.n) (h4 : x.b = y.b) : x = y := by
  cases x; cases y; simp_all
theorem CV.ext3 {x y : CV CM} (h1 : x.n = y.n) (h2 : x.b = y.b) (h3 : x.ms = y.ms) : x = y := by
  cases x; cases y; simp_all
theorem CF.ext3 {x y : CF CM} (h1 : x.num = y.num) (h2 : x.ks = y.ks) (h3 : x.vs = y.vs) : x = y := by
  cases x; cases y; simp_all
set_option maxHeartbeats 2000000
theorem bl_drewW (w : World) : Below w.heap.size w w.drew := below_drew1 w
theorem sameD (w : World) (Z Z2 : Nat → Prop) (cs ds : List Value) (x y : CE) (h1 : EntE w Z cs x) (h2 : EntE w Z2 ds y) : Calls Tryz.prog 59 #[.agg cs.toArray, .agg ds.toArray] w (EqR w (x = y)) := by
  obtain ⟨ka1, kc1, rfl, g1, -⟩ := ent_open h1
  obtain ⟨ka2, kc2, rfl, g2, -⟩ := ent_open h2
  have k1 := by_conv (g1.kept (by exact blBy : Below w.heap.size w ((w.alloc (.cells #[.int .i64 x.num, .int .i64 x.kind, .int .u64 x.n, .slice ka1 x.b.length kc1] 118)).alloc (.cells #[.int .i64 y.num, .int .i64 y.kind, .int .u64 y.n, .slice ka2 y.b.length kc2] 118))))
  have k2 := by_conv (g2.kept (by exact blBy : Below w.heap.size w ((w.alloc (.cells #[.int .i64 x.num, .int .i64 x.kind, .int .u64 x.n, .slice ka1 x.b.length kc1] 118)).alloc (.cells #[.int .i64 y.num, .int .i64 y.kind, .int .u64 y.n, .slice ka2 y.b.length kc2] 118))))
  have HS := str_eq (xs := x.b) (ys := y.b) (fun v hv => g1.2.1 v hv) (fun v hv => g2.2.1 v hv)
  clear g1 g2 h1 h2
  go_enter Tryz.func59, Tryz.ntmps59
  by_cases e1 : x.num = y.num
  case neg =>
    have kq : (x.num == y.num) = false := by simpa using e1
    have HX := hid e1
    clear e1
    go_wp2
    go_ret
    exact EqR.no (fun e => HX.out (by rw [e])) (by exact blBy)
  have kqe1 : (x.num == y.num) = true := by simpa using e1
  have He1 := hid e1
  clear e1
  by_cases e2 : x.kind = y.kind
  case neg =>
    have kq : (x.kind == y.kind) = false := by simpa using e2
    have HX := hid e2
    clear e2
    go_wp2
    go_ret
    exact EqR.no (fun e => HX.out (by rw [e])) (by exact blBy)
  have kqe2 : (x.kind == y.kind) = true := by simpa using e2
  have He2 := hid e2
  clear e2
  by_cases e3 : x.n = y.n
  case neg =>
    have kq : (x.n == y.n) = false := by simpa using e3
    have HX := hid e3
    clear e3
    go_wp2
    go_ret
    exact EqR.no (fun e => HX.out (by rw [e])) (by exact blBy)
  have kqe3 : (x.n == y.n) = true := by simpa using e3
  have He3 := hid e3
  clear e3
  by_cases e4 : x.b = y.b
  · rw [decide_eq_true e4] at HS
    have He4 := hid e4
    clear e4
    go_wp2
    go_ret
    exact EqR.yes (CE.ext4 He1.out He2.out He3.out He4.out) (by exact blBy)
  · rw [decide_eq_false e4] at HS
    have HX := hid e4
    clear e4
    go_wp2
    go_ret
    exact EqR.no (fun e => HX.out (by rw [e])) (by exact blBy)
theorem listD (w : World) (Z Z2 : Nat → Prop) (xs ys : List CE) (a1 a2 : Option Addr) (c1 c2 : Nat) (h1 : EnsR w Z (.slice a1 xs.length c1) xs) (h2 : EnsR w Z2 (.slice a2 ys.length c2) ys) : Calls Tryz.prog 36 #[.slice a1 xs.length c1, .slice a2 ys.length c2] w (EqR w (xs = ys)) := by
  obtain ⟨_, _, e1, l1⟩ := RowM.sl h1
  clear e1
  have m1 : (xs.length : Int) ≤ 9223372036854775807 := by omega
  have H1 := hid h1
  have H2 := hid h2
  clear h1 h2
  by_cases hl : xs.length = ys.length
  · have HL := hid hl
    rw [← hl] at H2
    rw [← hl]
    clear hl
    go_enter Tryz.func36, Tryz.ntmps36
    go_wp2
    go_loopw [5] (fun r wr => ∃ j : Nat, r = .int .i64 j ∧ j ≤ xs.length ∧ Hid (xs.take j = ys.take j) ∧ Hid (Below w.heap.size w wr)) (fun r wr => xs.length - numAt wr r)
    case atStart => exact ⟨0, rfl, by omega, hid rfl, hid (Below.refl _ _)⟩
    case round =>
      obtain ⟨j, rfl, hj, hT, hb⟩ := hrel
      by_cases hlt : j < xs.length
      · have k2 : (j : Int) < (xs.length : Int) := by omega
        have hlt2 : j < ys.length := by have := HL.out; omega
        obtain ⟨b1, o1, ka1, kc1, rfl, -, hb1, c10, c11, c12, c13, he1⟩ := ens_at (H1.out.kept hb.out) hlt
        obtain ⟨b2, o2, ka2, kc2, rfl, -, hb2, c20, c21, c22, c23, he2⟩ := ens_at (H2.out.kept hb.out) hlt2
        have HE1 := hid he1
        have HE2 := hid he2
        have HN := hid (fun h => take_next hlt hlt2 hT.out h)
        have HNO := hid (fun h => ne_at (xs := xs) (ys := ys) hlt hlt2 h)
        clear he1 he2
        generalize xs[j] = x at *
        generalize ys[j] = y at *
        go_wp2_with fail
        go_region_with (go_at_call 59; refine (sameD _ Z Z2 [.int .i64 x.num, .int .i64 x.kind, .int .u64 x.n, .slice ka1 x.b.length kc1] [.int .i64 y.num, .int .i64 y.kind, .int .u64 y.n, .slice ka2 y.b.length kc2] x y (HE1.out.kept (bl_drewW _)) (HE2.out.kept (bl_drewW _))).mono ?_; rintro e w1 ⟨r, rfl, hr, hbx⟩; replace hr := hid hr; replace hbx : Hid (Below w.heap.size w w1) := hid (bl_then (bl_drew hb.out) hbx))
        all_goals
          cases r with
          | true =>
            have HX : Hid (x = y) := hid (hr.out.1 rfl)
            clear hr
            go_wp2
            exact ⟨⟨j + 1, by simp, by omega, hid (HN.out HX.out), hbx⟩, by simp [numAt]; omega⟩
          | false =>
            have HX : Hid (¬ x = y) := hid (fun e => (by have := hr.out.2 e; cases this))
            clear hr
            go_wp2
            go_ret
            exact EqR.no (HNO.out HX.out) hbx.out
      · have k2 : ¬ (j : Int) < (xs.length : Int) := by omega
        go_wp2
        go_ret
        exact EqR.yes (take_all (by omega) (by have := HL.out; omega) hT.out) hb.out
  · have q0 : ((xs.length : Int) == (ys.length : Int)) = false := by simp; omega
    have HL := hid hl
    clear hl
    go_enter Tryz.func36, Tryz.ntmps36
    go_wp2
    go_ret
    exact EqR.no (fun q => HL.out (by rw [q])) (Below.refl _ _)
/-- The document's Equal at a depth. -/
def EqDAt (d : Nat) : Prop := ∀ (w : World) (Z Z2 : Nat → Prop) (cs ds : List Value) (m m' : CM), MsgE w Z d cs m → MsgE w Z2 d ds m' → Calls Tryz.prog 21 #[.agg cs.toArray, .agg ds.toArray] w (EqR w (m = m'))
theorem valsD (d : Nat) (HE : EqDAt d) (w : World) (Z Z2 : Nat → Prop) (xs ys : List (CV CM)) (a1 a2 : Option Addr) (c1 c2 : Nat) (h1 : VlsR w Z d (.slice a1 xs.length c1) xs) (h2 : VlsR w Z2 d (.slice a2 ys.length c2) ys) : Calls Tryz.prog 26 #[.slice a1 xs.length c1, .slice a2 ys.length c2] w (EqR w (xs = ys)) := by
  obtain ⟨_, _, e1, l1⟩ := RowM.sl h1
  clear e1
  have m1 : (xs.length : Int) ≤ 9223372036854775807 := by omega
  have H1 := hid h1
  have H2 := hid h2
  replace HE := hid HE
  clear h1 h2
  by_cases hl : xs.length = ys.length
  · have HL := hid hl
    rw [← hl] at H2
    rw [← hl]
    clear hl
    go_enter Tryz.func26, Tryz.ntmps26
    go_wp2
    go_loopw [5] (fun r wr => ∃ j : Nat, r = .int .i64 j ∧ j ≤ xs.length ∧ Hid (xs.take j = ys.take j) ∧ Hid (Below w.heap.size w wr)) (fun r wr => xs.length - numAt wr r)
    case atStart => exact ⟨0, rfl, by omega, hid rfl, hid (Below.refl _ _)⟩
    case round =>
      obtain ⟨j, rfl, hj, hT, hb⟩ := hrel
      by_cases hlt : j < xs.length
      · have k2 : (j : Int) < (xs.length : Int) := by omega
        have hlt2 : j < ys.length := by have := HL.out; omega
        obtain ⟨b1, o1, ka1, kc1, va1, vc1, rfl, -, hb1, c10, c11, c12, he1⟩ := vls_at (H1.out.kept hb.out) hlt
        obtain ⟨b2, o2, ka2, kc2, va2, vc2, rfl, -, hb2, c20, c21, c22, he2⟩ := vls_at (H2.out.kept hb.out) hlt2
        obtain ⟨_, _, _, _, e1, g1, q1, -, ml1, -⟩ := val_open he1
        simp only [List.cons.injEq, Value.slice.injEq, true_and, and_true] at e1
        obtain ⟨⟨rfl, rfl⟩, rfl, rfl⟩ := e1
        obtain ⟨_, _, _, _, e2, g2, q2, -, ml2, -⟩ := val_open he2
        simp only [List.cons.injEq, Value.slice.injEq, true_and, and_true] at e2
        obtain ⟨⟨rfl, rfl⟩, rfl, rfl⟩ := e2
        have Q1 := hid q1
        have Q2 := hid q2
        have HN := hid (fun h => take_next hlt hlt2 hT.out h)
        have HNO := hid (fun h => ne_at (xs := xs) (ys := ys) hlt hlt2 h)
        have HS := str_eq (xs := xs[j].b) (ys := ys[j].b) (fun v hv => g1.2.1 v hv) (fun v hv => g2.2.1 v hv)
        have k3 : ∀ z, (convert 36 9 (.slice ka1 xs[j].b.length kc1)).run Tryz.prog (wr.drewN z) = .ok (.string (strOfNums xs[j].b)) (wr.drewN z) := fun z => by_conv (g1.kept (below_drewN _ _))
        have k4 : ∀ z, (convert 36 9 (.slice ka2 ys[j].b.length kc2)).run Tryz.prog (wr.drewN z) = .ok (.string (strOfNums ys[j].b)) (wr.drewN z) := fun z => by_conv (g2.kept (below_drewN _ _))
        clear he1 he2 g1 g2 q1 q2
        generalize xs[j] = x at *
        generalize ys[j] = y at *
        have ml3 : (x.ms.length : Int) ≤ 9223372036854775807 := by omega
        by_cases e1 : x.n = y.n
        case neg =>
          have kq : (x.n == y.n) = false := by simpa using e1
          have kn : (x.n != y.n) = true := by simp [bne, kq]
          have HX : Hid (¬ x = y) := hid (fun e => e1 (by rw [e]))
          clear e1
          go_wp2
          go_quiet (fail)
          go_wp2
          go_ret
          exact EqR.no (HNO.out HX.out) (by have := hb.out; exact blBy)
        have kq1 : (x.n == y.n) = true := by simpa using e1
        have kn1 : (x.n != y.n) = false := by simp only [bne, kq1, Bool.not_true]
        have He1 := hid e1
        clear e1
        by_cases e2 : x.b = y.b
        case neg =>
          rw [decide_eq_false e2] at HS
          have ks : ((strOfNums x.b).toList != (strOfNums y.b).toList) = true := by simp only [bne, HS, Bool.not_false]
          have HX : Hid (¬ x = y) := hid (fun e => e2 (by rw [e]))
          clear e2
          go_wp2
          go_quiet (fail)
          go_wp2
          go_ret
          exact EqR.no (HNO.out HX.out) (by have := hb.out; exact blBy)
        rw [decide_eq_true e2] at HS
        have ks : ((strOfNums x.b).toList != (strOfNums y.b).toList) = false := by simp only [bne, HS, Bool.not_true]
        have He2 := hid e2
        clear e2
        by_cases e3 : x.ms.length = y.ms.length
        case neg =>
          have kq3 : ((x.ms.length : Int) == (y.ms.length : Int)) = false := by simp; omega
          have kn3 : ((x.ms.length : Int) != (y.ms.length : Int)) = true := by simp only [bne, kq3, Bool.not_false]
          have kn4 : (x.ms.length != y.ms.length) = true := by simpa using e3
          have HX : Hid (¬ x = y) := hid (fun e => e3 (by rw [e]))
          clear e3
          go_wp2
          go_quiet (fail)
          go_wp2
          go_ret
          exact EqR.no (HNO.out HX.out) (by have := hb.out; exact blBy)
        have He3 := hid e3
        rw [← e3] at c22 Q2
        clear e3 ml2
        go_wp2
        go_quiet (fail)
        replace hb : Hid (Below w.heap.size w (wr.drewN nq)) := hid (by have := hb.out; exact blBy)
        replace c12 := cell_below c12 (below_drewN wr nq)
        replace c22 := cell_below c22 (below_drewN wr nq)
        replace Q1 := hid (Q1.out.kept (below_drewN wr nq))
        replace Q2 := hid (Q2.out.kept (below_drewN wr nq))
        clear c10 c11 c20 c21 k3 k4 HS ks hb1 hb2
        generalize wr.drewN nq = wq at *
        have hb1 : b1 < wq.heap.size := World.block_lt_of_cell? _ _ c12
        have hb2 : b2 < wq.heap.size := World.block_lt_of_cell? _ _ c22
        have C1 := hid c12
        have C2 := hid c22
        clear c12 c22
        go_wp2
        go_loopw [6] (fun r wr => ∃ i : Nat, r = .int .i64 i ∧ i ≤ x.ms.length ∧ Hid (x.ms.take i = y.ms.take i) ∧ Hid (Below wq.heap.size wq wr)) (fun r wr => x.ms.length - numAt wr r)
        case atStart => exact ⟨0, rfl, by omega, hid rfl, hid (Below.refl _ _)⟩
        case round =>
          obtain ⟨i, rfl, hi, hTi, hbi⟩ := hrel
          have c12 := cell_below C1.out hbi.out
          have c22 := cell_below C2.out hbi.out
          by_cases hil : i < x.ms.length
          · have k5 : (i : Int) < (x.ms.length : Int) := by omega
            have hil2 : i < y.ms.length := by have := He3.out; omega
            obtain ⟨p1, r1, fa1, fc1, ua1, uc1, rfl, -, hp1, m10, m11, hm1⟩ := mgs_at' (Q1.out.kept hbi.out) hil
            obtain ⟨p2, r2, fa2, fc2, ua2, uc2, rfl, -, hp2, m20, m21, hm2⟩ := mgs_at' (Q2.out.kept hbi.out) hil2
            have HM1 := hid hm1
            have HM2 := hid hm2
            have HNi := hid (fun h => take_next hil hil2 hTi.out h)
            have HNOi := hid (fun h => ne_at (xs := x.ms) (ys := y.ms) hil hil2 h)
            clear hm1 hm2
            generalize x.ms[i] = mx at *
            generalize y.ms[i] = my at *
            go_wp2_with fail
            go_region_with (go_at_call 21; refine (HE.out _ Z Z2 [.slice fa1 mx.fs.length fc1, .slice ua1 mx.us.length uc1] [.slice fa2 my.fs.length fc2, .slice ua2 my.us.length uc2] mx my (HM1.out.kept (bl_drewW _)) (HM2.out.kept (bl_drewW _))).mono ?_; rintro e w1 ⟨r, rfl, hr, hbx⟩; replace hr := hid hr; replace hbx : Hid (Below wq.heap.size wq w1) := hid (bl_then (bl_drew hbi.out) hbx))
            all_goals
              cases r with
              | true =>
                have HX : Hid (mx = my) := hid (hr.out.1 rfl)
                clear hr
                go_wp2
                exact ⟨⟨i + 1, by simp, by omega, hid (HNi.out HX.out), hbx⟩, by simp [numAt]; omega⟩
              | false =>
                have HX : Hid (¬ mx = my) := hid (fun e => (by have := hr.out.2 e; cases this))
                clear hr
                go_wp2
                go_ret
                exact EqR.no (HNO.out (fun e => HNOi.out HX.out (by rw [e]))) (below_trans hb.out hbx.out)
          · have k5 : ¬ (i : Int) < (x.ms.length : Int) := by omega
            go_wp2
            exact ⟨⟨j + 1, by simp, by omega, hid (HN.out (CV.ext3 He1.out He2.out (take_all (by omega) (by have := He3.out; omega) hTi.out))), hid (below_trans hb.out hbi.out)⟩, by simp [numAt]; omega⟩
      · have k2 : ¬ (j : Int) < (xs.length : Int) := by omega
        go_wp2
        go_ret
        exact EqR.yes (take_all (by omega) (by have := HL.out; omega) hT.out) hb.out
  · have q0 : ((xs.length : Int) == (ys.length : Int)) = false := by simp; omega
    have HL := hid hl
    clear hl
    go_enter Tryz.func26, Tryz.ntmps26
    go_wp2
    go_ret
    exact EqR.no (fun q => HL.out (by rw [q])) (Below.refl _ _)
theorem sameFieldD (d : Nat) (HE : EqDAt d) (w : World) (Z Z2 : Nat → Prop) (cs ds : List Value) (x y : CF CM) (h1 : FldE w Z (MsgE w Z d) cs x) (h2 : FldE w Z2 (MsgE w Z2 d) ds y) : Calls Tryz.prog 14 #[.agg cs.toArray, .agg ds.toArray] w (EqR w (x = y)) := by
  obtain ⟨ka1, kc1, va1, vc1, rfl, g1, m1, -⟩ := fld_open h1
  obtain ⟨ka2, kc2, va2, vc2, rfl, g2, m2, -⟩ := fld_open h2
  have G1 := hid g1
  have G2 := hid g2
  have M1 := hid m1
  have M2 := hid m2
  replace HE := hid HE
  clear g1 g2 h1 h2 m1 m2
  go_enter Tryz.func14, Tryz.ntmps14
  by_cases e1 : x.num = y.num
  case neg =>
    have kq : (x.num == y.num) = false := by simpa using e1
    have HX := hid e1
    clear e1
    go_wp2
    go_ret
    exact EqR.no (fun e => HX.out (by rw [e])) (by exact blBy)
  have kqe1 : (x.num == y.num) = true := by simpa using e1
  have He1 := hid e1
  clear e1
  go_wp2_with fail
  refine (valsD d HE.out _ Z Z2 x.ks y.ks ka1 ka2 kc1 kc2 (G1.out.kept (by exact blBy)) (G2.out.kept (by exact blBy))).mono ?_
  rintro e w1 ⟨r1, rfl, hr, hb⟩
  have HR := hid hr
  clear hr
  have Bx : Blk w1 w.heap.size 33 #[.int .i64 x.num, .slice ka1 x.ks.length kc1, .slice va1 x.vs.length vc1] := ((Blk.new _ _ _).kept (below_alloc _)).kept hb
  have By : Blk w1 (w.heap.size + 1) 33 #[.int .i64 y.num, .slice ka2 y.ks.length kc2, .slice va2 y.vs.length vc2] := (Blk.newAt (by simp)).kept hb
  have hbz : Hid (Below w.heap.size w w1) := hid (bl_then (by exact blBy) hb)
  clear hb
  cases r1 with
  | false =>
    have HX : Hid (¬ x.ks = y.ks) := hid (fun e => (by have := HR.out.2 e; cases this))
    clear HR
    go_wp2
    go_ret
    exact EqR.no (fun e => HX.out (by rw [e])) hbz.out
  | true =>
  have e2 : Hid (x.ks = y.ks) := hid (HR.out.1 rfl)
  clear HR
  have xx := Bx.cellF
  have zx := Bx.lt
  have xy := By.cellF
  have zy := By.lt
  go_wp2_with fail
  refine (valsD d HE.out _ Z Z2 x.vs y.vs va1 va2 vc1 vc2 (M1.out.kept hbz.out) (M2.out.kept hbz.out)).mono ?_
  rintro e w2 ⟨r2, rfl, hr, hb⟩
  have HR := hid hr
  clear hr
  replace Bx := Bx.kept hb
  replace By := By.kept hb
  replace hbz : Hid (Below w.heap.size w w2) := hid (bl_then (by have := hbz.out; exact blBy) hb)
  clear xx zx xy zy
  clear hb
  cases r2 with
  | false =>
    have HX : Hid (¬ x.vs = y.vs) := hid (fun e => (by have := HR.out.2 e; cases this))
    clear HR
    go_wp2
    go_ret
    exact EqR.no (fun e => HX.out (by rw [e])) hbz.out
  | true =>
  have e3 : Hid (x.vs = y.vs) := hid (HR.out.1 rfl)
  clear HR
  go_wp2
  go_ret
  exact EqR.yes (CF.ext3 He1.out e2.out e3.out) hbz.out
theorem equalD : ∀ d, EqDAt d
  | 0 => fun _ _ _ _ _ _ _ h => h.elim
  | d + 1 => fun w Z Z2 cs ds x y h1 h2 => by
    have HE := hid (equalD d)
    obtain ⟨ka1, kc1, va1, vc1, rfl, g1, m1, lf1, -⟩ := msg_open h1
    obtain ⟨ka2, kc2, va2, vc2, rfl, g2, m2, -⟩ := msg_open h2
    have G1 := hid g1
    have G2 := hid g2
    have M1 := hid m1
    have M2 := hid m2
    have ln : (x.fs.length : Int) ≤ 9223372036854775807 := by omega
    clear g1 g2 h1 h2 m1 m2
    by_cases hl : x.fs.length = y.fs.length
    · have HL := hid hl
      rw [← hl] at G2
      rw [← hl]
      clear hl
      go_enter Tryz.func21, Tryz.ntmps21
      go_wp2_with fail
      refine (listD _ Z Z2 x.us y.us va1 va2 vc1 vc2 (M1.out.kept (by exact blBy)) (M2.out.kept (by exact blBy))).mono ?_
      rintro e w1 ⟨r1, rfl, hr, hb⟩
      have HR := hid hr
      have Bx : Blk w1 w.heap.size 29 #[.slice ka1 x.fs.length kc1, .slice va1 x.us.length vc1] := ((Blk.new _ _ _).kept (below_alloc _)).kept hb
      have By : Blk w1 (w.heap.size + 1) 29 #[.slice ka2 x.fs.length kc2, .slice va2 y.us.length vc2] := (Blk.newAt (by simp)).kept hb
      have hbz : Hid (Below w.heap.size w w1) := hid (bl_then (by exact blBy) hb)
      clear hb hr
      cases r1 with
      | false =>
        have HX : Hid (¬ x.us = y.us) := hid (fun e => (by have := HR.out.2 e; cases this))
        clear HR
        go_wp2
        go_ret
        exact EqR.no (fun e => HX.out (by rw [e])) hbz.out
      | true =>
      have HU : Hid (x.us = y.us) := hid (HR.out.1 rfl)
      clear HR
      have HBx := hid Bx
      have HBy := hid By
      clear Bx By
      go_wp2
      go_loopw [5] (fun r wr => ∃ j : Nat, r = .int .i64 j ∧ j ≤ x.fs.length ∧ Hid (x.fs.take j = y.fs.take j) ∧ Hid (Below w1.heap.size w1 wr)) (fun r wr => x.fs.length - numAt wr r)
      case atStart => exact ⟨0, rfl, by omega, hid rfl, hid (Below.refl _ _)⟩
      case round =>
        obtain ⟨j, rfl, hj, hT, hb⟩ := hrel
        have Bx := HBx.out.kept hb.out
        have By := HBy.out.kept hb.out
        have xx := Bx.cellF
        have zx := Bx.lt
        have xy := By.cellF
        have zy := By.lt
        clear Bx By
        by_cases hlt : j < x.fs.length
        · have k2 : (j : Int) < (x.fs.length : Int) := by omega
          have hlt2 : j < y.fs.length := by have := HL.out; omega
          obtain ⟨p1, o1, pa1, pc1, qa1, qc1, rfl, -, hp1, c10, c11, c12, he1⟩ := fls_at (G1.out.kept (below_trans hbz.out hb.out)) hlt
          obtain ⟨p2, o2, pa2, pc2, qa2, qc2, rfl, -, hp2, c20, c21, c22, he2⟩ := fls_at (G2.out.kept (below_trans hbz.out hb.out)) hlt2
          have HE1 := hid he1
          have HE2 := hid he2
          have HN := hid (fun h => take_next hlt hlt2 hT.out h)
          have HNO := hid (fun h => ne_at (xs := x.fs) (ys := y.fs) hlt hlt2 h)
          clear he1 he2
          generalize x.fs[j] = f at *
          generalize y.fs[j] = g at *
          go_wp2_with fail
          go_region_with (go_at_call 14; refine (sameFieldD d HE.out _ Z Z2 [.int .i64 f.num, .slice pa1 f.ks.length pc1, .slice qa1 f.vs.length qc1] [.int .i64 g.num, .slice pa2 g.ks.length pc2, .slice qa2 g.vs.length qc2] f g (HE1.out.kept (bl_drewW _)) (HE2.out.kept (bl_drewW _))).mono ?_; rintro e w2 ⟨r, rfl, hr, hbx⟩; replace hr := hid hr; replace hbx : Hid (Below w1.heap.size w1 w2) := hid (bl_then (bl_drew hb.out) hbx))
          all_goals
            cases r with
            | true =>
              have HX : Hid (f = g) := hid (hr.out.1 rfl)
              clear hr
              go_wp2
              exact ⟨⟨j + 1, by simp, by omega, hid (HN.out HX.out), hbx⟩, by simp [numAt]; omega⟩
            | false =>
              have HX : Hid (¬ f = g) := hid (fun e => (by have := hr.out.2 e; cases this))
              clear hr
              go_wp2
              go_ret
              exact EqR.no (fun e => HNO.out HX.out (by rw [e])) (below_trans hbz.out hbx.out)
        · have k2 : ¬ (j : Int) < (x.fs.length : Int) := by omega
          go_wp2
          go_ret
          exact EqR.yes (CM.ext (take_all (by omega) (by have := HL.out; omega) hT.out) HU.out) (below_trans hbz.out hb.out)
    · have q0 : ((x.fs.length : Int) == (y.fs.length : Int)) = false := by simp; omega
      have HL := hid hl
      clear hl
      go_enter Tryz.func21, Tryz.ntmps21
      go_wp2
      go_ret
      exact EqR.no (fun q => HL.out (by rw [q])) (by exact blBy)
end Go.Proofs.YtmiemocdjkeefaaGreatDoor
