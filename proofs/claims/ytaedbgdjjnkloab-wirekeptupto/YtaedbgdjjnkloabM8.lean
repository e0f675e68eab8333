/-
  Plain mathematics: entries are read where they stand, whatever lies around; nothing of the program.
-/
import Derived.Test.YtaedbgdjjnkloabM7
import Derived.Test.YtaedbgdjjnkloabWV
namespace Go.Proofs.Ytaedbgdjjnkloab
open Go.RowKit

theorem gvF_in : ∀ (l r : List Int) (k : Nat) (X P d : Int), (gvF l k X P).2.2 = 0 → gvF (l ++ r) k X (P + d) = ((gvF l k X P).1, (gvF l k X P).2.1 + d, 0)
  | [], _, _, _, _, _, h => by simp [gvF] at h
  | c :: l, r, k, X, P, d, h => by
    rw [List.cons_append]
    unfold gvF at h ⊢
    by_cases h9 : k = 9 ∧ 1 < c
    · rw [if_pos h9] at h; simp at h
    · rw [if_neg h9] at h
      rw [if_neg h9, if_neg h9]
      by_cases hc : c < 128
      · rw [if_pos hc, if_pos hc]
        simp only [Prod.mk.injEq, true_and, and_true]
        omega
      · rw [if_neg hc] at h
        rw [if_neg hc, if_neg hc]
        exact gvF_in l r (k + 1) _ P d h
theorem drop_in (c a b : List Int) (p : Nat) (hp : p ≤ a.length) : (c ++ (a ++ b)).drop (c.length + p) = a.drop p ++ b := by
  rw [← List.drop_drop, List.drop_left, List.drop_append_of_le_length hp]
theorem gv_in (c a b : List Int) (p : Nat) (hp : p ≤ a.length) (h : (gv a p).2.2 = 0) : gv (c ++ (a ++ b)) (c.length + p) = ((gv a p).1, (gv a p).2.1 + c.length, 0) := by
  unfold gv at h ⊢
  rw [drop_in c a b p hp]
  have := gvF_in (a.drop p) b 0 0 p c.length h
  rw [← this]
  congr 1
  omega
theorem gw_in (c a b : List Int) (p s : Nat) (h : (gw a p s).2.2 = 0) : gw (c ++ (a ++ b)) (c.length + p) s = ((gw a p s).1, (gw a p s).2.1 + c.length, 0) := by
  obtain ⟨_, hs⟩ := gw_next h
  unfold gw
  rw [if_neg (by simp; omega), if_neg (by omega), drop_in c a b p (by omega), List.take_append_of_le_length (by simp; omega)]
  simp only [Prod.mk.injEq, true_and, and_true]
  omega
theorem gc_in (c a b : List Int) (p : Nat) (hb : ∀ x ∈ a, 0 ≤ x ∧ x ≤ 255) (hp : p ≤ a.length) (h : (gc a p).2.2 = 0) : gc (c ++ (a ++ b)) (c.length + p) = ((gc a p).1, (gc a p).2.1 + c.length, 0) := by
  have hv := gv_bd hb p
  have hn := gv_next hp
  have hin := gv_in c a b p hp
  unfold gc at h ⊢
  cases he : ((gv a p).2.2 != 0) with
  | true =>
    rw [gcF_err he] at h
    have : (gv a p).2.2 = 0 := h
    rw [this] at he; cases he
  | false =>
    have he0 : (gv a p).2.2 = 0 := by simpa using he
    have hn := hn he0
    rw [hin he0]
    by_cases hf : (a.length : Int) - (gv a p).2.1 < (gv a p).1
    · rw [gcF_far he hf] at h; cases h
    · rw [gcF_ok he hf, gcF_ok (by rfl) (by simp only [List.length_append]; omega)]
      obtain ⟨f, hfe⟩ := Int.eq_ofNat_of_zero_le (show 0 ≤ (gv a p).2.1 by omega)
      obtain ⟨n, hne⟩ := Int.eq_ofNat_of_zero_le hv.1
      have e1 : ((gv a p).2.1 + (c.length : Int)).toNat = c.length + f := by omega
      simp only []
      rw [e1, drop_in c a b f (by omega), List.take_append_of_le_length (by simp; omega), hfe, Int.toNat_natCast]
      simp only [Prod.mk.injEq, true_and, and_true]
      omega
theorem gt_in (c a b : List Int) (p : Nat) (hp : p ≤ a.length) (h : (gt a p).2.2.2 = 0) : gt (c ++ (a ++ b)) (c.length + p) = ((gt a p).1, (gt a p).2.1, (gt a p).2.2.1 + c.length, 0) := by
  have hin := gv_in c a b p hp
  unfold gt at h ⊢
  cases he : ((gv a p).2.2 != 0) with
  | true =>
    rw [gtF_err he] at h
    have : (gv a p).2.2 = 0 := h
    rw [this] at he; cases he
  | false =>
    have he0 : (gv a p).2.2 = 0 := by simpa using he
    rw [hin he0]
    by_cases ht : tf ((gv a p).1 / 8) ((gv a p).1 % 8) = 0
    · rw [gtF_ok he ht, gtF_ok (g := ((gv a p).1, (gv a p).2.1 + (c.length : Int), 0)) (by rfl) ht]
    · rw [gtF_tf he ht] at h
      exact absurd h ht
theorem ge_in (c a b : List Int) (p : Nat) (hb : ∀ x ∈ a, 0 ≤ x ∧ x ≤ 255) (hp : p ≤ a.length) (h : (ge a p).err = 0) : ge (c ++ (a ++ b)) (c.length + p) = ⟨(ge a p).num, (ge a p).kind, (ge a p).n, (ge a p).b, (ge a p).next + c.length, 0⟩ := by
  have hin := gt_in c a b p hp
  have hfa := gt_facts hp
  unfold ge at h ⊢
  cases he : ((gt a p).2.2.2 != 0) with
  | true =>
    rw [geF_err he] at h
    have : (gt a p).2.2.2 = 0 := h
    rw [this] at he; cases he
  | false =>
    have he0 : (gt a p).2.2.2 = 0 := by simpa using he
    obtain ⟨ht, h1, h2⟩ := hfa he0
    rw [hin he0, geF_ok (t := ((gt a p).1, (gt a p).2.1, (gt a p).2.2.1 + (c.length : Int), 0)) (by rfl)]
    rw [geF_ok he] at h ⊢
    obtain ⟨q, hq⟩ := Int.eq_ofNat_of_zero_le (show 0 ≤ (gt a p).2.2.1 by omega)
    have e1 : ((gt a p).2.2.1 + (c.length : Int)).toNat = c.length + q := by omega
    have e2 : (gt a p).2.2.1.toNat = q := by omega
    simp only [] at h ⊢
    rw [e1]
    rw [e2] at h ⊢
    have hql : q ≤ a.length := by omega
    generalize (gt a p).1 = num at h ⊢
    generalize (gt a p).2.1 = kind at h ⊢
    unfold restF at h ⊢
    by_cases hk : kind = 2
    · rw [if_pos hk] at h ⊢
      rw [if_pos hk]
      cases hc : ((gc a q).2.2 != 0) with
      | true =>
        rw [ofChunk_err hc] at h
        have : (gc a q).2.2 = 0 := h
        rw [this] at hc; cases hc
      | false =>
        rw [gc_in c a b q hb hql (by simpa using hc), ofChunk_ok hc, ofChunk_ok (c := ((gc a q).1, (gc a q).2.1 + (c.length : Int), 0)) (by rfl)]
    · rw [if_neg hk] at h ⊢
      rw [if_neg hk]
      cases hc : ((numF a kind q).2.2 != 0) with
      | true =>
        rw [ofNum_err hc] at h
        have : (numF a kind q).2.2 = 0 := h
        rw [this] at hc; cases hc
      | false =>
        have hc0 : (numF a kind q).2.2 = 0 := by simpa using hc
        have hN : numF (c ++ (a ++ b)) kind (c.length + q) = ((numF a kind q).1, (numF a kind q).2.1 + c.length, 0) := by
          unfold numF at hc0 ⊢
          by_cases k0 : kind = 0
          · rw [if_pos k0] at hc0 ⊢; rw [if_pos k0]; exact gv_in c a b q hql hc0
          · rw [if_neg k0] at hc0 ⊢
            rw [if_neg k0]
            by_cases k1 : kind = 1
            · rw [if_pos k1] at hc0 ⊢; rw [if_pos k1]; exact gw_in c a b q 8 hc0
            · rw [if_neg k1] at hc0 ⊢; rw [if_neg k1]; exact gw_in c a b q 4 hc0
        rw [hN, ofNum_ok hc, ofNum_ok (g := ((numF a kind q).1, (numF a kind q).2.1 + (c.length : Int), 0)) (by rfl)]

/-- From a place on these entries are read, up to the end. -/
def Run (xs : List Int) : Nat → List Ent → Prop
  | p, [] => p = xs.length
  | p, x :: l => p < xs.length ∧ (ge xs p).err = 0 ∧ (ge xs p).ent = x ∧ Run xs (ge xs p).next.toNat l

theorem run_of : ∀ (f p : Nat) (xs : List Int) (acc r : List Ent), (∀ x ∈ xs, 0 ≤ x ∧ x ≤ 255) → p ≤ xs.length → xs.length < p + f → spF f xs p acc = (r, 0) → ∃ l, r = acc ++ l ∧ Run xs p l
  | 0, p, xs, acc, r, _, hp, hf, _ => by omega
  | f + 1, p, xs, acc, r, hb, hp, hf, h => by
    by_cases he : xs.length ≤ p
    · rw [spF_end he] at h
      simp at h
      exact ⟨[], by simp [h], by show p = _; omega⟩
    · cases hc : ((ge xs p).err != 0) with
      | true =>
        rw [spF_err (by omega) hf hc] at h
        simp at h
        rw [h.2] at hc; cases hc
      | false =>
        rw [spF_more (by omega) hf hc] at h
        have hc0 : (ge xs p).err = 0 := by simpa using hc
        have hn := ge_next hb hp hc0
        obtain ⟨l, hl, hr⟩ := run_of f (ge xs p).next.toNat xs (acc ++ [(ge xs p).ent]) r hb (by omega) (by omega) (by simpa using h)
        exact ⟨(ge xs p).ent :: l, by rw [hl]; simp, by omega, hc0, rfl, hr⟩
theorem of_run : ∀ (l : List Ent) (f p : Nat) (xs : List Int) (acc : List Ent), (∀ x ∈ xs, 0 ≤ x ∧ x ≤ 255) → p ≤ xs.length → xs.length < p + f → Run xs p l → spF f xs p acc = (acc ++ l, 0)
  | [], f, p, xs, acc, _, hp, hf, h => by
    have : p = xs.length := h
    rw [spF_end (by omega)]; simp
  | x :: l, f, p, xs, acc, hb, hp, hf, ⟨h1, h2, h3, h4⟩ => by
    have hn := ge_next hb hp h2
    rw [spF_more h1 hf (by simp [h2]), of_run l (f - 1) _ xs _ hb (by omega) (by omega) h4, h3]
    simp
theorem sp_run {xs : List Int} {l : List Ent} (hb : ∀ x ∈ xs, 0 ≤ x ∧ x ≤ 255) (h : Run xs 0 l) : sp xs = (l, 0) := by
  have := of_run l (xs.length + 1) 0 xs [] hb (by omega) (by omega) h
  simpa [sp] using this
theorem run_sp {xs : List Int} (hb : ∀ x ∈ xs, 0 ≤ x ∧ x ≤ 255) (h : (sp xs).2 = 0) : Run xs 0 (sp xs).1 := by
  obtain ⟨l, hl, hr⟩ := run_of (xs.length + 1) 0 xs [] (sp xs).1 hb (by omega) (by omega) (by show sp xs = _; rw [← h])
  rw [hl]
  exact hr
theorem run_in (c a b : List Int) (hb : ∀ x ∈ a, 0 ≤ x ∧ x ≤ 255) (m : List Ent) (hm : Run (c ++ (a ++ b)) (c.length + a.length) m) : ∀ (l : List Ent) (p : Nat), p ≤ a.length → Run a p l → Run (c ++ (a ++ b)) (c.length + p) (l ++ m)
  | [], p, hp, h => by
    have : p = a.length := h
    subst this
    exact hm
  | x :: l, p, hp, ⟨h1, h2, h3, h4⟩ => by
    have hn := ge_next hb hp h2
    have hg := ge_in c a b p hb hp h2
    refine ⟨by simp; omega, by rw [hg], by rw [hg, ← h3]; rfl, ?_⟩
    have e1 : (ge (c ++ (a ++ b)) (c.length + p)).next.toNat = c.length + (ge a p).next.toNat := by rw [hg]; simp only []; omega
    rw [e1]
    exact run_in c a b hb m hm l _ (by omega) h4
theorem run_both {a b : List Int} {x y : List Ent} (ha : ∀ x ∈ a, 0 ≤ x ∧ x ≤ 255) (hb : ∀ x ∈ b, 0 ≤ x ∧ x ≤ 255) (h1 : Run a 0 x) (h2 : Run b 0 y) : Run (a ++ b) 0 (x ++ y) := by
  have e0 : Run (a ++ (b ++ [])) (a.length + b.length) [] := by show _ = _; simp
  have e1 := run_in a b [] hb [] e0 y 0 (by omega) h2
  simp only [List.append_nil, Nat.add_zero] at e1
  have e2 := run_in [] a b ha y (by simpa using e1) x 0 (by omega) h1
  simpa using e2

/-- The bytes of a list. -/
def catE : List Ent → List Int
  | [] => []
  | x :: l => pe x.num x.kind x.n x.b ++ catE l
/-- An entry that is written. -/
def Fit (x : Ent) : Prop := Good x ∧ x.b.length < 18446744073709551616 ∧ ef x.num x.kind x.n x.b.length = 0
theorem run_cat : ∀ (l : List Ent) (A : List Int), (∀ x ∈ l, Fit x) → Run (A ++ catE l) A.length l
  | [], A, _ => by show _ = _; simp [catE]
  | x :: l, A, h => by
    obtain ⟨hg, hl, he⟩ := h x (by simp)
    have hput := ge_put A (catE l) x.num x.kind x.n x.b he hg.1.1 hg.1.2 hl
    have h1 := (pv_len (x.num * 8 + x.kind)).1
    refine ⟨by simp [catE, pe]; omega, by rw [catE, hput], by rw [catE, hput]; rfl, ?_⟩
    have e1 : (ge (A ++ catE (x :: l)) A.length).next.toNat = (A ++ pe x.num x.kind x.n x.b).length := by rw [catE, hput]; simp only [List.length_append]; omega
    rw [e1, show A ++ catE (x :: l) = (A ++ pe x.num x.kind x.n x.b) ++ catE l by simp [catE]]
    exact run_cat l _ (fun y hy => h y (by simp [hy]))
theorem jnF_cat : ∀ (l : List Ent) (acc : List Int), (∀ x ∈ l, ef x.num x.kind x.n x.b.length = 0) → jnF l acc = (acc ++ catE l, 0)
  | [], acc, _ => by simp [jnF, catE]
  | x :: l, acc, h => by
    rw [jnF_more (by simp [h x (by simp)]), jnF_cat l _ (fun y hy => h y (by simp [hy])), catE]
    simp
theorem jnF_zero : ∀ (l : List Ent) (acc : List Int), (jnF l acc).2 = 0 → ∀ x ∈ l, ef x.num x.kind x.n x.b.length = 0
  | [], _, _, x, hx => by cases hx
  | y :: l, acc, h, x, hx => by
    cases hc : (ef y.num y.kind y.n y.b.length != 0) with
    | true =>
      rw [jnF_err hc] at h
      have : ef y.num y.kind y.n y.b.length = 0 := h
      rw [this] at hc; cases hc
    | false =>
      rw [jnF_more hc] at h
      rcases List.mem_cons.1 hx with rfl | h1
      · simpa using hc
      · exact jnF_zero l _ h x h1
theorem catE_bd : ∀ (l : List Ent), (∀ x ∈ l, Fit x) → ∀ y ∈ catE l, 0 ≤ y ∧ y ≤ 255
  | [], _, y, hy => by cases hy
  | x :: l, h, y, hy => by
    obtain ⟨hg, hl, he⟩ := h x (by simp)
    rcases List.mem_append.1 hy with h1 | h1
    · exact pe_bd (ef_ok he).1 hg.1.1 hg.1.2 hg.2 hl y h1
    · exact catE_bd l (fun z hz => h z (by simp [hz])) y h1

/-- What was read is such as is written, and not more than the bytes. -/
theorem ge_fit {xs : List Int} (hb : ∀ x ∈ xs, 0 ≤ x ∧ x ≤ 255) {p : Nat} (hp : p ≤ xs.length) (h : (ge xs p).err = 0) : ef (ge xs p).num (ge xs p).kind (ge xs p).n (ge xs p).b.length = 0 ∧ ((ge xs p).b.length : Int) + p + 2 ≤ (ge xs p).next := by
  have hfa := gt_facts hp
  unfold ge at h ⊢
  cases he : ((gt xs p).2.2.2 != 0) with
  | true =>
    rw [geF_err he] at h
    have : (gt xs p).2.2.2 = 0 := h
    rw [this] at he; cases he
  | false =>
    obtain ⟨ht, h1, h2⟩ := hfa (by simpa using he)
    rw [geF_ok he] at h ⊢
    obtain ⟨q, hq⟩ := Int.eq_ofNat_of_zero_le (show 0 ≤ (gt xs p).2.2.1 by omega)
    have e2 : (gt xs p).2.2.1.toNat = q := by omega
    rw [e2] at h ⊢
    have hql : q ≤ xs.length := by omega
    generalize (gt xs p).1 = num at h ht ⊢
    generalize (gt xs p).2.1 = kind at h ht ⊢
    unfold restF at h ⊢
    rcases okK_cases (tf_ok ht).2.2 with rfl | rfl | rfl | rfl
    · rw [if_neg (by decide), numF, if_pos rfl] at h ⊢
      cases hc : ((gv xs q).2.2 != 0) with
      | true =>
        rw [ofNum_err hc] at h
        have : (gv xs q).2.2 = 0 := h
        rw [this] at hc; cases hc
      | false =>
        have hn := gv_next hql (by simpa using hc)
        rw [ofNum_ok hc]
        exact ⟨by rw [ef_fit ht]; simp [fit], by simp; omega⟩
    · rw [if_neg (by decide), numF, if_neg (by decide), if_pos rfl] at h ⊢
      cases hc : ((gw xs q 8).2.2 != 0) with
      | true =>
        rw [ofNum_err hc] at h
        have : (gw xs q 8).2.2 = 0 := h
        rw [this] at hc; cases hc
      | false =>
        have hn := gw_next (show (gw xs q 8).2.2 = 0 by simpa using hc)
        rw [ofNum_ok hc]
        exact ⟨by rw [ef_fit ht]; simp [fit], by simp; omega⟩
    · rw [if_pos rfl] at h ⊢
      cases hc : ((gc xs q).2.2 != 0) with
      | true =>
        rw [ofChunk_err hc] at h
        have : (gc xs q).2.2 = 0 := h
        rw [this] at hc; cases hc
      | false =>
        rw [ofChunk_ok hc]
        refine ⟨by rw [ef_fit ht]; simp [fit], ?_⟩
        have hc0 : (gc xs q).2.2 = 0 := by simpa using hc
        have hv := gv_bd hb q
        unfold gc at hc0 ⊢
        cases hd : ((gv xs q).2.2 != 0) with
        | true =>
          rw [gcF_err hd] at hc0
          have : (gv xs q).2.2 = 0 := hc0
          rw [this] at hd; cases hd
        | false =>
          have hn := gv_next hql (by simpa using hd)
          by_cases hf : (xs.length : Int) - (gv xs q).2.1 < (gv xs q).1
          · rw [gcF_far hd hf] at hc0; cases hc0
          · rw [gcF_ok hd hf]
            simp only [List.length_take, List.length_drop]
            omega
    · rw [if_neg (by decide), numF, if_neg (by decide), if_neg (by decide)] at h ⊢
      cases hc : ((gw xs q 4).2.2 != 0) with
      | true =>
        rw [ofNum_err hc] at h
        have : (gw xs q 4).2.2 = 0 := h
        rw [this] at hc; cases hc
      | false =>
        have hn := gw_next (show (gw xs q 4).2.2 = 0 by simpa using hc)
        have hb4 : (gw xs q 4).1 ≤ 4294967295 := by
          have := word_bd ((xs.drop q).take 4) (fun x hx => hb x (List.mem_of_mem_drop (List.mem_of_mem_take hx)))
          unfold gw at hn ⊢
          by_cases hs : xs.length < q + 4
          · rw [if_pos hs]; decide
          · rw [if_neg hs]
            rw [show ((xs.drop q).take 4).length = 4 by simp; omega] at this
            simp only []
            omega
        rw [ofNum_ok hc]
        exact ⟨by rw [ef_fit ht]; simp [fit, hb4], by simp; omega⟩
theorem run_fit {xs : List Int} (hb : ∀ x ∈ xs, 0 ≤ x ∧ x ≤ 255) (hl : xs.length < 18446744073709551616) : ∀ (l : List Ent) (p : Nat), p ≤ xs.length → Run xs p l → (∀ x ∈ l, Fit x) ∧ bulk l + 20 * p ≤ 20 * xs.length
  | [], p, hp, h => ⟨by simp, by simp [bulk]; omega⟩
  | x :: l, p, hp, ⟨h1, h2, h3, h4⟩ => by
    have hn := ge_next hb hp h2
    obtain ⟨f1, f2⟩ := ge_fit hb hp h2
    obtain ⟨i1, i2⟩ := run_fit hb hl l _ (by omega) h4
    subst h3
    refine ⟨fun y hy => ?_, ?_⟩
    · rcases List.mem_cons.1 hy with rfl | hy
      · exact ⟨ge_good hb p, by show (ge xs p).b.length < _; omega, f1⟩
      · exact i1 y hy
    · simp only [bulk]
      have : ((ge xs p).ent).b.length = (ge xs p).b.length := rfl
      omega
end Go.Proofs.Ytaedbgdjjnkloab
