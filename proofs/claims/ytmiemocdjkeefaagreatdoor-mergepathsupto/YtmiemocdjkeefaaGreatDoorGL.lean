/-
  A region whose loads are of cells that its own last stores write: what is asked of the world hangs on what has come up.
-/
import Derived.Test.YtmiemocdjkeefaaGreatDoorCTA
import Derived.Deep.RegionHeld3
namespace Go.Proofs.YtmiemocdjkeefaaGreatDoor
open Go.RowKit
set_option maxRecDepth 1000000
set_option linter.unusedVariables false
section
variable {P : Program} {ops : Array Oper} {Q : Exit → Act → World → Prop} {md : Region.Mode} {S : Array Bool → World → Prop}
/-- Whatever order is picked from here on; S holds behind each operation, of what has come up by then. -/
def wpAnyL (P : Program) (md : Region.Mode) (ops : Array Oper) (Q : Exit → Act → World → Prop) (S : Array Bool → World → Prop) : Nat → Array Bool → Act → World → Prop
  | 0, l, a, w => Region.ready md ops l = [] ∧ Q .normal a w
  | n + 1, l, a, w => (Region.ready md ops l = [] → Q .normal a w) ∧ ∀ i ∈ Region.ready md ops l, wpOp P ops Q i (fun a' w' => S (l.setIfInBounds i true) w' ∧ wpAnyL P md ops Q S n (l.setIfInBounds i true) a' w') a w
theorem wpAny_of_L : ∀ (n : Nat) (l : Array Bool) (a : Act) (w : World), wpAnyL P md ops Q S n l a w → wpAny P md ops Q n l a w
  | 0, _, _, _, h => h
  | n + 1, _, _, _, h => ⟨h.1, fun i hi => wpOp_mono (fun a' w' g => wpAny_of_L n _ a' w' g.2) (h.2 i hi)⟩
theorem wpAnyL_first {T : World → Prop} {R : Array Bool → Prop} {i : Nat} {oi : Oper} {v : Value} (hi : ops[i]? = some oi) (hsel : ∀ (j : Nat) (o : Oper) cs b, ops[j]? = some o → o.op ≠ .select cs b)
    (hQ : ∀ c a w, Q (.panic c) (a.put oi.dst v) w → Q (.panic c) a w) (hSi : ∀ l w, S (l.setIfInBounds i true) w → S l w) (hST : ∀ l w, R l → S l w → T w)
    (hR : ∀ j l, j ≠ i → i ∈ Region.ready md ops l → j ∈ Region.ready md ops l → R l → R (l.setIfInBounds j true)) :
    ∀ (n : Nat) (l : Array Bool) (a : Act) (w : World),
      (∀ j oj, ops[j]? = some oj → j ≠ i → l.getD j true = false → (∀ e ∈ oj.after, Region.binds md e = true → e.on ≠ i) → oi.apart ops oj = true) →
      i ∈ Region.ready md ops l → R l → YieldsIf P ops T oi v a → S l w → S (l.setIfInBounds i true) w →
      wpAnyL P md ops Q S n (l.setIfInBounds i true) (a.put oi.dst v) w → wpAnyL P md ops Q S (n + 1) l a w := by
  intro n
  induction n with
  | zero =>
    intro l a w _ hr hRl hy hS hS2 H
    refine ⟨fun h => (by rw [h] at hr; cases hr), fun j hj => ?_⟩
    by_cases hji : j = i
    · subst hji
      exact hy.wpOp hi (hST l w hRl hS) ⟨hS2, H⟩
    · have := ready_mono hj hji
      rw [H.1] at this
      cases this
  | succ n ih =>
    intro l a w hfree hr hRl hy hS hS2 H
    refine ⟨fun h => (by rw [h] at hr; cases hr), fun j hj => ?_⟩
    by_cases hji : j = i
    · subst hji
      exact hy.wpOp hi (hST l w hRl hS) ⟨hS2, H⟩
    · have h1 := H.2 j (ready_mono hj hji)
      obtain ⟨hjun, oj, hoj, hall⟩ := mem_ready.1 hj
      have hnot : ∀ e ∈ oj.after, Region.binds md e = true → e.on ≠ i := fun e he hb heq => by
        have g1 := hall e he hb
        have g0 := (mem_ready.1 hr).1
        rw [heq] at g1
        rcases Nat.lt_or_ge i l.size with h' | h'
        · simp [h'] at g0 g1
          rw [g0] at g1
          cases g1
        · simp [Array.getElem?_eq_none h'] at g1
      have h2 := wpOp_putIf hoj (hfree j oj hoj hji hjun hnot) (fun cs b => hsel i oi cs b hi) (fun cs b => hsel j oj cs b hoj) hQ hy h1
      have hfree' : ∀ k ok, ops[k]? = some ok → k ≠ i → (l.setIfInBounds j true).getD k true = false → (∀ e ∈ ok.after, Region.binds md e = true → e.on ≠ i) → oi.apart ops ok = true := fun k ok hk hki hun hno => by
        refine hfree k ok hk hki ?_ hno
        by_cases hjk : j = k
        · subst hjk
          exact hjun
        · rw [getD_set_ne true hjk] at hun
          exact hun
      refine wpOp_mono (fun a' w' h3 => ?_) h2
      have e : (l.setIfInBounds i true).setIfInBounds j true = (l.setIfInBounds j true).setIfInBounds i true := by rw [Array.setIfInBounds_comm _ _ (Ne.symm hji)]
      rw [e] at h3
      have s2 := hSi _ _ h3.2.1
      exact ⟨s2, ih (l.setIfInBounds j true) a' w' hfree' (ready_mono hr (Ne.symm hji)) (hR j l hji hr hj hRl) h3.1 s2 h3.2.1 h3.2.2⟩
/-- S1 is asked until the operation k has come up. -/
def SL (S0 S1 : World → Prop) (k : Nat) (l : Array Bool) (w : World) : Prop := S0 w ∧ (l.getD k true = false → S1 w)
variable {S0 S1 : World → Prop} {k : Nat}
theorem SL.of {l : Array Bool} {w : World} (h0 : S0 w) (h1 : S1 w) : SL S0 S1 k l w := ⟨h0, fun _ => h1⟩
theorem SL.late {l : Array Bool} {w : World} (h0 : S0 w) (h1 : l.getD k true = true) : SL S0 S1 k l w := ⟨h0, fun h => by rw [h1] at h; cases h⟩
theorem SL.back {i : Nat} (h : i ≠ k) (l : Array Bool) (w : World) : SL S0 S1 k (l.setIfInBounds i true) w ↔ SL S0 S1 k l w := by
  unfold SL
  rw [getD_set_ne true h]
/-- Taken first: it yields wherever S0 holds. -/
theorem takeL0 (i : Nat) {oi : Oper} {v : Value} {n : Nat} {l : Array Bool} {a : Act} {w : World} (hi : ops[i]? = some oi) (hs : Region.noSelect ops = true) (hf : Region.free md ops l i = true) (hr : (Region.ready md ops l).contains i = true)
    (hQ : ∀ c a w, Q (.panic c) (a.put oi.dst v) w → Q (.panic c) a w) (hik : (i != k) = true) (hy : YieldsIf P ops S0 oi v a) (hS : SL S0 S1 k l w)
    (h : SL S0 S1 k (l.setIfInBounds i true) w → wpAnyL P md ops Q (SL S0 S1 k) n (l.setIfInBounds i true) (a.put oi.dst v) w) : wpAnyL P md ops Q (SL S0 S1 k) (n + 1) l a w := by
  have hk : i ≠ k := by simpa using hik
  have s2 := (SL.back (S0 := S0) (S1 := S1) hk l w).2 hS
  exact wpAnyL_first (T := S0) (R := fun _ => True) hi (Region.noSelect_spec hs) hQ (fun l w => (SL.back hk l w).1) (fun _ _ _ h => h.1) (fun _ _ _ _ _ _ => trivial) n l a w (Region.free_spec hi hf) (by simpa using hr) trivial hy hS s2 (h s2)
/-- Taken first: it yields wherever S0 and S1 hold; the operation k waits for it. -/
theorem takeL1 (i : Nat) {oi ok : Oper} {v : Value} {n : Nat} {l : Array Bool} {a : Act} {w : World} (hi : ops[i]? = some oi) (hk : ops[k]? = some ok) (hke : ok.after.any (fun e => Region.binds md e && e.on == i) = true) (hl : l.getD k true = false) (hs : Region.noSelect ops = true) (hf : Region.free md ops l i = true) (hr : (Region.ready md ops l).contains i = true)
    (hQ : ∀ c a w, Q (.panic c) (a.put oi.dst v) w → Q (.panic c) a w) (hik : (i != k) = true) (hy : YieldsIf P ops (fun w => S0 w ∧ S1 w) oi v a) (hS : SL S0 S1 k l w)
    (h : SL S0 S1 k (l.setIfInBounds i true) w → wpAnyL P md ops Q (SL S0 S1 k) n (l.setIfInBounds i true) (a.put oi.dst v) w) : wpAnyL P md ops Q (SL S0 S1 k) (n + 1) l a w := by
  have hk' : i ≠ k := by simpa using hik
  have s2 := (SL.back (S0 := S0) (S1 := S1) hk' l w).2 hS
  refine wpAnyL_first (T := fun w => S0 w ∧ S1 w) (R := fun l => l.getD k true = false) hi (Region.noSelect_spec hs) hQ (fun l w => (SL.back hk' l w).1) (fun _ _ g h => ⟨h.1, h.2 g⟩) ?_ n l a w (Region.free_spec hi hf) (by simpa using hr) hl hy hS s2 (h s2)
  intro j l hji hri hrj hRl
  by_cases hjk : j = k
  · subst hjk
    obtain ⟨e, he, hb⟩ := Array.any_eq_true'.1 hke
    simp only [Bool.and_eq_true, beq_iff_eq] at hb
    obtain ⟨-, o, ho, hall⟩ := mem_ready.1 hrj
    rw [hk] at ho
    cases ho
    have g1 := hall e he hb.1
    rw [hb.2] at g1
    have g0 := (mem_ready.1 hri).1
    rcases Nat.lt_or_ge i l.size with h' | h'
    · simp [h'] at g0 g1
      rw [g0] at g1
      cases g1
    · simp [Array.getElem?_eq_none h'] at g1
  · rw [getD_set_ne true hjk]
    exact hRl
def AllReadyL (P : Program) (md : Region.Mode) (ops : Array Oper) (Q : Exit → Act → World → Prop) (S : Array Bool → World → Prop) (n : Nat) (l : Array Bool) (a : Act) (w : World) (rs : List Nat) : Prop :=
  ∀ i ∈ rs, wpOp P ops Q i (fun a' w' => S (l.setIfInBounds i true) w' ∧ wpAnyL P md ops Q S n (l.setIfInBounds i true) a' w') a w
theorem AllReadyL.nil {n : Nat} {l : Array Bool} {a : Act} {w : World} : AllReadyL P md ops Q S n l a w [] := fun _ h => by cases h
theorem AllReadyL.cons {n : Nat} {l : Array Bool} {a : Act} {w : World} {i : Nat} {o : Oper} {rs : List Nat} (ho : ops[i]? = some o)
    (h : ∀ K' : Act → World → Prop, Shut (∀ a w, S (l.setIfInBounds i true) w → (S (l.setIfInBounds i true) w → wpAnyL P md ops Q S n (l.setIfInBounds i true) a w) → K' a w) → if Region.wanted o (yielded ops a.tmps) = true then Oper.wp P o a w K' Q else K' (a.put o.dst undef) w)
    (hs : AllReadyL P md ops Q S n l a w rs) : AllReadyL P md ops Q S n l a w (i :: rs) := fun j hj => by
  rcases List.mem_cons.1 hj with rfl | hj
  · exact wpOp_step ho (fun K' hK => h K' (fun a w hS hW => hK a w ⟨hS, hW hS⟩))
  · exact hs j hj
theorem wpAnyL_ready {rs : List Nat} {n : Nat} {l : Array Bool} {a : Act} {w : World} (hr : Region.ready md ops l = rs) (hne : rs ≠ []) (h : AllReadyL P md ops Q S n l a w rs) : wpAnyL P md ops Q S (n + 1) l a w := ⟨fun h0 => absurd (hr ▸ h0) hne, hr ▸ h⟩
theorem wpAnyL_done {l : Array Bool} {a : Act} {w : World} (hr : Region.ready md ops l = []) (h : Q .normal a w) : ∀ n, wpAnyL P md ops Q S n l a w
  | 0 => ⟨hr, h⟩
  | _ + 1 => ⟨fun _ => h, by rw [hr]; simp⟩
theorem wp_regionL {id : Nat} {a : Act} {w : World} (hm : P.follows .mixedOrders = true) (hS : S (Array.replicate ops.size false) w.drew) (h : S (Array.replicate ops.size false) w.drew → wpAnyL P .any ops Q S ops.size (Array.replicate ops.size false) a w.drew) : (Code.region id ops true).wp P Q a w := wp_region_any hm (wpAny_of_L _ _ _ _ (h hS))
end
end Go.Proofs.YtmiemocdjkeefaaGreatDoor
