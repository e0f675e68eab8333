/-
  What is built can be read; the calls of chapter 1's examples.
-/
import Derived.Test.YtaedbgdjjnkloabWU
namespace Go.Proofs.Ytaedbgdjjnkloab
open Go.RowKit

/-- An entry whose number and bytes are such. -/
def Good (x : Ent) : Prop := (0 ≤ x.n ∧ x.n < 18446744073709551616) ∧ ∀ y ∈ x.b, 0 ≤ y ∧ y ≤ 255

theorem gw_bd8 {xs : List Int} (h : ∀ x ∈ xs, 0 ≤ x ∧ x ≤ 255) (p size : Nat) (h8 : size ≤ 8) : 0 ≤ (gw xs p size).1 ∧ (gw xs p size).1 < 18446744073709551616 := by
  unfold gw
  by_cases hs : xs.length < p + size
  · rw [if_pos hs]; simp
  · rw [if_neg hs]
    have hb := word_bd ((xs.drop p).take size) (fun x hx => h x (List.mem_of_mem_drop (List.mem_of_mem_take hx)))
    have hl : ((xs.drop p).take size).length ≤ 8 := by simp; omega
    have := pow_le_64 _ hl
    exact ⟨hb.1, Int.lt_of_lt_of_le hb.2 this⟩
theorem ge_good {xs : List Int} (h : ∀ x ∈ xs, 0 ≤ x ∧ x ≤ 255) (p : Nat) : Good (ge xs p).ent := by
  have none_good : ∀ e, Good (Got.none e).ent := fun e => ⟨by simp [Got.none, Got.ent], by simp [Got.none, Got.ent]⟩
  unfold ge geF
  split
  · exact none_good _
  · unfold restF
    split
    · unfold ofChunk
      split
      · exact none_good _
      · exact ⟨by simp [Got.ent], fun y hy => gc_bd h _ y hy⟩
    · unfold ofNum
      split
      · exact none_good _
      · refine ⟨?_, by simp [Got.ent]⟩
        show 0 ≤ (numF xs _ _).1 ∧ (numF xs _ _).1 < _
        unfold numF
        split
        · exact gv_bd h _
        · split
          · exact gw_bd8 h _ 8 (by decide)
          · exact gw_bd8 h _ 4 (by decide)
theorem spF_good {xs : List Int} (h : ∀ x ∈ xs, 0 ≤ x ∧ x ≤ 255) : ∀ (f p : Nat) (acc : List Ent), (∀ x ∈ acc, Good x) → ∀ x ∈ (spF f xs p acc).1, Good x
  | 0, _, _, ha => ha
  | f + 1, p, acc, ha => by
    unfold spF
    split
    · exact ha
    · split
      · simp
      · exact spF_good h f _ _ (fun x hx => by
          rcases List.mem_append.1 hx with h1 | h1
          · exact ha x h1
          · simp at h1; subst h1; exact ge_good h p)
theorem sp_good {xs : List Int} (h : ∀ x ∈ xs, 0 ≤ x ∧ x ≤ 255) : ∀ x ∈ (sp xs).1, Good x := spF_good h _ _ _ (by simp)

theorem ownL_reads {w : World} {base : Nat} {v : Value} {es : List (Ent × Value)} (h : OwnL w base v es) (hg : ∀ x ∈ es.map Prod.fst, Good x) : ∃ a c, v = .slice a es.length c ∧ ReadsL w a es.length c (es.map Prod.fst) := by
  rcases h.row.2 with ⟨rfl, h0⟩ | ⟨g, cap, cur, rfl, hbg, hgg, hnc, hcm, hcs, htake⟩
  · rw [h0]
    exact ⟨none, 0, rfl, by simp [h0], Nat.le_refl _, by omega, .inl ⟨rfl, fun _ => rfl⟩⟩
  · refine ⟨_, cap, rfl, by simp, hnc, by unfold maxLen at hcm; omega, .inr ⟨g, 0, rfl, fun i x hx => ?_⟩⟩
    rw [List.getElem?_map] at hx
    cases hy : es[i]? with
    | none => rw [hy] at hx; cases hx
    | some y =>
      rw [hy] at hx
      simp at hx
      obtain ⟨x', u⟩ := y
      simp at hx
      subst hx
      obtain ⟨f0, f1, f2, f3⟩ := flat_get es i x' u hy
      have hmem : (x', u) ∈ es := List.mem_of_getElem? hy
      obtain ⟨hn, hb⟩ := hg x' (List.mem_map.2 ⟨_, hmem, rfl⟩)
      obtain ⟨sa, sc, hu, hr⟩ := own_reads (h.each _ hmem) hb
      simp only [] at hu hr
      subst hu
      have hadd : ∀ j, (⟨g, 0, none⟩ : Addr).add j = ⟨g, 0 + j, none⟩ := fun j => by unfold Addr.add; split <;> simp_all
      have hcell : ∀ j u, (flat es)[j]? = some u → w.cell? ⟨g, 0 + j, none⟩ = some u := fun j u hu => by rw [← hadd]; exact h.row.cells (g := g) rfl j u hu
      refine ⟨sa, _, sc, ?_, ?_, ?_, ?_, hr, hn.1, hn.2⟩
      · exact hcell _ _ f0
      · have := hcell _ _ f1; rwa [← Nat.add_assoc] at this
      · have := hcell _ _ f2; rwa [← Nat.add_assoc] at this
      · have := hcell _ _ f3; rwa [← Nat.add_assoc] at this

theorem splitWr (a : Option Addr) (len cap : Nat) (xs : List Int) (w : World) (h : Reads w a len cap xs) (hreach : len * 48 ≤ 140737488355280) :
    Calls Try.prog 7 #[.slice a len cap] w fun e w' => ∃ b c, e = .returned (.tuple #[.slice b (sp xs).1.length c, .int .i64 (sp xs).2]) ∧ ReadsL w' b (sp xs).1.length c (sp xs).1 ∧ Below w.heap.size w w' := by
  refine (splitW a len cap xs w h hreach).mono ?_
  rintro e w' ⟨v, es, rfl, hes, ho, hb⟩
  obtain ⟨b, c, rfl, hr⟩ := ownL_reads ho (by rw [hes]; exact sp_good (bd_mem h.bd))
  rw [hes] at hr
  have hl : es.length = (sp xs).1.length := by rw [← hes]; simp
  rw [hl] at hr ⊢
  exact ⟨b, c, rfl, hr, hb⟩
end Go.Proofs.Ytaedbgdjjnkloab
