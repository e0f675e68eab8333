/-
  What comes in, opened: bytes, entries, lists of entries; and what the bound on it says.
-/
import Derived.Test.YtaedbgdjjnkloabM6
import Derived.Test.YtaedbgdjjnkloabWS
import Derived.ProofKit
import Derived.OpenShut
import Derived.Lib.SmallJoins
namespace Go.Proofs.Ytaedbgdjjnkloab
open Go.ChangeShapes Go.WideShapes Go.ChangeAt Go.RowKit Go.Deep

section
variable {H : Type}
theorem bulk_one (d : DataW H) : 1 ≤ Rows.uptoBulk d := by
  cases d with
  | lit l => cases l <;> simp [Rows.uptoBulk]
  | nil => simp [Rows.uptoBulk]
  | ptr d => simp [Rows.uptoBulk]
  | slice elems spare => simp [Rows.uptoBulk]
  | agg parts => simp [Rows.uptoBulk]
  | iface t d => simp [Rows.uptoBulk]
  | map entries => simp [Rows.uptoBulk]
  | held h => simp [Rows.uptoBulk]
theorem bulk_length (l : List (DataW H)) : l.length ≤ Rows.uptoBulkAll l := by
  induction l with
  | nil => simp [Rows.uptoBulkAll]
  | cons x r ih => have := bulk_one x; simp only [Rows.uptoBulkAll, List.length_cons]; omega
theorem small_le {l : List (DataW H)} (hk : Rows.uptoSmall H l = true) : Rows.uptoBulkAll l ≤ 1048576 := of_decide_eq_true hk
end

section
variable {H : Type} {enc : TypeId × Value → H} {W : World} {spare : Nat → Bool} {held : Bool}

/-- A slice of bytes, opened. -/
theorem bytes_open {fuel : Nat} {v : Value} {y : DataW H × List MemPlace} (hf : DataW.trod enc Try.prog W 0 spare held fuel 23 [v] = some y) :
    ∃ a len cap xs, v = .slice a len cap ∧ Reads W a len cap xs ∧ len + 1 ≤ Rows.uptoBulk y.1 := by
  rcases open_ints Try.underlying23 Try.underlying5 (by kernel_rfl) hf with ⟨hcs, rfl⟩ | ⟨x, l, c, zs, hcs, _, hl, hm, hz, rfl, hcell, hwz⟩
  · simp at hcs
    subst hcs
    exact ⟨none, 0, 0, [], rfl, reads_nil W, by simp [Rows.uptoBulk]⟩
  · simp at hcs
    subst hcs
    have hzl : l ≤ zs.length := by rw [hz]; split <;> omega
    have hb : ∀ x ∈ zs.take l, 0 ≤ x ∧ x ≤ 255 := fun x hx => bounds_u8 (hwz x (List.mem_of_mem_take hx))
    refine ⟨some x, l, c, zs.take l, rfl, ⟨by simp; omega, hl, by unfold maxLen at hm; omega, bd_get hb, ?_⟩, ?_⟩
    · by_cases h0 : l = 0
      · exact .inl ⟨h0, fun e => by cases e⟩
      · obtain ⟨b, off, spot⟩ := x
        have hc := hcell 0 (by omega)
        have hspot : spot = none := by simpa [Addr.add] using World.cell?_spot hc
        subst hspot
        refine .inr ⟨b, off, rfl, fun i hi => ?_⟩
        have hadd : (⟨b, off, none⟩ : Addr).add i = ⟨b, off + i, none⟩ := by unfold Addr.add; split <;> simp_all
        have := hcell i (by omega)
        rw [hadd] at this
        rw [this]
        simp [hi]
    · simp only [Rows.uptoBulk]
      have := bulk_length (lits (H := H) .u8 (zs.take l))
      simp [lits] at this
      have e : (lits (H := H) .u8 (zs.take l)).length = l := by simp [lits]; omega
      have := bulk_length (lits (H := H) .u8 (zs.take l))
      omega

theorem fields37 : ∃ f0 f1 f2 f3, Try.prog.underlying 37 = some (.struct #[f0, f1, f2, f3]) ∧ oneCellFields Try.prog #[f0, f1, f2, f3] = true ∧ f0.type = 3 ∧ f1.type = 3 ∧ f2.type = 35 ∧ f3.type = 23 :=
  ⟨_, _, _, _, Try.underlying37, by kernel_rfl, by kernel_rfl, by kernel_rfl, by kernel_rfl, by kernel_rfl⟩
theorem Try.cells37 : Try.prog.cellsOf 37 = 4 := by kernel_rfl

/-- An entry's four cells, opened. -/
theorem entry_open {fuel : Nat} {c0 c1 c2 c3 : Value} {y : DataW H × List MemPlace} (hf : DataW.trod enc Try.prog W 0 spare held fuel 37 [c0, c1, c2, c3] = some y) :
    ∃ num kind n a len cap xs, c0 = .int .i64 num ∧ c1 = .int .i64 kind ∧ c2 = .int .u64 n ∧ c3 = .slice a len cap ∧ Reads W a len cap xs ∧ (0 ≤ n ∧ n ≤ 18446744073709551615) ∧ len + 5 ≤ Rows.uptoBulk y.1 := by
  obtain ⟨f0, f1, f2, f3, hs, hone, t0, t1, t2, t3⟩ := fields37
  obtain ⟨y0, y1, y2, y3, n, hx, _, h0, h1, h2, h3⟩ := Joins.trod_struct4 hs hf
  obtain ⟨o0, k0⟩ := hone_of hone 0 f0 rfl
  obtain ⟨o1, k1⟩ := hone_of hone 1 f1 rfl
  obtain ⟨o2, k2⟩ := hone_of hone 2 f2 rfl
  obtain ⟨o3, k3⟩ := hone_of hone 3 f3 rfl
  have g0 : DataW.trod enc Try.prog W 0 spare held n 3 [c0] = some y0 := by rw [← t0]; simpa [o0, k0] using h0
  have g1 : DataW.trod enc Try.prog W 0 spare held n 3 [c1] = some y1 := by rw [← t1]; simpa [o1, k1] using h1
  have g2 : DataW.trod enc Try.prog W 0 spare held n 35 [c2] = some y2 := by rw [← t2]; simpa [o2, k2] using h2
  have g3 : DataW.trod enc Try.prog W 0 spare held n 23 [c3] = some y3 := by rw [← t3]; simpa [o3, k3] using h3
  obtain ⟨m0, e0, _, _⟩ := DataW.trod_int Try.underlying3 g0
  obtain ⟨m1, e1, _, _⟩ := DataW.trod_int Try.underlying3 g1
  obtain ⟨m2, e2, _, w2⟩ := DataW.trod_int Try.underlying35 g2
  obtain ⟨a, len, cap, xs, e3, hr, hb⟩ := bytes_open g3
  simp at e0 e1 e2
  refine ⟨m0, m1, m2, a, len, cap, xs, e0, e1, e2, e3, hr, bounds_u64 w2, ?_⟩
  subst hx
  simp only [Rows.uptoBulk, Rows.uptoBulkAll]
  have := bulk_one y0.1
  have := bulk_one y1.1
  have := bulk_one y2.1
  omega

theorem bulk_snoc (l : List Ent) (x : Ent) : bulk (l ++ [x]) = bulk l + (20 + x.b.length) := by
  induction l with
  | nil => simp [bulk]
  | cons y r ih => simp [bulk, ih]; omega
theorem upto_append (l r : List (DataW H)) : Rows.uptoBulkAll (l ++ r) = Rows.uptoBulkAll l + Rows.uptoBulkAll r := by
  induction l with
  | nil => simp [Rows.uptoBulkAll]
  | cons x l ih => simp only [List.cons_append, Rows.uptoBulkAll, ih]; omega

/-- What is known of one entry of a list, at its place. -/
def EntAt (W : World) (b off i : Nat) (x : Ent) : Prop := ∃ sa sl sc, W.cell? ⟨b, off + i * 4, none⟩ = some (.int .i64 x.num) ∧ W.cell? ⟨b, off + i * 4 + 1, none⟩ = some (.int .i64 x.kind) ∧ W.cell? ⟨b, off + i * 4 + 2, none⟩ = some (.int .u64 x.n) ∧ W.cell? ⟨b, off + i * 4 + 3, none⟩ = some (.slice sa sl sc) ∧
    Reads W sa sl sc x.b ∧ 0 ≤ x.n ∧ x.n < 18446744073709551616

/-- A slice of entries, opened. -/
theorem list_open {fuel : Nat} {v : Value} {y : DataW H × List MemPlace} (hf : DataW.trod enc Try.prog W 0 spare held fuel 22 [v] = some y) :
    ∃ a len cap es, v = .slice a len cap ∧ ReadsL W a len cap es ∧ bulk es ≤ 20 * Rows.uptoBulk y.1 ∧ len + 1 ≤ Rows.uptoBulk y.1 := by
  rcases open_slice Try.underlying22 hf with ⟨hcs, rfl⟩ | ⟨x, len, cap, m, n, D, Pl, hcs, _, hl, hm, hmm, rfl, hel⟩
  · simp at hcs
    subst hcs
    exact ⟨none, 0, 0, [], rfl, ⟨rfl, Nat.le_refl _, by omega, .inl ⟨rfl, fun _ => rfl⟩⟩, by simp [bulk], by simp [Rows.uptoBulk]⟩
  · simp at hcs
    subst hcs
    rw [Try.cells37] at hel
    have hlm : len ≤ m := by rw [hmm]; split <;> omega
    have hbl := bulk_length ((List.range len).map D)
    have hlen1 : len + 1 ≤ Rows.uptoBulk (DataW.slice ((List.range len).map D) ((List.range (m - len)).map fun j => D (len + j))) := by
      simp only [Rows.uptoBulk]
      simp at hbl
      omega
    by_cases h0 : len = 0
    · subst h0
      exact ⟨some x, 0, cap, [], rfl, ⟨rfl, hl, by unfold maxLen at hm; omega, .inl ⟨rfl, fun e => by cases e⟩⟩, by simp [bulk], hlen1⟩
    · obtain ⟨b, off, spot⟩ := x
      obtain ⟨cs0, hcs0, _⟩ := hel 0 (by omega)
      have hc0 := (World.cells?_some hcs0).2.2 0 (by omega)
      have hl0 := (World.cells?_some hcs0).2.1
      have hspot : spot = none := by
        have : (0 : Nat) < cs0.length := by omega
        rw [List.getElem?_eq_getElem this] at hc0
        have := World.cell?_spot hc0
        simpa [Addr.add] using this
      subst hspot
      have hadd : ∀ j, (⟨b, off, none⟩ : Addr).add j = ⟨b, off + j, none⟩ := fun j => by unfold Addr.add; split <;> simp_all
      have hadd2 : ∀ o j, (⟨b, o, none⟩ : Addr).add j = ⟨b, o + j, none⟩ := fun o j => by unfold Addr.add; split <;> simp_all
      have each : ∀ i, i < len → ∃ x, EntAt W b off i x ∧ x.b.length + 5 ≤ Rows.uptoBulk (D i) := by
        intro i hi
        obtain ⟨cs, hcs, ht⟩ := hel i (by omega)
        obtain ⟨_, hcl, hcc⟩ := World.cells?_some hcs
        match cs, hcl, hcc, ht with
        | [q0, q1, q2, q3], _, hcc, ht =>
          obtain ⟨num, kind, nn, a, ln, cp, xs, rfl, rfl, rfl, rfl, hr, hn, hb⟩ := entry_open ht
          have g0 := hcc 0 (by omega)
          have g1 := hcc 1 (by omega)
          have g2 := hcc 2 (by omega)
          have g3 := hcc 3 (by omega)
          rw [hadd, hadd2] at g0 g1 g2 g3
          have hlx := hr.length
          exact ⟨⟨num, kind, nn, xs⟩, ⟨a, ln, cp, by simpa using g0, by simpa using g1, by simpa using g2, by simpa using g3, hr, hn.1, by show nn < _; omega⟩, by show xs.length + 5 ≤ _; rw [hlx]; exact hb⟩
      have all : ∀ k, k ≤ len → ∃ es : List Ent, es.length = k ∧ (∀ i x, es[i]? = some x → EntAt W b off i x) ∧ bulk es ≤ 20 * Rows.uptoBulkAll ((List.range k).map D) := by
        intro k
        induction k with
        | zero => intro _; exact ⟨[], rfl, by simp, by simp [bulk]⟩
        | succ k ih =>
          intro hk
          obtain ⟨es, h1, h2, h3⟩ := ih (by omega)
          obtain ⟨x, hx, hb⟩ := each k (by omega)
          refine ⟨es ++ [x], by simp [h1], fun i z hz => ?_, ?_⟩
          · by_cases hi : i < es.length
            · rw [List.getElem?_append_left hi] at hz; exact h2 i z hz
            · rw [List.getElem?_append_right (by omega)] at hz
              have : i - es.length = 0 := by
                rcases Nat.eq_zero_or_pos (i - es.length) with h | h
                · exact h
                · rw [List.getElem?_eq_none (by simp; omega)] at hz; cases hz
              rw [this] at hz
              simp at hz
              subst hz
              obtain rfl : i = k := by omega
              exact hx
          · rw [bulk_snoc, List.range_succ, List.map_append, upto_append]
            simp only [List.map_cons, List.map_nil, Rows.uptoBulkAll]
            omega
      obtain ⟨es, h1, h2, h3⟩ := all len (Nat.le_refl _)
      refine ⟨some ⟨b, off, none⟩, len, cap, es, rfl, ⟨h1, hl, by unfold maxLen at hm; omega, .inr ⟨b, off, rfl, fun i x hx => h2 i x hx⟩⟩, ?_, hlen1⟩
      simp only [Rows.uptoBulk]
      omega
end
end Go.Proofs.Ytaedbgdjjnkloab
