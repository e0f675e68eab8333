/-
  The walk of the law WireEntries.
-/
import Derived.Test.YtaedbgdjjnkloabWY
namespace Go.Proofs.Ytaedbgdjjnkloab
open Go.RowKit

/-- GetEntry's answer as parts that can be read. -/
theorem getEntryWr (a : Option Addr) (len cap p : Nat) (xs : List Int) (w : World) (h : Reads w a len cap xs) (hp : p ≤ len) (hreach : len ≤ 140737488355328) :
    Calls Try.prog 16 #[.slice a len cap, .int .i64 p] w fun e w' => ∃ b c, e = .returned (.tuple #[.agg #[.int .i64 (ge xs p).num, .int .i64 (ge xs p).kind, .int .u64 (ge xs p).n, .slice b (ge xs p).b.length c], .int .i64 (ge xs p).next, .int .i64 (ge xs p).err]) ∧ Reads w' b (ge xs p).b.length c (ge xs p).b ∧ Below w.heap.size w w' := by
  refine (getEntryW a len cap p xs w h hp hreach).mono ?_
  rintro e w' ⟨v, rfl, ho, hb⟩
  obtain ⟨b, c, rfl, hr⟩ := own_reads ho (ge_good (bd_mem h.bd) p).2
  exact ⟨b, c, rfl, hr, hb⟩
theorem joinWr (a : Option Addr) (len cap : Nat) (es : List Ent) (w : World) (h : ReadsL w a len cap es) (hbulk : bulk es ≤ 70368744177664) (hg : ∀ x ∈ (jn es).1, 0 ≤ x ∧ x ≤ 255) :
    Calls Try.prog 6 #[.slice a len cap] w fun e w' => ∃ b c, e = .returned (.tuple #[.slice b (jn es).1.length c, .int .i64 (jn es).2]) ∧ Reads w' b (jn es).1.length c (jn es).1 ∧ Below w.heap.size w w' := by
  refine (joinW a len cap es w h hbulk).mono ?_
  rintro e w' ⟨v, rfl, ho, hb⟩
  obtain ⟨b, c, rfl, hr⟩ := own_reads ho hg
  exact ⟨b, c, rfl, hr, hb⟩
theorem jnF_bd : ∀ (l : List Ent) (acc : List Int), (∀ x ∈ l, Good x ∧ x.b.length < 18446744073709551616) → (∀ x ∈ acc, 0 ≤ x ∧ x ≤ 255) → ∀ x ∈ (jnF l acc).1, 0 ≤ x ∧ x ≤ 255
  | [], acc, _, ha => ha
  | y :: r, acc, hl, ha => by
    cases h : (ef y.num y.kind y.n y.b.length != 0) with
    | true => rw [jnF_err h]; simp
    | false =>
      rw [jnF_more h]
      have hy := hl y (by simp)
      have he : ef y.num y.kind y.n y.b.length = 0 := by simpa using h
      exact jnF_bd r _ (fun x hx => hl x (by simp [hx])) (fun x hx => by
        rcases List.mem_append.1 hx with h1 | h1
        · exact ha x h1
        · exact pe_bd (ef_ok he).1 hy.1.1.1 hy.1.1.2 hy.1.2 hy.2 x h1)
/-- What can be read is good. -/
theorem readsL_good {w : World} {a : Option Addr} {len cap : Nat} {es : List Ent} (h : ReadsL w a len cap es) : ∀ x ∈ es, Good x ∧ x.b.length < 18446744073709551616 := by
  intro x hx
  obtain ⟨i, hi, rfl⟩ := List.mem_iff_getElem.1 hx
  rcases h.cells with ⟨h0, _⟩ | ⟨b, off, _, hc⟩
  · have := h.length; omega
  · obtain ⟨sa, sl, sc, _, _, _, _, hr, hn⟩ := hc i es[i] (List.getElem?_eq_getElem hi)
    have := hr.length
    have := hr.le
    have := hr.max
    exact ⟨⟨hn, bd_mem hr.bd⟩, by omega⟩


end Go.Proofs.Ytaedbgdjjnkloab
