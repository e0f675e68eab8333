/-
  Lists of entries that can be read; the walks over Same and List.
-/
import Derived.Test.YtaedbgdjjnkloabWR
import Derived.Test.YtaedbgdjjnkloabM6
import Derived.Deep.RegionWith
namespace Go.Proofs.Ytaedbgdjjnkloab
open Go.RowKit

/-- A slice of entries that can be read. -/
structure ReadsL (w : World) (a : Option Addr) (len cap : Nat) (es : List Ent) : Prop where
  length : es.length = len
  le : len ≤ cap
  max : cap ≤ 9223372036854775807
  cells : (len = 0 ∧ (a = none → cap = 0)) ∨ ∃ b off, a = some ⟨b, off, none⟩ ∧ ∀ i x, es[i]? = some x → ∃ sa sl sc,
    w.cell? ⟨b, off + i * 4, none⟩ = some (.int .i64 x.num) ∧ w.cell? ⟨b, off + i * 4 + 1, none⟩ = some (.int .i64 x.kind) ∧ w.cell? ⟨b, off + i * 4 + 2, none⟩ = some (.int .u64 x.n) ∧ w.cell? ⟨b, off + i * 4 + 3, none⟩ = some (.slice sa sl sc) ∧
    Reads w sa sl sc x.b ∧ 0 ≤ x.n ∧ x.n < 18446744073709551616

theorem readsL_kept {w w' : World} {a : Option Addr} {len cap : Nat} {es : List Ent} (h : ReadsL w a len cap es) (hb : Below w.heap.size w w') : ReadsL w' a len cap es := by
  refine ⟨h.length, h.le, h.max, ?_⟩
  rcases h.cells with h0 | ⟨b, off, rfl, hc⟩
  · exact .inl h0
  · refine .inr ⟨b, off, rfl, fun i x hx => ?_⟩
    obtain ⟨sa, sl, sc, c0, c1, c2, c3, hr, hn⟩ := hc i x hx
    have hk : ∀ o, w'.cell? ⟨b, o, none⟩ = w.cell? ⟨b, o, none⟩ := fun o => hb.cell (p := ⟨b, o, none⟩) (World.block_lt_of_cell? _ ⟨b, off + i * 4, none⟩ c0)
    exact ⟨sa, sl, sc, (hk _).trans c0, (hk _).trans c1, (hk _).trans c2, (hk _).trans c3, reads_kept hr hb, hn⟩

set_option maxHeartbeats 400000 in
theorem sameEntW (num kind n : Int) (xs : List Int) (a1 a2 : Option Addr) (l1 c1 l2 c2 : Nat) (w : World) (h1 : Reads w a1 l1 c1 xs) (h2 : Reads w a2 l2 c2 xs) :
    Calls Try.prog 17 #[.agg #[.int .i64 num, .int .i64 kind, .int .u64 n, .slice a1 l1 c1], .agg #[.int .i64 num, .int .i64 kind, .int .u64 n, .slice a2 l2 c2]] w fun e w' => e = .returned (.bool true) ∧ Below w.heap.size w w' := by
  have k1 := conv (reads_kept h1 (below2 (.cells #[.int .i64 num, .int .i64 kind, .int .u64 n, .slice a1 l1 c1] 37) (.cells #[.int .i64 num, .int .i64 kind, .int .u64 n, .slice a2 l2 c2] 37)))
  have k2 := conv (reads_kept h2 (below2 (.cells #[.int .i64 num, .int .i64 kind, .int .u64 n, .slice a1 l1 c1] 37) (.cells #[.int .i64 num, .int .i64 kind, .int .u64 n, .slice a2 l2 c2] 37)))
  clear h1 h2
  go_enter Try.func17, Try.ntmps17
  go_wp2
  go_ret
  exact ⟨by simp, below2 _ _⟩

set_option maxHeartbeats 400000 in
theorem listZero (a1 a2 : Option Addr) (c1 c2 : Nat) (w : World) :
    Calls Try.prog 8 #[.slice a1 0 c1, .slice a2 0 c2] w fun e w' => e = .returned (.bool true) ∧ Below w.heap.size w w' := by
  go_enter Try.func8, Try.ntmps8
  go_wp2
  refine wp_loop_rounds 1 ?_
  rw [rounds_succ]
  go_wp2
  go_ret
  exact ⟨rfl, Below.refl _ _⟩

set_option maxHeartbeats 1000000 in
theorem listIn (b1 off1 b2 off2 len c1 c2 : Nat) (es : List Ent) (w : World) (h1 : ReadsL w (some ⟨b1, off1, none⟩) len c1 es) (h2 : ReadsL w (some ⟨b2, off2, none⟩) len c2 es) (h0 : 0 < len) :
    Calls Try.prog 8 #[.slice (some ⟨b1, off1, none⟩) len c1, .slice (some ⟨b2, off2, none⟩) len c2] w fun e w' => e = .returned (.bool true) ∧ Below w.heap.size w w' := by
  have hlm : len ≤ 9223372036854775807 := Nat.le_trans h1.le h1.max
  have hln := hid h1.length
  have H1 := hid h1
  have H2 := hid h2
  clear h1 h2
  go_enter Try.func8, Try.ntmps8
  go_wp2
  go_loopw [5] (fun r wr => ∃ k : Nat, k ≤ len ∧ r = .int .i64 k ∧ Below w.heap.size w wr) (fun r _ => len - (intOf r).toNat)
  case atStart => exact ⟨0, by omega, rfl, Below.refl _ _⟩
  case round =>
    obtain ⟨k, hk, rfl, hbw⟩ := hrel
    by_cases hlt : k < len
    · obtain ⟨x, hx⟩ : ∃ x, es[k]? = some x := ⟨_, List.getElem?_eq_getElem (by rw [hln.out]; exact hlt)⟩
      have g1 := readsL_kept H1.out hbw
      have g2 := readsL_kept H2.out hbw
      rcases g1.cells with ⟨h, _⟩ | ⟨b, off, e, hc1⟩
      · omega
      cases e
      rcases g2.cells with ⟨h, _⟩ | ⟨b, off, e, hc2⟩
      · omega
      cases e
      obtain ⟨sa, sl, sc, p0, p1, p2, p3, hr1, _⟩ := hc1 k x hx
      obtain ⟨ta, tl, tc, q0, q1, q2, q3, hr2, _⟩ := hc2 k x hx
      clear hc1 hc2 g1 g2 hx
      have hki : (k : Int) < (len : Int) := by omega
      have hk0 : (0 : Int) ≤ (k : Int) := by omega
      have HR1 := hid hr1
      have HR2 := hid hr2
      have HBW := hid hbw
      clear hr1 hr2 hbw
      go_wp2_with fail
      go_region_with (go_at_call 17; refine (sameEntW x.num x.kind x.n x.b sa ta sl sc tl tc _ (by exact reads_kept HR1.out ⟨rfl, rfl, rfl, Nat.le_refl _, fun _ _ => rfl⟩) (by exact reads_kept HR2.out ⟨rfl, rfl, rfl, Nat.le_refl _, fun _ _ => rfl⟩)).mono ?_; rintro e w2 ⟨rfl, hb2⟩)
      all_goals go_wp2
      all_goals exact ⟨⟨k + 1, by omega, by go_num, below_trans HBW.out.drew hb2⟩, by simp [intOf]; omega⟩
    · go_wp2
      go_ret
      exact ⟨rfl, hbw⟩

theorem readsL_zero {w : World} {a : Option Addr} {len cap : Nat} (h : ReadsL w a len cap []) : len = 0 := by have := h.length; simpa using this.symm
/-- Two lists of the same entries. -/
theorem listYes (a1 a2 : Option Addr) (l1 c1 l2 c2 : Nat) (es : List Ent) (w : World) (h1 : ReadsL w a1 l1 c1 es) (h2 : ReadsL w a2 l2 c2 es) :
    Calls Try.prog 8 #[.slice a1 l1 c1, .slice a2 l2 c2] w fun e w' => e = .returned (.bool true) ∧ Below w.heap.size w w' := by
  obtain rfl : l1 = l2 := by rw [← h1.length, ← h2.length]
  by_cases h0 : l1 = 0
  · subst h0
    exact listZero a1 a2 c1 c2 w
  · rcases h1.cells with ⟨h, _⟩ | ⟨b1, off1, rfl, _⟩
    · exact absurd h h0
    · rcases h2.cells with ⟨h, _⟩ | ⟨b2, off2, rfl, _⟩
      · exact absurd h h0
      · exact listIn b1 off1 b2 off2 l1 c1 c2 es w h1 h2 (by omega)
end Go.Proofs.Ytaedbgdjjnkloab
