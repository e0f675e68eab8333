/-
  The law's own looks: are an answer's words these? A short line; is a text refused so?
-/
import Derived.Test.YtlkdcdmdkncjoaaDoorYM
namespace Go.Proofs.YtlkdcdmdkncjoaaDoor
open Go.RowKit
set_option maxRecDepth 1000000
set_option maxHeartbeats 4000000
set_option linter.unusedVariables false

theorem sameZero (a1 a2 : Option Addr) (c1 c2 : Nat) (w : World) :
    Calls Tryd.prog 9 #[.slice a1 0 c1, .slice a2 0 c2] w fun e w' => e = .returned (.bool true) ∧ Below w.heap.size w w' := by
  go_enter Tryd.func9, Tryd.ntmps9
  go_wp2
  refine wp_loop_rounds 1 ?_
  rw [rounds_succ]
  go_wp2
  go_ret
  exact ⟨rfl, Below.refl _ _⟩
theorem below_twoo {w : World} (o o' : Obj) : Below w.heap.size w ((w.alloc o).alloc o') := below_trans (below_alloc o) (below_alloc o')
theorem sameIn (b1 off1 b2 off2 len c1 c2 : Nat) (ms : List Mw) (w : World) (h1 : ReadsW w (some ⟨b1, off1, none⟩) len c1 ms) (h2 : ReadsW w (some ⟨b2, off2, none⟩) len c2 ms) (h0 : 0 < len) :
    Calls Tryd.prog 9 #[.slice (some ⟨b1, off1, none⟩) len c1, .slice (some ⟨b2, off2, none⟩) len c2] w fun e w' => e = .returned (.bool true) ∧ Below w.heap.size w w' := by
  have hlm : len ≤ 9223372036854775807 := Nat.le_trans h1.le h1.max
  have hln := hid h1.length
  have H1 := hid h1
  have H2 := hid h2
  clear h1 h2
  go_enter Tryd.func9, Tryd.ntmps9
  go_wp2
  go_loopw [5] (fun r wr => ∃ k : Nat, k ≤ len ∧ r = .int .i64 k ∧ Hid (Below w.heap.size w wr)) (fun r _ => len - (intOf r).toNat)
  case atStart => exact ⟨0, by omega, rfl, hid (Below.refl _ _)⟩
  case round =>
    obtain ⟨k, hk, rfl, hbw⟩ := hrel
    by_cases hlt : k < len
    · obtain ⟨x, hx⟩ : ∃ x, ms[k]? = some x := ⟨_, List.getElem?_eq_getElem (by rw [hln.out]; exact hlt)⟩
      have g1 := readsW_kept H1.out hbw.out
      have g2 := readsW_kept H2.out hbw.out
      rcases g1.cells with ⟨h, _⟩ | ⟨b, off, e, hc1⟩
      · omega
      cases e
      rcases g2.cells with ⟨h, _⟩ | ⟨b, off, e, hc2⟩
      · omega
      cases e
      obtain ⟨sa, sc, p0, p1, p2, p3, p4, p5, hr1⟩ := hc1 k x hx
      obtain ⟨ta, tc, q0, q1, q2, q3, q4, q5, hr2⟩ := hc2 k x hx
      have hB1 : b1 < wr.heap.size := World.block_lt_of_cell? _ _ p0
      have hB2 : b2 < wr.heap.size := World.block_lt_of_cell? _ _ q0
      clear hc1 hc2 g1 g2 hx
      have hki : (k : Int) < (len : Int) := by omega
      have hk0 : (0 : Int) ≤ (k : Int) := by omega
      obtain ⟨kind, s, n, bb, line, col⟩ := x
      dsimp only at p0 p1 p2 p3 p4 p5 q0 q1 q2 q3 q4 q5 hr1 hr2
      have k1 := conv (reads_kept hr1 (below_twoo (.cells #[.int .i64 kind, .string (strOfNums s), .int .u64 n, .slice sa bb.length sc, .int .i64 line, .int .i64 col] 39) (.cells #[.int .i64 kind, .string (strOfNums s), .int .u64 n, .slice ta bb.length tc, .int .i64 line, .int .i64 col] 33)))
      have k2 := conv (reads_kept hr2 (below_twoo (.cells #[.int .i64 kind, .string (strOfNums s), .int .u64 n, .slice sa bb.length sc, .int .i64 line, .int .i64 col] 39) (.cells #[.int .i64 kind, .string (strOfNums s), .int .u64 n, .slice ta bb.length tc, .int .i64 line, .int .i64 col] 33)))
      clear hr1 hr2
      go_wp2
      exact ⟨⟨k + 1, by omega, by go_num, hid (below_trans hbw.out (below_twoo _ _))⟩, by simp [intOf]; omega⟩
    · go_wp2
      go_ret
      exact ⟨rfl, hbw.out⟩
/-- Two rows of the same words. -/
theorem sameYes (a1 a2 : Option Addr) (l1 c1 l2 c2 : Nat) (ms : List Mw) (w : World) (h1 : ReadsW w a1 l1 c1 ms) (h2 : ReadsW w a2 l2 c2 ms) :
    Calls Tryd.prog 9 #[.slice a1 l1 c1, .slice a2 l2 c2] w fun e w' => e = .returned (.bool true) ∧ Below w.heap.size w w' := by
  obtain rfl : l1 = l2 := by rw [← h1.length, ← h2.length]
  by_cases h0 : l1 = 0
  · subst h0
    exact sameZero a1 a2 c1 c2 w
  · rcases h1.cells with ⟨h, _⟩ | ⟨b1, off1, rfl, _⟩
    · exact absurd h h0
    · rcases h2.cells with ⟨h, _⟩ | ⟨b2, off2, rfl, _⟩
      · exact absurd h h0
      · exact sameIn b1 off1 b2 off2 l1 c1 c2 ms w h1 h2 (by omega)
/-- Split at any text. -/
theorem splitW (xs : List Int) (w : World) (hb : ∀ x ∈ xs, 0 ≤ x ∧ x ≤ 255) (hm : xs.length ≤ 9223372036854775807) (hs : Sentinel w 2) : Calls Tryd.prog 7 #[.string (strOfNums xs)] w fun e w' => SplitG w (outE xs) e w' := by
  by_cases h : 65536 < xs.length
  · exact splitBig xs w h hm
  · exact splitIn xs w hb (by omega) hs
theorem splitG_is {w w' : World} {g : List Mw × Int × Int × Int} {e : Ending} {ms : List Mw} {cd l c : Int} (h : SplitG w g e w') (hg : g = (ms, cd, l, c)) : ∃ a k, e = .returned (.tuple #[.slice a ms.length k, .agg #[.int .i64 cd, .int .i64 0, .int .i64 l, .int .i64 c]]) ∧ ReadsW w' a ms.length k ms ∧ Below w.heap.size w w' := by subst hg; exact h
def wordsA : List Mw := [⟨1, [97, 95, 49], 0, [], 1, 1⟩, ⟨4, [61], 0, [], 1, 5⟩, ⟨2, [48, 120, 49, 70], 31, [], 1, 7⟩, ⟨4, [59], 0, [], 1, 11⟩, ⟨5, [], 0, [], 1, 12⟩]
theorem outE_awake : outE [97, 95, 49, 32, 61, 32, 48, 120, 49, 70, 59] = (wordsA, 0, 0, 0) := by rfl
/-- The cells of words that are laid at once. -/
theorem readsW_lit (w : World) (t : TypeId) (ws : List (Mw × Value)) (cs : Array Value) (hcs : cs.toList = flatW ws) (hb : ∀ x ∈ ws, ∃ a c, x.2 = .slice a x.1.b.length c ∧ Reads w a x.1.b.length c x.1.b) (hl : ws.length ≤ 1000) : ReadsW (w.alloc (.cells cs t)) (some ⟨w.heap.size, 0, none⟩) ws.length ws.length (ws.map Prod.fst) := by
  refine ⟨by simp, Nat.le_refl _, by omega, .inr ⟨w.heap.size, 0, rfl, fun i x hx => ?_⟩⟩
  rw [List.getElem?_map] at hx
  cases hy : ws[i]? with
  | none => rw [hy] at hx; cases hx
  | some y =>
    rw [hy] at hx
    simp at hx
    obtain ⟨x', u⟩ := y
    simp at hx
    subst hx
    obtain ⟨f0, f1, f2, f3, f4, f5⟩ := flatW_get ws i x' u hy
    obtain ⟨sa, sc, hu, hr⟩ := hb _ (List.mem_of_getElem? hy)
    simp only [] at hu hr
    subst hu
    have hc : ∀ j v, (flatW ws)[j]? = some v → (w.alloc (.cells cs t)).cell? ⟨w.heap.size, 0 + j, none⟩ = some v := fun j v hv => by
      rw [World.cell?_alloc_at _ _ _ _ rfl, Nat.zero_add, ← Array.getElem?_toList, hcs]
      exact hv
    refine ⟨sa, sc, hc _ _ f0, ?_, ?_, ?_, ?_, ?_, reads_kept hr (below_alloc _)⟩
    · have := hc _ _ f1; rwa [← Nat.add_assoc] at this
    · have := hc _ _ f2; rwa [← Nat.add_assoc] at this
    · have := hc _ _ f3; rwa [← Nat.add_assoc] at this
    · have := hc _ _ f4; rwa [← Nat.add_assoc] at this
    · have := hc _ _ f5; rwa [← Nat.add_assoc] at this
theorem bare_each (w : World) (ms : List Mw) (h : ∀ m ∈ ms, m.b = []) : ∀ x ∈ ms.map fun m => (m, Value.slice none 0 0), ∃ a c, x.2 = .slice a x.1.b.length c ∧ Reads w a x.1.b.length c x.1.b := by
  intro x hx
  obtain ⟨m, hm, rfl⟩ := List.mem_map.1 hx
  have := h m hm
  exact ⟨none, 0, by simp [this], by simp only [this]; exact reads_nil _⟩
theorem awake4 (w : World) (hs : Sentinel w 2) : Calls Tryd.prog 8 #[] w fun e w' => e = .returned (.bool true) ∧ Below w.heap.size w w' := by
  have HSP := hid ((splitW [97, 95, 49, 32, 61, 32, 48, 120, 49, 70, 59] w (by decide) (by decide) hs).mono fun e w' h => splitG_is h outE_awake)
  clear hs
  go_enter Tryd.func8, Tryd.ntmps8
  go_wp2_with fail
  refine HSP.out.mono ?_
  rintro e w1 ⟨a, c, rfl, hr, hb⟩
  have HR := hid hr
  have HB := hid hb
  clear hr hb HSP
  have HL := hid (readsW_lit (w1.alloc (.cells #[.int .i64 0, .int .i64 0, .int .i64 0, .int .i64 0] 25)) 33 (wordsA.map fun m => (m, .slice none 0 0)) #[.int .i64 1, .string ⟨#[97, 95, 49]⟩, .int .u64 0, .slice none 0 0, .int .i64 1, .int .i64 1, .int .i64 4, .string ⟨#[61]⟩, .int .u64 0, .slice none 0 0, .int .i64 1, .int .i64 5, .int .i64 2, .string ⟨#[48, 120, 49, 70]⟩, .int .u64 31, .slice none 0 0, .int .i64 1, .int .i64 7, .int .i64 4, .string ⟨#[59]⟩, .int .u64 0, .slice none 0 0, .int .i64 1, .int .i64 11, .int .i64 5, .string ⟨#[]⟩, .int .u64 0, .slice none 0 0, .int .i64 1, .int .i64 12] (by rfl) (bare_each _ _ (by simp [wordsA])) (by decide))
  go_wp2_with fail
  refine (sameYes a (some ⟨w1.heap.size + 1, 0, none⟩) 5 c 5 5 wordsA _ (readsW_kept HR.out (below_twoo _ _)) (by have := HL.out; rw [World.size_alloc] at this; exact this)).mono ?_
  rintro e w2 ⟨rfl, hb2⟩
  have HB2 := hid (below_trans (below_trans HB.out (below_twoo _ _)) hb2)
  clear hb2
  go_wp2
  go_ret
  exact ⟨rfl, HB2.out⟩
end Go.Proofs.YtlkdcdmdkncjoaaDoor
