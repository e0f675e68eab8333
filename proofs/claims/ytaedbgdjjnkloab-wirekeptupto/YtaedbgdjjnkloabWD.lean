/-
  What is owned can be read, and stays; 'awake' returns true.
-/
import Derived.Test.YtaedbgdjjnkloabWC
namespace Go.Proofs.Ytaedbgdjjnkloab
open Go.RowKit

theorem bd_get {xs : List Int} (h : ∀ x ∈ xs, 0 ≤ x ∧ x ≤ 255) : ∀ i, 0 ≤ xs.getD i 0 ∧ xs.getD i 0 ≤ 255 := by
  intro i
  by_cases hi : i < xs.length
  · have := h xs[i] (List.getElem_mem hi)
    simpa [hi] using this
  · simp [hi]

theorem own_reads {w : World} {base n : Nat} {v : Value} {xs : List Int} (h : w.ownsRow base 5 1 v n (xs.map (Value.int .u8))) (hb : ∀ x ∈ xs, 0 ≤ x ∧ x ≤ 255) :
    ∃ a cap, v = .slice a n cap ∧ Reads w a n cap xs := by
  have hl : xs.length = n := by simpa using h.1
  rcases h.2 with ⟨rfl, h0⟩ | ⟨g, cap, cur, rfl, hbg, hg, hnc, hcm, hcs, htake⟩
  · subst h0
    exact ⟨none, 0, rfl, hl, Nat.le_refl _, by omega, bd_get hb, .inl ⟨rfl, fun _ => rfl⟩⟩
  · refine ⟨_, cap, rfl, hl, hnc, by unfold maxLen at hcm; omega, bd_get hb, .inr ⟨g, 0, rfl, fun i hi => ?_⟩⟩
    have hx : (xs.map (Value.int .u8))[i]? = some (.int .u8 (xs.getD i 0)) := by simp [show i < xs.length by omega]
    have := h.cells (g := g) rfl i _ hx
    have hadd : (⟨g, 0, none⟩ : Addr).add i = ⟨g, 0 + i, none⟩ := by unfold Addr.add; split <;> simp_all
    rwa [hadd] at this

theorem reads_kept {w w' : World} {a : Option Addr} {len cap : Nat} {xs : List Int} (h : Reads w a len cap xs) (hb : Below w.heap.size w w') : Reads w' a len cap xs := by
  refine ⟨h.length, h.le, h.max, h.bd, ?_⟩
  rcases h.cells with h0 | ⟨b, off, rfl, hc⟩
  · exact .inl h0
  · exact .inr ⟨b, off, rfl, fun i hi => by rw [hb.cell (p := ⟨b, off + i, none⟩) (World.block_lt_of_cell? _ _ (hc i hi))]; exact hc i hi⟩

theorem below_alloc {w : World} (o : Obj) : Below w.heap.size w (w.alloc o) := (Below.refl _ _).alloc (Nat.le_refl _) o
theorem below_trans {w w1 w2 : World} (h1 : Below w.heap.size w w1) (h2 : Below w1.heap.size w1 w2) : Below w.heap.size w w2 := h1.trans (h2.mono h1.size)

/-- A row that has just been laid. -/
theorem reads_new (w : World) (xs : List Int) (hb : ∀ x ∈ xs, 0 ≤ x ∧ x ≤ 255) (hm : xs.length ≤ 9223372036854775807) : Reads (w.alloc (.cells (xs.map (Value.int .u8)).toArray 5)) (some ⟨w.heap.size, 0, none⟩) xs.length xs.length xs := by
  refine ⟨rfl, Nat.le_refl _, hm, bd_get hb, .inr ⟨w.heap.size, 0, rfl, fun i hi => ?_⟩⟩
  rw [World.cell?_alloc_at _ _ _ _ rfl]
  simp [hi]

/-- PutVarint's answer as a slice that can be read. -/
theorem putvWr (n : Int) (w : World) (h0 : 0 ≤ n) (h1 : n < 18446744073709551616) :
    Calls Try.prog 13 #[.int .u64 n] w fun e w' => ∃ a cap, e = .returned (.slice a (pv n).length cap) ∧ Reads w' a (pv n).length cap (pv n) ∧ Below w.heap.size w w' := by
  refine (putvW n w h0 h1).mono ?_
  rintro e w' ⟨v, rfl, ho, hb⟩
  obtain ⟨a, cap, rfl, hr⟩ := own_reads ho (pv_bd h0 h1)
  exact ⟨a, cap, rfl, hr, hb⟩
theorem gv_300 : gv [172, 2, 9] 0 = (300, 2, 0) := by decide
theorem pv_300 : pv 300 = [172, 2] := by decide

set_option maxHeartbeats 400000 in
theorem awakeW (w : World) : Calls Try.prog 5 #[] w fun e w' => e = .returned (.bool true) ∧ Below w.heap.size w w' := by
  have hr := reads_new w [172, 2, 9] (by decide) (by decide)
  have hgv := getvW _ _ _ 0 _ _ hr (by decide)
  rw [gv_300] at hgv
  have H : Hid (Calls Try.prog 12 #[.slice (some ⟨w.heap.size, 0, none⟩) 3 3, .int .i64 0] (w.alloc (.cells #[.int .u8 172, .int .u8 2, .int .u8 9] 5)) fun e w' => e = .returned (.tuple #[.int .u64 300, .int .i64 2, .int .i64 0]) ∧ (w.alloc (.cells #[.int .u8 172, .int .u8 2, .int .u8 9] 5)) = w') := hgv
  clear hgv hr
  go_enter Try.func5, Try.ntmps5
  go_wp2_with fail
  refine H.out.mono ?_
  rintro e w' ⟨rfl, rfl⟩
  go_wp2_with fail
  refine (putvWr 300 _ (by omega) (by omega)).mono ?_
  rintro e w1 ⟨a, cap, rfl, hr1, hb1⟩
  rw [pv_300] at hr1 ⊢
  have hr2 := reads_new w1 [172, 2] (by decide) (by decide)
  have hr1' := reads_kept hr1 (below_alloc (.cells ([172, 2].map (Value.int .u8)).toArray 5))
  have HS : Hid (Calls Try.prog 11 #[.slice a 2 cap, .slice (some ⟨w1.heap.size, 0, none⟩) 2 2] (w1.alloc (.cells #[.int .u8 172, .int .u8 2] 5)) fun e w' => e = .returned (.bool true) ∧ (w1.alloc (.cells #[.int .u8 172, .int .u8 2] 5)) = w') := sameYes _ _ _ _ _ _ _ _ hr1' hr2
  have hb : Below w.heap.size w w1 := below_trans (below_alloc _) hb1
  clear hr1 hr2 hr1' hb1
  go_wp2_with fail
  refine HS.out.mono ?_
  rintro e w2 ⟨rfl, rfl⟩
  go_wp2
  go_ret
  exact ⟨rfl, below_trans hb (below_alloc _)⟩
end Go.Proofs.Ytaedbgdjjnkloab
