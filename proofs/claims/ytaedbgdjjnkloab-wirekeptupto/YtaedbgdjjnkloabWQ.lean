/-
  Walks over GetEntry of the program.
-/
import Derived.Test.YtaedbgdjjnkloabWP
import Derived.Test.YtaedbgdjjnkloabM5
namespace Go.Proofs.Ytaedbgdjjnkloab
open Go.RowKit

theorem own_shape {w : World} {base e size n : Nat} {v : Value} {xs : List Value} (h : w.ownsRow base e size v n xs) : ∃ a c, v = .slice a n c := by
  rcases h.2 with ⟨rfl, rfl⟩ | ⟨g, cap, cur, rfl, _⟩
  · exact ⟨none, 0, rfl⟩
  · exact ⟨_, _, rfl⟩

theorem getEntryOut (a : Option Addr) (len cap : Nat) (p : Int) (w : World) (hl : len ≤ 9223372036854775807) (hp : p < 0 ∨ (len : Int) < p) :
    Calls Try.prog 16 #[.slice a len cap, .int .i64 p] w fun e w' => e = .returned (.tuple #[.agg #[.int .i64 0, .int .i64 0, .int .u64 0, .slice none 0 0], .int .i64 0, .int .i64 18]) ∧ Below w.heap.size w w' := by
  have H := hid hp
  clear hp
  go_enter Try.func16, Try.ntmps16
  go_wp2_with fail
  refine (getTagOut _ _ _ _ _ hl H.out).mono ?_
  rintro e w1 ⟨rfl, rfl⟩
  go_wp2
  exact bodyPost_ret (v := .tuple #[.agg #[.int .i64 0, .int .i64 0, .int .u64 0, .slice none 0 0], .int .i64 0, .int .i64 18]) (by simp [results, Try.results16, go_sem]) rfl ⟨rfl, below_alloc _⟩

set_option maxHeartbeats 1000000 in
theorem getEntryVarintNo (a : Option Addr) (len cap p : Nat) (w : World) (num : Int) (q : Nat) (N nx er : Int)
    (HT : Hid (Calls Try.prog 25 #[.slice a len cap, .int .i64 p] (w.alloc (.cells #[.int .i64 0, .int .i64 0, .int .u64 0, .slice none 0 0] 37)) fun e w' => e = .returned (.tuple #[.int .i64 num, .int .i64 0, .int .i64 q, .int .i64 0]) ∧ (w.alloc (.cells #[.int .i64 0, .int .i64 0, .int .u64 0, .slice none 0 0] 37)) = w'))
    (HS : Hid (Calls Try.prog 12 #[.slice a len cap, .int .i64 q] (w.alloc (.cells #[.int .i64 num, .int .i64 0, .int .u64 0, .slice none 0 0] 37)) fun e w' => e = .returned (.tuple #[.int .u64 N, .int .i64 nx, .int .i64 er]) ∧ (w.alloc (.cells #[.int .i64 num, .int .i64 0, .int .u64 0, .slice none 0 0] 37)) = w')) (he : (er != 0) = true) :
    Calls Try.prog 16 #[.slice a len cap, .int .i64 p] w fun e w' => e = .returned (.tuple #[.agg #[.int .i64 0, .int .i64 0, .int .u64 0, .slice none 0 0], .int .i64 0, .int .i64 er]) ∧ Below w.heap.size w w' := by
  go_enter Try.func16, Try.ntmps16
  go_wp2_with fail
  refine HT.out.mono ?_
  rintro e w1 ⟨rfl, rfl⟩
  go_wp2_with fail
  refine HS.out.mono ?_
  rintro e w1 ⟨rfl, rfl⟩
  go_wp2
  exact bodyPost_ret (v := .tuple #[.agg #[.int .i64 0, .int .i64 0, .int .u64 0, .slice none 0 0], .int .i64 0, .int .i64 er]) (by simp [results, Try.results16, go_sem]) rfl ⟨rfl, below_alloc _⟩
set_option maxHeartbeats 1000000 in
theorem getEntryVarintYes (a : Option Addr) (len cap p : Nat) (w : World) (num : Int) (q : Nat) (N nx : Int)
    (HT : Hid (Calls Try.prog 25 #[.slice a len cap, .int .i64 p] (w.alloc (.cells #[.int .i64 0, .int .i64 0, .int .u64 0, .slice none 0 0] 37)) fun e w' => e = .returned (.tuple #[.int .i64 num, .int .i64 0, .int .i64 q, .int .i64 0]) ∧ (w.alloc (.cells #[.int .i64 0, .int .i64 0, .int .u64 0, .slice none 0 0] 37)) = w'))
    (HS : Hid (Calls Try.prog 12 #[.slice a len cap, .int .i64 q] (w.alloc (.cells #[.int .i64 num, .int .i64 0, .int .u64 0, .slice none 0 0] 37)) fun e w' => e = .returned (.tuple #[.int .u64 N, .int .i64 nx, .int .i64 0]) ∧ (w.alloc (.cells #[.int .i64 num, .int .i64 0, .int .u64 0, .slice none 0 0] 37)) = w')) :
    Calls Try.prog 16 #[.slice a len cap, .int .i64 p] w fun e w' => e = .returned (.tuple #[.agg #[.int .i64 num, .int .i64 0, .int .u64 N, .slice none 0 0], .int .i64 nx, .int .i64 0]) ∧ Below w.heap.size w w' := by
  go_enter Try.func16, Try.ntmps16
  go_wp2_with fail
  refine HT.out.mono ?_
  rintro e w1 ⟨rfl, rfl⟩
  go_wp2_with fail
  refine HS.out.mono ?_
  rintro e w1 ⟨rfl, rfl⟩
  go_wp2
  exact bodyPost_ret (v := .tuple #[.agg #[.int .i64 num, .int .i64 0, .int .u64 N, .slice none 0 0], .int .i64 nx, .int .i64 0]) (by simp [results, Try.results16, go_sem]) rfl ⟨rfl, below_alloc _⟩

set_option maxHeartbeats 1000000 in
theorem getEntryFix64No (a : Option Addr) (len cap p : Nat) (w : World) (num : Int) (q : Nat) (N nx er : Int)
    (HT : Hid (Calls Try.prog 25 #[.slice a len cap, .int .i64 p] (w.alloc (.cells #[.int .i64 0, .int .i64 0, .int .u64 0, .slice none 0 0] 37)) fun e w' => e = .returned (.tuple #[.int .i64 num, .int .i64 1, .int .i64 q, .int .i64 0]) ∧ (w.alloc (.cells #[.int .i64 0, .int .i64 0, .int .u64 0, .slice none 0 0] 37)) = w'))
    (HS : Hid (Calls Try.prog 26 #[.slice a len cap, .int .i64 q] (w.alloc (.cells #[.int .i64 num, .int .i64 1, .int .u64 0, .slice none 0 0] 37)) fun e w' => e = .returned (.tuple #[.int .u64 N, .int .i64 nx, .int .i64 er]) ∧ (w.alloc (.cells #[.int .i64 num, .int .i64 1, .int .u64 0, .slice none 0 0] 37)) = w')) (he : (er != 0) = true) :
    Calls Try.prog 16 #[.slice a len cap, .int .i64 p] w fun e w' => e = .returned (.tuple #[.agg #[.int .i64 0, .int .i64 0, .int .u64 0, .slice none 0 0], .int .i64 0, .int .i64 er]) ∧ Below w.heap.size w w' := by
  go_enter Try.func16, Try.ntmps16
  go_wp2_with fail
  refine HT.out.mono ?_
  rintro e w1 ⟨rfl, rfl⟩
  go_wp2_with fail
  refine HS.out.mono ?_
  rintro e w1 ⟨rfl, rfl⟩
  go_wp2
  exact bodyPost_ret (v := .tuple #[.agg #[.int .i64 0, .int .i64 0, .int .u64 0, .slice none 0 0], .int .i64 0, .int .i64 er]) (by simp [results, Try.results16, go_sem]) rfl ⟨rfl, below_alloc _⟩
set_option maxHeartbeats 1000000 in
theorem getEntryFix64Yes (a : Option Addr) (len cap p : Nat) (w : World) (num : Int) (q : Nat) (N nx : Int)
    (HT : Hid (Calls Try.prog 25 #[.slice a len cap, .int .i64 p] (w.alloc (.cells #[.int .i64 0, .int .i64 0, .int .u64 0, .slice none 0 0] 37)) fun e w' => e = .returned (.tuple #[.int .i64 num, .int .i64 1, .int .i64 q, .int .i64 0]) ∧ (w.alloc (.cells #[.int .i64 0, .int .i64 0, .int .u64 0, .slice none 0 0] 37)) = w'))
    (HS : Hid (Calls Try.prog 26 #[.slice a len cap, .int .i64 q] (w.alloc (.cells #[.int .i64 num, .int .i64 1, .int .u64 0, .slice none 0 0] 37)) fun e w' => e = .returned (.tuple #[.int .u64 N, .int .i64 nx, .int .i64 0]) ∧ (w.alloc (.cells #[.int .i64 num, .int .i64 1, .int .u64 0, .slice none 0 0] 37)) = w')) :
    Calls Try.prog 16 #[.slice a len cap, .int .i64 p] w fun e w' => e = .returned (.tuple #[.agg #[.int .i64 num, .int .i64 1, .int .u64 N, .slice none 0 0], .int .i64 nx, .int .i64 0]) ∧ Below w.heap.size w w' := by
  go_enter Try.func16, Try.ntmps16
  go_wp2_with fail
  refine HT.out.mono ?_
  rintro e w1 ⟨rfl, rfl⟩
  go_wp2_with fail
  refine HS.out.mono ?_
  rintro e w1 ⟨rfl, rfl⟩
  go_wp2
  exact bodyPost_ret (v := .tuple #[.agg #[.int .i64 num, .int .i64 1, .int .u64 N, .slice none 0 0], .int .i64 nx, .int .i64 0]) (by simp [results, Try.results16, go_sem]) rfl ⟨rfl, below_alloc _⟩

set_option maxHeartbeats 1000000 in
theorem getEntryFix32No (a : Option Addr) (len cap p : Nat) (w : World) (num : Int) (q : Nat) (N nx er : Int)
    (HT : Hid (Calls Try.prog 25 #[.slice a len cap, .int .i64 p] (w.alloc (.cells #[.int .i64 0, .int .i64 0, .int .u64 0, .slice none 0 0] 37)) fun e w' => e = .returned (.tuple #[.int .i64 num, .int .i64 5, .int .i64 q, .int .i64 0]) ∧ (w.alloc (.cells #[.int .i64 0, .int .i64 0, .int .u64 0, .slice none 0 0] 37)) = w'))
    (HS : Hid (Calls Try.prog 27 #[.slice a len cap, .int .i64 q, .int .i64 4] (w.alloc (.cells #[.int .i64 num, .int .i64 5, .int .u64 0, .slice none 0 0] 37)) fun e w' => e = .returned (.tuple #[.int .u64 N, .int .i64 nx, .int .i64 er]) ∧ (w.alloc (.cells #[.int .i64 num, .int .i64 5, .int .u64 0, .slice none 0 0] 37)) = w')) (he : (er != 0) = true) :
    Calls Try.prog 16 #[.slice a len cap, .int .i64 p] w fun e w' => e = .returned (.tuple #[.agg #[.int .i64 0, .int .i64 0, .int .u64 0, .slice none 0 0], .int .i64 0, .int .i64 er]) ∧ Below w.heap.size w w' := by
  go_enter Try.func16, Try.ntmps16
  go_wp2_with fail
  refine HT.out.mono ?_
  rintro e w1 ⟨rfl, rfl⟩
  go_wp2_with fail
  refine HS.out.mono ?_
  rintro e w1 ⟨rfl, rfl⟩
  go_wp2
  exact bodyPost_ret (v := .tuple #[.agg #[.int .i64 0, .int .i64 0, .int .u64 0, .slice none 0 0], .int .i64 0, .int .i64 er]) (by simp [results, Try.results16, go_sem]) rfl ⟨rfl, below_alloc _⟩
set_option maxHeartbeats 1000000 in
theorem getEntryFix32Yes (a : Option Addr) (len cap p : Nat) (w : World) (num : Int) (q : Nat) (N nx : Int)
    (HT : Hid (Calls Try.prog 25 #[.slice a len cap, .int .i64 p] (w.alloc (.cells #[.int .i64 0, .int .i64 0, .int .u64 0, .slice none 0 0] 37)) fun e w' => e = .returned (.tuple #[.int .i64 num, .int .i64 5, .int .i64 q, .int .i64 0]) ∧ (w.alloc (.cells #[.int .i64 0, .int .i64 0, .int .u64 0, .slice none 0 0] 37)) = w'))
    (HS : Hid (Calls Try.prog 27 #[.slice a len cap, .int .i64 q, .int .i64 4] (w.alloc (.cells #[.int .i64 num, .int .i64 5, .int .u64 0, .slice none 0 0] 37)) fun e w' => e = .returned (.tuple #[.int .u64 N, .int .i64 nx, .int .i64 0]) ∧ (w.alloc (.cells #[.int .i64 num, .int .i64 5, .int .u64 0, .slice none 0 0] 37)) = w')) :
    Calls Try.prog 16 #[.slice a len cap, .int .i64 p] w fun e w' => e = .returned (.tuple #[.agg #[.int .i64 num, .int .i64 5, .int .u64 N, .slice none 0 0], .int .i64 nx, .int .i64 0]) ∧ Below w.heap.size w w' := by
  go_enter Try.func16, Try.ntmps16
  go_wp2_with fail
  refine HT.out.mono ?_
  rintro e w1 ⟨rfl, rfl⟩
  go_wp2_with fail
  refine HS.out.mono ?_
  rintro e w1 ⟨rfl, rfl⟩
  go_wp2
  exact bodyPost_ret (v := .tuple #[.agg #[.int .i64 num, .int .i64 5, .int .u64 N, .slice none 0 0], .int .i64 nx, .int .i64 0]) (by simp [results, Try.results16, go_sem]) rfl ⟨rfl, below_alloc _⟩

set_option maxHeartbeats 1000000 in
theorem getEntryChunkNo (a : Option Addr) (len cap p : Nat) (w : World) (num : Int) (q : Nat) (nx er : Int) (ys : List Int)
    (HT : Hid (Calls Try.prog 25 #[.slice a len cap, .int .i64 p] (w.alloc (.cells #[.int .i64 0, .int .i64 0, .int .u64 0, .slice none 0 0] 37)) fun e w' => e = .returned (.tuple #[.int .i64 num, .int .i64 2, .int .i64 q, .int .i64 0]) ∧ (w.alloc (.cells #[.int .i64 0, .int .i64 0, .int .u64 0, .slice none 0 0] 37)) = w'))
    (HS : Hid (Calls Try.prog 9 #[.slice a len cap, .int .i64 q] (w.alloc (.cells #[.int .i64 num, .int .i64 2, .int .u64 0, .slice none 0 0] 37)) fun e w' => ∃ v, e = .returned (.tuple #[v, .int .i64 nx, .int .i64 er]) ∧ w'.ownsRow (w.alloc (.cells #[.int .i64 num, .int .i64 2, .int .u64 0, .slice none 0 0] 37)).heap.size 5 1 v ys.length (ys.map (Value.int .u8)) ∧ Below (w.alloc (.cells #[.int .i64 num, .int .i64 2, .int .u64 0, .slice none 0 0] 37)).heap.size (w.alloc (.cells #[.int .i64 num, .int .i64 2, .int .u64 0, .slice none 0 0] 37)) w')) (he : (er != 0) = true) :
    Calls Try.prog 16 #[.slice a len cap, .int .i64 p] w fun e w' => e = .returned (.tuple #[.agg #[.int .i64 0, .int .i64 0, .int .u64 0, .slice none 0 0], .int .i64 0, .int .i64 er]) ∧ Below w.heap.size w w' := by
  go_enter Try.func16, Try.ntmps16
  go_wp2_with fail
  refine HT.out.mono ?_
  rintro e w1 ⟨rfl, rfl⟩
  go_wp2_with fail
  refine HS.out.mono ?_
  rintro e w2 ⟨v, rfl, ho, hb⟩
  obtain ⟨b2, c2, rfl⟩ := own_shape ho
  have f0 : ∀ o, w2.frozen? ⟨w.heap.size, o, none⟩ = false := fun o => by rw [hb.frozen (p := ⟨w.heap.size, o, none⟩) (by simp), World.frozen?_alloc_at _ _ _ _ rfl]
  have d0 : w2.cell? ⟨w.heap.size, 0, none⟩ = some (.int .i64 num) := by rw [hb.cell (p := ⟨w.heap.size, 0, none⟩) (by simp), World.cell?_alloc_at _ _ _ _ rfl]; rfl
  have d1 : w2.cell? ⟨w.heap.size, 1, none⟩ = some (.int .i64 2) := by rw [hb.cell (p := ⟨w.heap.size, 1, none⟩) (by simp), World.cell?_alloc_at _ _ _ _ rfl]; rfl
  have d2 : w2.cell? ⟨w.heap.size, 2, none⟩ = some (.int .u64 0) := by rw [hb.cell (p := ⟨w.heap.size, 2, none⟩) (by simp), World.cell?_alloc_at _ _ _ _ rfl]; rfl
  have d3 : w2.cell? ⟨w.heap.size, 3, none⟩ = some (.slice none 0 0) := by rw [hb.cell (p := ⟨w.heap.size, 3, none⟩) (by simp), World.cell?_alloc_at _ _ _ _ rfl]; rfl
  have hs : w.heap.size < w2.heap.size := by have := hb.size; simp at this; omega
  have HB := hid hb
  have HO := hid ho
  clear hb ho
  go_wp2
  have hbel5 := ((((((below_alloc (w := w) (.cells #[.int .i64 num, .int .i64 2, .int .u64 0, .slice none 0 0] 37)).trans (HB.out.mono (by simp))).setCell (p := ⟨w.heap.size, 3, none⟩) (Nat.le_refl _) (.slice b2 ys.length c2)).setCell (p := ⟨w.heap.size, 0, none⟩) (Nat.le_refl _) (.int .i64 0)).setCell (p := ⟨w.heap.size, 1, none⟩) (Nat.le_refl _) (.int .i64 0)).setCell (p := ⟨w.heap.size, 2, none⟩) (Nat.le_refl _) (.int .u64 0)).setCell (p := ⟨w.heap.size, 3, none⟩) (Nat.le_refl _) (.slice none 0 0)
  exact bodyPost_ret (v := .tuple #[.agg #[.int .i64 0, .int .i64 0, .int .u64 0, .slice none 0 0], .int .i64 0, .int .i64 er]) (by simp [results, Try.results16, go_sem, d0, d1, d2, d3]) rfl ⟨rfl, hbel5⟩

set_option maxHeartbeats 1000000 in
theorem getEntryChunkYes (a : Option Addr) (len cap p : Nat) (w : World) (num : Int) (q : Nat) (nx : Int) (ys : List Int)
    (HT : Hid (Calls Try.prog 25 #[.slice a len cap, .int .i64 p] (w.alloc (.cells #[.int .i64 0, .int .i64 0, .int .u64 0, .slice none 0 0] 37)) fun e w' => e = .returned (.tuple #[.int .i64 num, .int .i64 2, .int .i64 q, .int .i64 0]) ∧ (w.alloc (.cells #[.int .i64 0, .int .i64 0, .int .u64 0, .slice none 0 0] 37)) = w'))
    (HS : Hid (Calls Try.prog 9 #[.slice a len cap, .int .i64 q] (w.alloc (.cells #[.int .i64 num, .int .i64 2, .int .u64 0, .slice none 0 0] 37)) fun e w' => ∃ v, e = .returned (.tuple #[v, .int .i64 nx, .int .i64 0]) ∧ w'.ownsRow (w.alloc (.cells #[.int .i64 num, .int .i64 2, .int .u64 0, .slice none 0 0] 37)).heap.size 5 1 v ys.length (ys.map (Value.int .u8)) ∧ Below (w.alloc (.cells #[.int .i64 num, .int .i64 2, .int .u64 0, .slice none 0 0] 37)).heap.size (w.alloc (.cells #[.int .i64 num, .int .i64 2, .int .u64 0, .slice none 0 0] 37)) w')) :
    Calls Try.prog 16 #[.slice a len cap, .int .i64 p] w fun e w' => ∃ v, e = .returned (.tuple #[.agg #[.int .i64 num, .int .i64 2, .int .u64 0, v], .int .i64 nx, .int .i64 0]) ∧ w'.ownsRow w.heap.size 5 1 v ys.length (ys.map (Value.int .u8)) ∧ Below w.heap.size w w' := by
  go_enter Try.func16, Try.ntmps16
  go_wp2_with fail
  refine HT.out.mono ?_
  rintro e w1 ⟨rfl, rfl⟩
  go_wp2_with fail
  refine HS.out.mono ?_
  rintro e w2 ⟨v, rfl, ho, hb⟩
  obtain ⟨b2, c2, rfl⟩ := own_shape ho
  have f0 : ∀ o, w2.frozen? ⟨w.heap.size, o, none⟩ = false := fun o => by rw [hb.frozen (p := ⟨w.heap.size, o, none⟩) (by simp), World.frozen?_alloc_at _ _ _ _ rfl]
  have d0 : w2.cell? ⟨w.heap.size, 0, none⟩ = some (.int .i64 num) := by rw [hb.cell (p := ⟨w.heap.size, 0, none⟩) (by simp), World.cell?_alloc_at _ _ _ _ rfl]; rfl
  have d1 : w2.cell? ⟨w.heap.size, 1, none⟩ = some (.int .i64 2) := by rw [hb.cell (p := ⟨w.heap.size, 1, none⟩) (by simp), World.cell?_alloc_at _ _ _ _ rfl]; rfl
  have d2 : w2.cell? ⟨w.heap.size, 2, none⟩ = some (.int .u64 0) := by rw [hb.cell (p := ⟨w.heap.size, 2, none⟩) (by simp), World.cell?_alloc_at _ _ _ _ rfl]; rfl
  have d3 : w2.cell? ⟨w.heap.size, 3, none⟩ = some (.slice none 0 0) := by rw [hb.cell (p := ⟨w.heap.size, 3, none⟩) (by simp), World.cell?_alloc_at _ _ _ _ rfl]; rfl
  have hs : w.heap.size < w2.heap.size := by have := hb.size; simp at this; omega
  have HB := hid hb
  have HO := hid ho
  clear hb ho
  go_wp2
  have hown5 := ownsRow_setCell_below (ownsRow_setCell_below (ownsRow_setCell_below (ownsRow_setCell_below (ownsRow_setCell_below HO.out (a := ⟨w.heap.size, 3, none⟩) (by simp) (.slice b2 ys.length c2)) (a := ⟨w.heap.size, 0, none⟩) (by simp) (.int .i64 num)) (a := ⟨w.heap.size, 1, none⟩) (by simp) (.int .i64 2)) (a := ⟨w.heap.size, 2, none⟩) (by simp) (.int .u64 0)) (a := ⟨w.heap.size, 3, none⟩) (by simp) (.slice b2 ys.length c2)
  have hbel5 := ((((((below_alloc (w := w) (.cells #[.int .i64 num, .int .i64 2, .int .u64 0, .slice none 0 0] 37)).trans (HB.out.mono (by simp))).setCell (p := ⟨w.heap.size, 3, none⟩) (Nat.le_refl _) (.slice b2 ys.length c2)).setCell (p := ⟨w.heap.size, 0, none⟩) (Nat.le_refl _) (.int .i64 num)).setCell (p := ⟨w.heap.size, 1, none⟩) (Nat.le_refl _) (.int .i64 2)).setCell (p := ⟨w.heap.size, 2, none⟩) (Nat.le_refl _) (.int .u64 0)).setCell (p := ⟨w.heap.size, 3, none⟩) (Nat.le_refl _) (.slice b2 ys.length c2)
  exact bodyPost_ret (v := .tuple #[.agg #[.int .i64 num, .int .i64 2, .int .u64 0, .slice b2 ys.length c2], .int .i64 nx, .int .i64 0]) (by simp [results, Try.results16, go_sem, d0, d1, d2, d3]) rfl ⟨_, rfl, own_mono hown5 (by simp), hbel5⟩

set_option maxHeartbeats 1000000 in
theorem getEntryTagNo (a : Option Addr) (len cap p : Nat) (w : World) (num kind q er : Int)
    (HT : Hid (Calls Try.prog 25 #[.slice a len cap, .int .i64 p] (w.alloc (.cells #[.int .i64 0, .int .i64 0, .int .u64 0, .slice none 0 0] 37)) fun e w' => e = .returned (.tuple #[.int .i64 num, .int .i64 kind, .int .i64 q, .int .i64 er]) ∧ (w.alloc (.cells #[.int .i64 0, .int .i64 0, .int .u64 0, .slice none 0 0] 37)) = w')) (he : (er != 0) = true) :
    Calls Try.prog 16 #[.slice a len cap, .int .i64 p] w fun e w' => e = .returned (.tuple #[.agg #[.int .i64 0, .int .i64 0, .int .u64 0, .slice none 0 0], .int .i64 0, .int .i64 er]) ∧ Below w.heap.size w w' := by
  go_enter Try.func16, Try.ntmps16
  go_wp2_with fail
  refine HT.out.mono ?_
  rintro e w1 ⟨rfl, rfl⟩
  go_wp2
  exact bodyPost_ret (v := .tuple #[.agg #[.int .i64 0, .int .i64 0, .int .u64 0, .slice none 0 0], .int .i64 0, .int .i64 er]) (by simp [results, Try.results16, go_sem]) rfl ⟨rfl, below_alloc _⟩

/-- GetEntry at a place of a slice that can be read. -/
theorem getEntryW (a : Option Addr) (len cap p : Nat) (xs : List Int) (w : World) (h : Reads w a len cap xs) (hp : p ≤ len) (hreach : len ≤ 140737488355328) :
    Calls Try.prog 16 #[.slice a len cap, .int .i64 p] w fun e w' => ∃ v, e = .returned (.tuple #[.agg #[.int .i64 (ge xs p).num, .int .i64 (ge xs p).kind, .int .u64 (ge xs p).n, v], .int .i64 (ge xs p).next, .int .i64 (ge xs p).err]) ∧ w'.ownsRow w.heap.size 5 1 v (ge xs p).b.length ((ge xs p).b.map (Value.int .u8)) ∧ Below w.heap.size w w' := by
  have hk : ∀ o, Reads (w.alloc o) a len cap xs := fun o => reads_kept h (below_alloc o)
  have hT := getTagW a len cap p xs _ (hk (.cells #[.int .i64 0, .int .i64 0, .int .u64 0, .slice none 0 0] 37)) hp
  have hlen := h.length
  have hf := gt_facts (xs := xs) (p := p) (by omega)
  unfold ge
  generalize gt xs p = t at hT hf
  obtain ⟨num, kind, nx, er⟩ := t
  simp only [] at hT hf
  have fin : ∀ (e : Ending) (w' : World) (er : Int), (e = .returned (.tuple #[.agg #[.int .i64 0, .int .i64 0, .int .u64 0, .slice none 0 0], .int .i64 0, .int .i64 er]) ∧ Below w.heap.size w w') → ∃ v, e = .returned (.tuple #[.agg #[.int .i64 (Got.none er).num, .int .i64 (Got.none er).kind, .int .u64 (Got.none er).n, v], .int .i64 (Got.none er).next, .int .i64 (Got.none er).err]) ∧ w'.ownsRow w.heap.size 5 1 v (Got.none er).b.length ((Got.none er).b.map (Value.int .u8)) ∧ Below w.heap.size w w' :=
    fun e w' er h => ⟨_, h.1, World.ownsRow_nil _ _ _ _, h.2⟩
  cases he : (er != 0) with
  | true =>
    rw [geF_err (by exact he)]
    exact (getEntryTagNo a len cap p w num kind nx er hT he).mono fun e w' h => fin e w' er h
  | false =>
    have he0 : er = 0 := by simpa using he
    subst he0
    rw [geF_ok (by rfl)]
    obtain ⟨ht, h1, h2⟩ := hf rfl
    obtain ⟨q, rfl⟩ := Int.eq_ofNat_of_zero_le (show 0 ≤ nx by omega)
    simp only [Int.toNat_natCast]
    have hq : q ≤ len := by omega
    unfold restF
    rcases okK_cases (tf_ok ht).2.2 with rfl | rfl | rfl | rfl
    · rw [if_neg (by decide), numF, if_pos rfl]
      have hS := getvW a len cap q xs _ (hk (.cells #[.int .i64 num, .int .i64 0, .int .u64 0, .slice none 0 0] 37)) hq
      generalize gv xs q = g at hS
      obtain ⟨N, nx, er⟩ := g
      cases he : (er != 0) with
      | true =>
        rw [ofNum_err (by exact he)]
        exact (getEntryVarintNo a len cap p w num q N nx er hT hS he).mono fun e w' h => fin e w' er h
      | false =>
        have he0 : er = 0 := by simpa using he
        subst he0
        rw [ofNum_ok (by rfl)]
        exact (getEntryVarintYes a len cap p w num q N nx hT hS).mono fun e w' h => ⟨_, h.1, World.ownsRow_nil _ _ _ _, h.2⟩
    · rw [if_neg (by decide), numF, if_neg (by decide), if_pos rfl]
      have hS := getFix64W a len cap q xs _ (hk (.cells #[.int .i64 num, .int .i64 1, .int .u64 0, .slice none 0 0] 37)) hq
      generalize gw xs q 8 = g at hS
      obtain ⟨N, nx, er⟩ := g
      cases he : (er != 0) with
      | true =>
        rw [ofNum_err (by exact he)]
        exact (getEntryFix64No a len cap p w num q N nx er hT hS he).mono fun e w' h => fin e w' er h
      | false =>
        have he0 : er = 0 := by simpa using he
        subst he0
        rw [ofNum_ok (by rfl)]
        exact (getEntryFix64Yes a len cap p w num q N nx hT hS).mono fun e w' h => ⟨_, h.1, World.ownsRow_nil _ _ _ _, h.2⟩
    · rw [if_pos rfl]
      have hS := getChunkW a len cap q xs _ (hk (.cells #[.int .i64 num, .int .i64 2, .int .u64 0, .slice none 0 0] 37)) hq hreach
      generalize gc xs q = g at hS
      obtain ⟨ys, nx, er⟩ := g
      cases he : (er != 0) with
      | true =>
        rw [ofChunk_err (by exact he)]
        exact (getEntryChunkNo a len cap p w num q nx er ys hT hS he).mono fun e w' h => fin e w' er h
      | false =>
        have he0 : er = 0 := by simpa using he
        subst he0
        rw [ofChunk_ok (by rfl)]
        exact getEntryChunkYes a len cap p w num q nx ys hT hS
    · rw [if_neg (by decide), numF, if_neg (by decide), if_neg (by decide)]
      have hS := getWordW a len cap q 4 xs _ (hk (.cells #[.int .i64 num, .int .i64 5, .int .u64 0, .slice none 0 0] 37)) hq (by decide) (by decide)
      generalize gw xs q 4 = g at hS
      obtain ⟨N, nx, er⟩ := g
      cases he : (er != 0) with
      | true =>
        rw [ofNum_err (by exact he)]
        exact (getEntryFix32No a len cap p w num q N nx er hT hS he).mono fun e w' h => fin e w' er h
      | false =>
        have he0 : er = 0 := by simpa using he
        subst he0
        rw [ofNum_ok (by rfl)]
        exact (getEntryFix32Yes a len cap p w num q N nx hT hS).mono fun e w' h => ⟨_, h.1, World.ownsRow_nil _ _ _ _, h.2⟩
end Go.Proofs.Ytaedbgdjjnkloab
