/-
  Walks over the document's GetEntry.
-/
import Derived.Test.YtaedbgdjjnkloaaWQ
namespace Go.Proofs.Ytaedbgdjjnkloaa
open Go.RowKit

theorem size2 (w : World) (o o' : Obj) : ((w.alloc o).alloc o').heap.size = w.heap.size + 2 := by simp
theorem lt2a (w : World) (o o' : Obj) : w.heap.size < ((w.alloc o).alloc o').heap.size := by rw [size2]; omega
theorem lt2b (w : World) (o o' : Obj) : w.heap.size + 1 < ((w.alloc o).alloc o').heap.size := by rw [size2]; omega
theorem below2 {w : World} (o o' : Obj) : Below w.heap.size w ((w.alloc o).alloc o') := ((Below.refl _ _).alloc (Nat.le_refl _) o).alloc (by simp) o'

set_option maxHeartbeats 1000000 in
theorem restVarintNo (a : Option Addr) (len cap : Nat) (w : World) (num : Int) (q : Nat) (N nx er : Int)
    (HS : Hid (Calls Try.prog 31 #[.slice a len cap, .int .i64 q] ((w.alloc (.cells #[.int .i64 0, .int .i64 0, .int .u64 0, .slice none 0 0] 45)).alloc (.cells #[.int .i64 num, .int .i64 0, .int .u64 0, .slice none 0 0] 45)) fun e w' => e = .returned (.tuple #[.int .u64 N, .int .i64 nx, .int .i64 er]) ∧ ((w.alloc (.cells #[.int .i64 0, .int .i64 0, .int .u64 0, .slice none 0 0] 45)).alloc (.cells #[.int .i64 num, .int .i64 0, .int .u64 0, .slice none 0 0] 45)) = w')) (he : (er != 0) = true) :
    Calls Try.prog 55 #[.slice a len cap, .int .i64 q, .int .i64 num, .int .i64 0] w fun e w' => e = .returned (.tuple #[.agg #[.int .i64 0, .int .i64 0, .int .u64 0, .slice none 0 0], .int .i64 0, .int .i64 er]) ∧ Below w.heap.size w w' := by
  go_enter Try.func55, Try.ntmps55
  go_wp2_with fail
  refine HS.out.mono ?_
  rintro e w1 ⟨rfl, rfl⟩
  go_wp2
  exact bodyPost_ret (v := .tuple #[.agg #[.int .i64 0, .int .i64 0, .int .u64 0, .slice none 0 0], .int .i64 0, .int .i64 er]) (by simp [results, Try.results55, go_sem]) rfl ⟨rfl, below2 _ _⟩
set_option maxHeartbeats 1000000 in
theorem restVarintYes (a : Option Addr) (len cap : Nat) (w : World) (num : Int) (q : Nat) (N nx : Int)
    (HS : Hid (Calls Try.prog 31 #[.slice a len cap, .int .i64 q] ((w.alloc (.cells #[.int .i64 0, .int .i64 0, .int .u64 0, .slice none 0 0] 45)).alloc (.cells #[.int .i64 num, .int .i64 0, .int .u64 0, .slice none 0 0] 45)) fun e w' => e = .returned (.tuple #[.int .u64 N, .int .i64 nx, .int .i64 0]) ∧ ((w.alloc (.cells #[.int .i64 0, .int .i64 0, .int .u64 0, .slice none 0 0] 45)).alloc (.cells #[.int .i64 num, .int .i64 0, .int .u64 0, .slice none 0 0] 45)) = w')) :
    Calls Try.prog 55 #[.slice a len cap, .int .i64 q, .int .i64 num, .int .i64 0] w fun e w' => e = .returned (.tuple #[.agg #[.int .i64 num, .int .i64 0, .int .u64 N, .slice none 0 0], .int .i64 nx, .int .i64 0]) ∧ Below w.heap.size w w' := by
  go_enter Try.func55, Try.ntmps55
  go_wp2_with fail
  refine HS.out.mono ?_
  rintro e w1 ⟨rfl, rfl⟩
  go_wp2
  exact bodyPost_ret (v := .tuple #[.agg #[.int .i64 num, .int .i64 0, .int .u64 N, .slice none 0 0], .int .i64 nx, .int .i64 0]) (by simp [results, Try.results55, go_sem]) rfl ⟨rfl, below2 _ _⟩

set_option maxHeartbeats 1000000 in
theorem restFix64No (a : Option Addr) (len cap : Nat) (w : World) (num : Int) (q : Nat) (N nx er : Int)
    (HS : Hid (Calls Try.prog 36 #[.slice a len cap, .int .i64 q, .int .i64 8] ((w.alloc (.cells #[.int .i64 0, .int .i64 0, .int .u64 0, .slice none 0 0] 45)).alloc (.cells #[.int .i64 num, .int .i64 1, .int .u64 0, .slice none 0 0] 45)) fun e w' => e = .returned (.tuple #[.int .u64 N, .int .i64 nx, .int .i64 er]) ∧ ((w.alloc (.cells #[.int .i64 0, .int .i64 0, .int .u64 0, .slice none 0 0] 45)).alloc (.cells #[.int .i64 num, .int .i64 1, .int .u64 0, .slice none 0 0] 45)) = w')) (he : (er != 0) = true) :
    Calls Try.prog 55 #[.slice a len cap, .int .i64 q, .int .i64 num, .int .i64 1] w fun e w' => e = .returned (.tuple #[.agg #[.int .i64 0, .int .i64 0, .int .u64 0, .slice none 0 0], .int .i64 0, .int .i64 er]) ∧ Below w.heap.size w w' := by
  go_enter Try.func55, Try.ntmps55
  go_wp2_with fail
  refine HS.out.mono ?_
  rintro e w1 ⟨rfl, rfl⟩
  go_wp2
  exact bodyPost_ret (v := .tuple #[.agg #[.int .i64 0, .int .i64 0, .int .u64 0, .slice none 0 0], .int .i64 0, .int .i64 er]) (by simp [results, Try.results55, go_sem]) rfl ⟨rfl, below2 _ _⟩
set_option maxHeartbeats 1000000 in
theorem restFix64Yes (a : Option Addr) (len cap : Nat) (w : World) (num : Int) (q : Nat) (N nx : Int)
    (HS : Hid (Calls Try.prog 36 #[.slice a len cap, .int .i64 q, .int .i64 8] ((w.alloc (.cells #[.int .i64 0, .int .i64 0, .int .u64 0, .slice none 0 0] 45)).alloc (.cells #[.int .i64 num, .int .i64 1, .int .u64 0, .slice none 0 0] 45)) fun e w' => e = .returned (.tuple #[.int .u64 N, .int .i64 nx, .int .i64 0]) ∧ ((w.alloc (.cells #[.int .i64 0, .int .i64 0, .int .u64 0, .slice none 0 0] 45)).alloc (.cells #[.int .i64 num, .int .i64 1, .int .u64 0, .slice none 0 0] 45)) = w')) :
    Calls Try.prog 55 #[.slice a len cap, .int .i64 q, .int .i64 num, .int .i64 1] w fun e w' => e = .returned (.tuple #[.agg #[.int .i64 num, .int .i64 1, .int .u64 N, .slice none 0 0], .int .i64 nx, .int .i64 0]) ∧ Below w.heap.size w w' := by
  go_enter Try.func55, Try.ntmps55
  go_wp2_with fail
  refine HS.out.mono ?_
  rintro e w1 ⟨rfl, rfl⟩
  go_wp2
  exact bodyPost_ret (v := .tuple #[.agg #[.int .i64 num, .int .i64 1, .int .u64 N, .slice none 0 0], .int .i64 nx, .int .i64 0]) (by simp [results, Try.results55, go_sem]) rfl ⟨rfl, below2 _ _⟩

set_option maxHeartbeats 1000000 in
theorem restFix32No (a : Option Addr) (len cap : Nat) (w : World) (num : Int) (q : Nat) (N nx er : Int)
    (HS : Hid (Calls Try.prog 36 #[.slice a len cap, .int .i64 q, .int .i64 4] ((w.alloc (.cells #[.int .i64 0, .int .i64 0, .int .u64 0, .slice none 0 0] 45)).alloc (.cells #[.int .i64 num, .int .i64 5, .int .u64 0, .slice none 0 0] 45)) fun e w' => e = .returned (.tuple #[.int .u64 N, .int .i64 nx, .int .i64 er]) ∧ ((w.alloc (.cells #[.int .i64 0, .int .i64 0, .int .u64 0, .slice none 0 0] 45)).alloc (.cells #[.int .i64 num, .int .i64 5, .int .u64 0, .slice none 0 0] 45)) = w')) (he : (er != 0) = true) :
    Calls Try.prog 55 #[.slice a len cap, .int .i64 q, .int .i64 num, .int .i64 5] w fun e w' => e = .returned (.tuple #[.agg #[.int .i64 0, .int .i64 0, .int .u64 0, .slice none 0 0], .int .i64 0, .int .i64 er]) ∧ Below w.heap.size w w' := by
  go_enter Try.func55, Try.ntmps55
  go_wp2_with fail
  refine HS.out.mono ?_
  rintro e w1 ⟨rfl, rfl⟩
  go_wp2
  exact bodyPost_ret (v := .tuple #[.agg #[.int .i64 0, .int .i64 0, .int .u64 0, .slice none 0 0], .int .i64 0, .int .i64 er]) (by simp [results, Try.results55, go_sem]) rfl ⟨rfl, below2 _ _⟩
set_option maxHeartbeats 1000000 in
theorem restFix32Yes (a : Option Addr) (len cap : Nat) (w : World) (num : Int) (q : Nat) (N nx : Int)
    (HS : Hid (Calls Try.prog 36 #[.slice a len cap, .int .i64 q, .int .i64 4] ((w.alloc (.cells #[.int .i64 0, .int .i64 0, .int .u64 0, .slice none 0 0] 45)).alloc (.cells #[.int .i64 num, .int .i64 5, .int .u64 0, .slice none 0 0] 45)) fun e w' => e = .returned (.tuple #[.int .u64 N, .int .i64 nx, .int .i64 0]) ∧ ((w.alloc (.cells #[.int .i64 0, .int .i64 0, .int .u64 0, .slice none 0 0] 45)).alloc (.cells #[.int .i64 num, .int .i64 5, .int .u64 0, .slice none 0 0] 45)) = w')) :
    Calls Try.prog 55 #[.slice a len cap, .int .i64 q, .int .i64 num, .int .i64 5] w fun e w' => e = .returned (.tuple #[.agg #[.int .i64 num, .int .i64 5, .int .u64 N, .slice none 0 0], .int .i64 nx, .int .i64 0]) ∧ Below w.heap.size w w' := by
  go_enter Try.func55, Try.ntmps55
  go_wp2_with fail
  refine HS.out.mono ?_
  rintro e w1 ⟨rfl, rfl⟩
  go_wp2
  exact bodyPost_ret (v := .tuple #[.agg #[.int .i64 num, .int .i64 5, .int .u64 N, .slice none 0 0], .int .i64 nx, .int .i64 0]) (by simp [results, Try.results55, go_sem]) rfl ⟨rfl, below2 _ _⟩

set_option maxHeartbeats 1000000 in
theorem restChunkNo (a : Option Addr) (len cap : Nat) (w : World) (num : Int) (q : Nat) (nx er : Int) (ys : List Int)
    (HS : Hid (Calls Try.prog 37 #[.slice a len cap, .int .i64 q] ((w.alloc (.cells #[.int .i64 0, .int .i64 0, .int .u64 0, .slice none 0 0] 45)).alloc (.cells #[.int .i64 num, .int .i64 2, .int .u64 0, .slice none 0 0] 45)) fun e w' => ∃ v, e = .returned (.tuple #[v, .int .i64 nx, .int .i64 er]) ∧ w'.ownsRow ((w.alloc (.cells #[.int .i64 0, .int .i64 0, .int .u64 0, .slice none 0 0] 45)).alloc (.cells #[.int .i64 num, .int .i64 2, .int .u64 0, .slice none 0 0] 45)).heap.size 5 1 v ys.length (ys.map (Value.int .u8)) ∧ Below ((w.alloc (.cells #[.int .i64 0, .int .i64 0, .int .u64 0, .slice none 0 0] 45)).alloc (.cells #[.int .i64 num, .int .i64 2, .int .u64 0, .slice none 0 0] 45)).heap.size ((w.alloc (.cells #[.int .i64 0, .int .i64 0, .int .u64 0, .slice none 0 0] 45)).alloc (.cells #[.int .i64 num, .int .i64 2, .int .u64 0, .slice none 0 0] 45)) w')) (he : (er != 0) = true) :
    Calls Try.prog 55 #[.slice a len cap, .int .i64 q, .int .i64 num, .int .i64 2] w fun e w' => e = .returned (.tuple #[.agg #[.int .i64 0, .int .i64 0, .int .u64 0, .slice none 0 0], .int .i64 0, .int .i64 er]) ∧ Below w.heap.size w w' := by
  go_enter Try.func55, Try.ntmps55
  go_wp2_with fail
  refine HS.out.mono ?_
  rintro e w2 ⟨v, rfl, ho, hb⟩
  obtain ⟨b2, c2, rfl⟩ := own_shape ho
  have f0 : ∀ o, w2.frozen? ⟨w.heap.size, o, none⟩ = false := fun o => by rw [hb.frozen (p := ⟨w.heap.size, o, none⟩) (lt2a _ _ _), World.frozen?_alloc_old _ _ _ (by simp), World.frozen?_alloc_at _ _ _ _ rfl]
  have f1 : ∀ o, w2.frozen? ⟨w.heap.size + 1, o, none⟩ = false := fun o => by rw [hb.frozen (p := ⟨w.heap.size + 1, o, none⟩) (lt2b _ _ _), World.frozen?_alloc_at _ _ _ _ (by simp)]
  have d0 : w2.cell? ⟨w.heap.size, 0, none⟩ = some (.int .i64 0) := by rw [hb.cell (p := ⟨w.heap.size, 0, none⟩) (lt2a _ _ _), World.cell?_alloc_past _ _ _ (by simp), World.cell?_alloc_at _ _ _ _ rfl]; rfl
  have d1 : w2.cell? ⟨w.heap.size, 1, none⟩ = some (.int .i64 0) := by rw [hb.cell (p := ⟨w.heap.size, 1, none⟩) (lt2a _ _ _), World.cell?_alloc_past _ _ _ (by simp), World.cell?_alloc_at _ _ _ _ rfl]; rfl
  have d2 : w2.cell? ⟨w.heap.size, 2, none⟩ = some (.int .u64 0) := by rw [hb.cell (p := ⟨w.heap.size, 2, none⟩) (lt2a _ _ _), World.cell?_alloc_past _ _ _ (by simp), World.cell?_alloc_at _ _ _ _ rfl]; rfl
  have d3 : w2.cell? ⟨w.heap.size, 3, none⟩ = some (.slice none 0 0) := by rw [hb.cell (p := ⟨w.heap.size, 3, none⟩) (lt2a _ _ _), World.cell?_alloc_past _ _ _ (by simp), World.cell?_alloc_at _ _ _ _ rfl]; rfl
  have e0 : w2.cell? ⟨w.heap.size + 1, 0, none⟩ = some (.int .i64 num) := by rw [hb.cell (p := ⟨w.heap.size + 1, 0, none⟩) (lt2b _ _ _), World.cell?_alloc_at _ _ _ _ (by simp)]; rfl
  have e1 : w2.cell? ⟨w.heap.size + 1, 1, none⟩ = some (.int .i64 2) := by rw [hb.cell (p := ⟨w.heap.size + 1, 1, none⟩) (lt2b _ _ _), World.cell?_alloc_at _ _ _ _ (by simp)]; rfl
  have e2 : w2.cell? ⟨w.heap.size + 1, 2, none⟩ = some (.int .u64 0) := by rw [hb.cell (p := ⟨w.heap.size + 1, 2, none⟩) (lt2b _ _ _), World.cell?_alloc_at _ _ _ _ (by simp)]; rfl
  have e3 : w2.cell? ⟨w.heap.size + 1, 3, none⟩ = some (.slice none 0 0) := by rw [hb.cell (p := ⟨w.heap.size + 1, 3, none⟩) (lt2b _ _ _), World.cell?_alloc_at _ _ _ _ (by simp)]; rfl
  have HB := hid hb
  have HO := hid ho
  clear hb ho
  go_wp2
  have hbel := (((((((below2 (w := w) (.cells #[.int .i64 0, .int .i64 0, .int .u64 0, .slice none 0 0] 45) (.cells #[.int .i64 num, .int .i64 2, .int .u64 0, .slice none 0 0] 45)).trans (HB.out.mono (Nat.le_of_lt (lt2a _ _ _)))).setCell (p := ⟨w.heap.size + 1, 3, none⟩) (by simp) (.slice b2 ys.length c2)).setCell (p := ⟨w.heap.size, 0, none⟩) (Nat.le_refl _) (.int .i64 0)).setCell (p := ⟨w.heap.size, 1, none⟩) (Nat.le_refl _) (.int .i64 0)).setCell (p := ⟨w.heap.size, 2, none⟩) (Nat.le_refl _) (.int .u64 0)).setCell (p := ⟨w.heap.size, 3, none⟩) (Nat.le_refl _) (.slice none 0 0))
  exact bodyPost_ret (v := .tuple #[.agg #[.int .i64 0, .int .i64 0, .int .u64 0, .slice none 0 0], .int .i64 0, .int .i64 er]) (by simp [results, Try.results55, go_sem, d0, d1, d2, d3]) rfl ⟨rfl, hbel⟩
set_option maxHeartbeats 1000000 in
theorem restChunkYes (a : Option Addr) (len cap : Nat) (w : World) (num : Int) (q : Nat) (nx : Int) (ys : List Int)
    (HS : Hid (Calls Try.prog 37 #[.slice a len cap, .int .i64 q] ((w.alloc (.cells #[.int .i64 0, .int .i64 0, .int .u64 0, .slice none 0 0] 45)).alloc (.cells #[.int .i64 num, .int .i64 2, .int .u64 0, .slice none 0 0] 45)) fun e w' => ∃ v, e = .returned (.tuple #[v, .int .i64 nx, .int .i64 0]) ∧ w'.ownsRow ((w.alloc (.cells #[.int .i64 0, .int .i64 0, .int .u64 0, .slice none 0 0] 45)).alloc (.cells #[.int .i64 num, .int .i64 2, .int .u64 0, .slice none 0 0] 45)).heap.size 5 1 v ys.length (ys.map (Value.int .u8)) ∧ Below ((w.alloc (.cells #[.int .i64 0, .int .i64 0, .int .u64 0, .slice none 0 0] 45)).alloc (.cells #[.int .i64 num, .int .i64 2, .int .u64 0, .slice none 0 0] 45)).heap.size ((w.alloc (.cells #[.int .i64 0, .int .i64 0, .int .u64 0, .slice none 0 0] 45)).alloc (.cells #[.int .i64 num, .int .i64 2, .int .u64 0, .slice none 0 0] 45)) w')) :
    Calls Try.prog 55 #[.slice a len cap, .int .i64 q, .int .i64 num, .int .i64 2] w fun e w' => ∃ v, e = .returned (.tuple #[.agg #[.int .i64 num, .int .i64 2, .int .u64 0, v], .int .i64 nx, .int .i64 0]) ∧ w'.ownsRow w.heap.size 5 1 v ys.length (ys.map (Value.int .u8)) ∧ Below w.heap.size w w' := by
  go_enter Try.func55, Try.ntmps55
  go_wp2_with fail
  refine HS.out.mono ?_
  rintro e w2 ⟨v, rfl, ho, hb⟩
  obtain ⟨b2, c2, rfl⟩ := own_shape ho
  have f0 : ∀ o, w2.frozen? ⟨w.heap.size, o, none⟩ = false := fun o => by rw [hb.frozen (p := ⟨w.heap.size, o, none⟩) (lt2a _ _ _), World.frozen?_alloc_old _ _ _ (by simp), World.frozen?_alloc_at _ _ _ _ rfl]
  have f1 : ∀ o, w2.frozen? ⟨w.heap.size + 1, o, none⟩ = false := fun o => by rw [hb.frozen (p := ⟨w.heap.size + 1, o, none⟩) (lt2b _ _ _), World.frozen?_alloc_at _ _ _ _ (by simp)]
  have d0 : w2.cell? ⟨w.heap.size, 0, none⟩ = some (.int .i64 0) := by rw [hb.cell (p := ⟨w.heap.size, 0, none⟩) (lt2a _ _ _), World.cell?_alloc_past _ _ _ (by simp), World.cell?_alloc_at _ _ _ _ rfl]; rfl
  have d1 : w2.cell? ⟨w.heap.size, 1, none⟩ = some (.int .i64 0) := by rw [hb.cell (p := ⟨w.heap.size, 1, none⟩) (lt2a _ _ _), World.cell?_alloc_past _ _ _ (by simp), World.cell?_alloc_at _ _ _ _ rfl]; rfl
  have d2 : w2.cell? ⟨w.heap.size, 2, none⟩ = some (.int .u64 0) := by rw [hb.cell (p := ⟨w.heap.size, 2, none⟩) (lt2a _ _ _), World.cell?_alloc_past _ _ _ (by simp), World.cell?_alloc_at _ _ _ _ rfl]; rfl
  have d3 : w2.cell? ⟨w.heap.size, 3, none⟩ = some (.slice none 0 0) := by rw [hb.cell (p := ⟨w.heap.size, 3, none⟩) (lt2a _ _ _), World.cell?_alloc_past _ _ _ (by simp), World.cell?_alloc_at _ _ _ _ rfl]; rfl
  have e0 : w2.cell? ⟨w.heap.size + 1, 0, none⟩ = some (.int .i64 num) := by rw [hb.cell (p := ⟨w.heap.size + 1, 0, none⟩) (lt2b _ _ _), World.cell?_alloc_at _ _ _ _ (by simp)]; rfl
  have e1 : w2.cell? ⟨w.heap.size + 1, 1, none⟩ = some (.int .i64 2) := by rw [hb.cell (p := ⟨w.heap.size + 1, 1, none⟩) (lt2b _ _ _), World.cell?_alloc_at _ _ _ _ (by simp)]; rfl
  have e2 : w2.cell? ⟨w.heap.size + 1, 2, none⟩ = some (.int .u64 0) := by rw [hb.cell (p := ⟨w.heap.size + 1, 2, none⟩) (lt2b _ _ _), World.cell?_alloc_at _ _ _ _ (by simp)]; rfl
  have e3 : w2.cell? ⟨w.heap.size + 1, 3, none⟩ = some (.slice none 0 0) := by rw [hb.cell (p := ⟨w.heap.size + 1, 3, none⟩) (lt2b _ _ _), World.cell?_alloc_at _ _ _ _ (by simp)]; rfl
  have HB := hid hb
  have HO := hid ho
  clear hb ho
  go_wp2
  have hbel := (((((((below2 (w := w) (.cells #[.int .i64 0, .int .i64 0, .int .u64 0, .slice none 0 0] 45) (.cells #[.int .i64 num, .int .i64 2, .int .u64 0, .slice none 0 0] 45)).trans (HB.out.mono (Nat.le_of_lt (lt2a _ _ _)))).setCell (p := ⟨w.heap.size + 1, 3, none⟩) (by simp) (.slice b2 ys.length c2)).setCell (p := ⟨w.heap.size, 0, none⟩) (Nat.le_refl _) (.int .i64 num)).setCell (p := ⟨w.heap.size, 1, none⟩) (Nat.le_refl _) (.int .i64 2)).setCell (p := ⟨w.heap.size, 2, none⟩) (Nat.le_refl _) (.int .u64 0)).setCell (p := ⟨w.heap.size, 3, none⟩) (Nat.le_refl _) (.slice b2 ys.length c2))
  have hown := (ownsRow_setCell_below (ownsRow_setCell_below (ownsRow_setCell_below (ownsRow_setCell_below (ownsRow_setCell_below HO.out (a := ⟨w.heap.size + 1, 3, none⟩) (lt2b _ _ _) (.slice b2 ys.length c2)) (a := ⟨w.heap.size, 0, none⟩) (lt2a _ _ _) (.int .i64 num)) (a := ⟨w.heap.size, 1, none⟩) (lt2a _ _ _) (.int .i64 2)) (a := ⟨w.heap.size, 2, none⟩) (lt2a _ _ _) (.int .u64 0)) (a := ⟨w.heap.size, 3, none⟩) (lt2a _ _ _) (.slice b2 ys.length c2))
  exact bodyPost_ret (v := .tuple #[.agg #[.int .i64 num, .int .i64 2, .int .u64 0, .slice b2 ys.length c2], .int .i64 nx, .int .i64 0]) (by simp [results, Try.results55, go_sem, d0, d1, d2, d3]) rfl ⟨_, rfl, own_mono hown (Nat.le_of_lt (lt2a _ _ _)), hbel⟩

theorem restR (a : Option Addr) (len cap : Nat) (xs : List Int) (w : World) (num kind : Int) (q : Nat) (h : Reads w a len cap xs) (hq : q ≤ len) (hreach : len ≤ 140737488355328) (ht : tf num kind = 0) :
    Calls Try.prog 55 #[.slice a len cap, .int .i64 q, .int .i64 num, .int .i64 kind] w fun e w' => ∃ v, e = .returned (.tuple #[.agg #[.int .i64 (restF xs num kind q).num, .int .i64 (restF xs num kind q).kind, .int .u64 (restF xs num kind q).n, v], .int .i64 (restF xs num kind q).next, .int .i64 (restF xs num kind q).err]) ∧ w'.ownsRow w.heap.size 5 1 v (restF xs num kind q).b.length ((restF xs num kind q).b.map (Value.int .u8)) ∧ Below w.heap.size w w' := by
  have hk : ∀ o o', Reads ((w.alloc o).alloc o') a len cap xs := fun o o' => reads_kept h (below2 o o')
  have fin : ∀ (e : Ending) (w' : World) (er : Int), (e = .returned (.tuple #[.agg #[.int .i64 0, .int .i64 0, .int .u64 0, .slice none 0 0], .int .i64 0, .int .i64 er]) ∧ Below w.heap.size w w') → ∃ v, e = .returned (.tuple #[.agg #[.int .i64 (Got.none er).num, .int .i64 (Got.none er).kind, .int .u64 (Got.none er).n, v], .int .i64 (Got.none er).next, .int .i64 (Got.none er).err]) ∧ w'.ownsRow w.heap.size 5 1 v (Got.none er).b.length ((Got.none er).b.map (Value.int .u8)) ∧ Below w.heap.size w w' :=
    fun e w' er h => ⟨_, h.1, World.ownsRow_nil _ _ _ _, h.2⟩
  unfold restF
  rcases okK_cases (tf_ok ht).2.2 with rfl | rfl | rfl | rfl
  · rw [if_neg (by decide), numF, if_pos rfl]
    have hS := getvR a len cap q xs _ (hk (.cells #[.int .i64 0, .int .i64 0, .int .u64 0, .slice none 0 0] 45) (.cells #[.int .i64 num, .int .i64 0, .int .u64 0, .slice none 0 0] 45)) hq
    generalize gv xs q = g at hS
    obtain ⟨N, nx, er⟩ := g
    cases he : (er != 0) with
    | true =>
      rw [ofNum_err (by exact he)]
      exact (restVarintNo a len cap w num q N nx er hS he).mono fun e w' h => fin e w' er h
    | false =>
      have he0 : er = 0 := by simpa using he
      subst he0
      rw [ofNum_ok (by rfl)]
      exact (restVarintYes a len cap w num q N nx hS).mono fun e w' h => ⟨_, h.1, World.ownsRow_nil _ _ _ _, h.2⟩
  · rw [if_neg (by decide), numF, if_neg (by decide), if_pos rfl]
    have hS := wordR a len cap q 8 xs _ (hk (.cells #[.int .i64 0, .int .i64 0, .int .u64 0, .slice none 0 0] 45) (.cells #[.int .i64 num, .int .i64 1, .int .u64 0, .slice none 0 0] 45)) hq (by decide) (by decide)
    generalize gw xs q 8 = g at hS
    obtain ⟨N, nx, er⟩ := g
    cases he : (er != 0) with
    | true =>
      rw [ofNum_err (by exact he)]
      exact (restFix64No a len cap w num q N nx er hS he).mono fun e w' h => fin e w' er h
    | false =>
      have he0 : er = 0 := by simpa using he
      subst he0
      rw [ofNum_ok (by rfl)]
      exact (restFix64Yes a len cap w num q N nx hS).mono fun e w' h => ⟨_, h.1, World.ownsRow_nil _ _ _ _, h.2⟩
  · rw [if_pos rfl]
    have hS := getChunkR a len cap q xs _ (hk (.cells #[.int .i64 0, .int .i64 0, .int .u64 0, .slice none 0 0] 45) (.cells #[.int .i64 num, .int .i64 2, .int .u64 0, .slice none 0 0] 45)) hq hreach
    generalize gc xs q = g at hS
    obtain ⟨ys, nx, er⟩ := g
    cases he : (er != 0) with
    | true =>
      rw [ofChunk_err (by exact he)]
      exact (restChunkNo a len cap w num q nx er ys hS he).mono fun e w' h => fin e w' er h
    | false =>
      have he0 : er = 0 := by simpa using he
      subst he0
      rw [ofChunk_ok (by rfl)]
      exact restChunkYes a len cap w num q nx ys hS
  · rw [if_neg (by decide), numF, if_neg (by decide), if_neg (by decide)]
    have hS := wordR a len cap q 4 xs _ (hk (.cells #[.int .i64 0, .int .i64 0, .int .u64 0, .slice none 0 0] 45) (.cells #[.int .i64 num, .int .i64 5, .int .u64 0, .slice none 0 0] 45)) hq (by decide) (by decide)
    generalize gw xs q 4 = g at hS
    obtain ⟨N, nx, er⟩ := g
    cases he : (er != 0) with
    | true =>
      rw [ofNum_err (by exact he)]
      exact (restFix32No a len cap w num q N nx er hS he).mono fun e w' h => fin e w' er h
    | false =>
      have he0 : er = 0 := by simpa using he
      subst he0
      rw [ofNum_ok (by rfl)]
      exact (restFix32Yes a len cap w num q N nx hS).mono fun e w' h => ⟨_, h.1, World.ownsRow_nil _ _ _ _, h.2⟩

set_option maxHeartbeats 1000000 in
theorem refEntryTagNo (a : Option Addr) (len cap p : Nat) (w : World) (num kind q er : Int)
    (HT : Hid (Calls Try.prog 39 #[.slice a len cap, .int .i64 p] (w.alloc (.cells #[.int .i64 0, .int .i64 0, .int .u64 0, .slice none 0 0] 45)) fun e w' => e = .returned (.tuple #[.int .i64 num, .int .i64 kind, .int .i64 q, .int .i64 er]) ∧ (w.alloc (.cells #[.int .i64 0, .int .i64 0, .int .u64 0, .slice none 0 0] 45)) = w')) (he : (er != 0) = true) :
    Calls Try.prog 43 #[.slice a len cap, .int .i64 p] w fun e w' => e = .returned (.tuple #[.agg #[.int .i64 0, .int .i64 0, .int .u64 0, .slice none 0 0], .int .i64 0, .int .i64 er]) ∧ Below w.heap.size w w' := by
  go_enter Try.func43, Try.ntmps43
  go_wp2_with fail
  refine HT.out.mono ?_
  rintro e w1 ⟨rfl, rfl⟩
  go_wp2
  exact bodyPost_ret (v := .tuple #[.agg #[.int .i64 0, .int .i64 0, .int .u64 0, .slice none 0 0], .int .i64 0, .int .i64 er]) (by simp [results, Try.results43, go_sem]) rfl ⟨rfl, below_alloc _⟩

set_option maxHeartbeats 1000000 in
theorem refEntryRest (a : Option Addr) (len cap p : Nat) (w : World) (num kind : Int) (q : Nat) (g : Got)
    (HT : Hid (Calls Try.prog 39 #[.slice a len cap, .int .i64 p] (w.alloc (.cells #[.int .i64 0, .int .i64 0, .int .u64 0, .slice none 0 0] 45)) fun e w' => e = .returned (.tuple #[.int .i64 num, .int .i64 kind, .int .i64 q, .int .i64 0]) ∧ (w.alloc (.cells #[.int .i64 0, .int .i64 0, .int .u64 0, .slice none 0 0] 45)) = w'))
    (HS : Hid (Calls Try.prog 55 #[.slice a len cap, .int .i64 q, .int .i64 num, .int .i64 kind] (w.alloc (.cells #[.int .i64 0, .int .i64 0, .int .u64 0, .slice none 0 0] 45)) fun e w' => ∃ v, e = .returned (.tuple #[.agg #[.int .i64 g.num, .int .i64 g.kind, .int .u64 g.n, v], .int .i64 g.next, .int .i64 g.err]) ∧ w'.ownsRow (w.alloc (.cells #[.int .i64 0, .int .i64 0, .int .u64 0, .slice none 0 0] 45)).heap.size 5 1 v g.b.length (g.b.map (Value.int .u8)) ∧ Below (w.alloc (.cells #[.int .i64 0, .int .i64 0, .int .u64 0, .slice none 0 0] 45)).heap.size (w.alloc (.cells #[.int .i64 0, .int .i64 0, .int .u64 0, .slice none 0 0] 45)) w')) :
    Calls Try.prog 43 #[.slice a len cap, .int .i64 p] w fun e w' => ∃ v, e = .returned (.tuple #[.agg #[.int .i64 g.num, .int .i64 g.kind, .int .u64 g.n, v], .int .i64 g.next, .int .i64 g.err]) ∧ w'.ownsRow w.heap.size 5 1 v g.b.length (g.b.map (Value.int .u8)) ∧ Below w.heap.size w w' := by
  obtain ⟨gnum, gkind, gn, ys, gnx, ger⟩ := g
  simp only [] at HS ⊢
  go_enter Try.func43, Try.ntmps43
  go_wp2_with fail
  refine HT.out.mono ?_
  rintro e w1 ⟨rfl, rfl⟩
  go_wp2_with fail
  refine HS.out.mono ?_
  rintro e w2 ⟨v, rfl, ho, hb⟩
  obtain ⟨b2, c2, rfl⟩ := own_shape ho
  have f0 : ∀ o, w2.frozen? ⟨w.heap.size, o, none⟩ = false := fun o => by rw [hb.frozen (p := ⟨w.heap.size, o, none⟩) (by simp), World.frozen?_alloc_at _ _ _ _ rfl]
  have d0 : w2.cell? ⟨w.heap.size, 0, none⟩ = some (.int .i64 0) := by rw [hb.cell (p := ⟨w.heap.size, 0, none⟩) (by simp), World.cell?_alloc_at _ _ _ _ rfl]; rfl
  have d1 : w2.cell? ⟨w.heap.size, 1, none⟩ = some (.int .i64 0) := by rw [hb.cell (p := ⟨w.heap.size, 1, none⟩) (by simp), World.cell?_alloc_at _ _ _ _ rfl]; rfl
  have d2 : w2.cell? ⟨w.heap.size, 2, none⟩ = some (.int .u64 0) := by rw [hb.cell (p := ⟨w.heap.size, 2, none⟩) (by simp), World.cell?_alloc_at _ _ _ _ rfl]; rfl
  have d3 : w2.cell? ⟨w.heap.size, 3, none⟩ = some (.slice none 0 0) := by rw [hb.cell (p := ⟨w.heap.size, 3, none⟩) (by simp), World.cell?_alloc_at _ _ _ _ rfl]; rfl
  have HB := hid hb
  have HO := hid ho
  clear hb ho
  go_wp2
  have hown := ownsRow_setCell_below (ownsRow_setCell_below (ownsRow_setCell_below (ownsRow_setCell_below HO.out (a := ⟨w.heap.size, 0, none⟩) (by simp) (.int .i64 gnum)) (a := ⟨w.heap.size, 1, none⟩) (by simp) (.int .i64 gkind)) (a := ⟨w.heap.size, 2, none⟩) (by simp) (.int .u64 gn)) (a := ⟨w.heap.size, 3, none⟩) (by simp) (.slice b2 ys.length c2)
  have hbel := (((((below_alloc (w := w) (.cells #[.int .i64 0, .int .i64 0, .int .u64 0, .slice none 0 0] 45)).trans (HB.out.mono (by simp))).setCell (p := ⟨w.heap.size, 0, none⟩) (Nat.le_refl _) (.int .i64 gnum)).setCell (p := ⟨w.heap.size, 1, none⟩) (Nat.le_refl _) (.int .i64 gkind)).setCell (p := ⟨w.heap.size, 2, none⟩) (Nat.le_refl _) (.int .u64 gn)).setCell (p := ⟨w.heap.size, 3, none⟩) (Nat.le_refl _) (.slice b2 ys.length c2)
  exact bodyPost_ret (v := .tuple #[.agg #[.int .i64 gnum, .int .i64 gkind, .int .u64 gn, .slice b2 ys.length c2], .int .i64 gnx, .int .i64 ger]) (by simp [results, Try.results43, go_sem, d0, d1, d2, d3]) rfl ⟨_, rfl, own_mono hown (by simp), hbel⟩

/-- The document's GetEntry likewise. -/
theorem getEntryR (a : Option Addr) (len cap p : Nat) (xs : List Int) (w : World) (h : Reads w a len cap xs) (hp : p ≤ len) (hreach : len ≤ 140737488355328) :
    Calls Try.prog 43 #[.slice a len cap, .int .i64 p] w fun e w' => ∃ v, e = .returned (.tuple #[.agg #[.int .i64 (ge xs p).num, .int .i64 (ge xs p).kind, .int .u64 (ge xs p).n, v], .int .i64 (ge xs p).next, .int .i64 (ge xs p).err]) ∧ w'.ownsRow w.heap.size 5 1 v (ge xs p).b.length ((ge xs p).b.map (Value.int .u8)) ∧ Below w.heap.size w w' := by
  have hk : ∀ o, Reads (w.alloc o) a len cap xs := fun o => reads_kept h (below_alloc o)
  have hT := getTagR a len cap p xs _ (hk (.cells #[.int .i64 0, .int .i64 0, .int .u64 0, .slice none 0 0] 45)) hp
  have hlen := h.length
  have hf := gt_facts (xs := xs) (p := p) (by omega)
  unfold ge
  generalize gt xs p = t at hT hf
  obtain ⟨num, kind, nx, er⟩ := t
  simp only [] at hT hf
  cases he : (er != 0) with
  | true =>
    rw [geF_err (by exact he)]
    exact (refEntryTagNo a len cap p w num kind nx er hT he).mono fun e w' h => ⟨_, h.1, World.ownsRow_nil _ _ _ _, h.2⟩
  | false =>
    have he0 : er = 0 := by simpa using he
    subst he0
    rw [geF_ok (by rfl)]
    obtain ⟨ht, h1, h2⟩ := hf rfl
    obtain ⟨q, rfl⟩ := Int.eq_ofNat_of_zero_le (show 0 ≤ nx by omega)
    simp only [Int.toNat_natCast]
    exact refEntryRest a len cap p w num kind q _ hT (restR a len cap xs _ num kind q (hk _) (by omega) hreach ht)
end Go.Proofs.Ytaedbgdjjnkloaa
