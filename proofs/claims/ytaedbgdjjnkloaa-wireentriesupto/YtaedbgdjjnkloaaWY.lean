/-
  The walk of the law WireKnown.
-/
import Derived.Test.YtaedbgdjjnkloaaWW
namespace Go.Proofs.Ytaedbgdjjnkloaa
open Go.RowKit

theorem cell_kept {w w' : World} {b o : Nat} {v : Value} (h : w.cell? ⟨b, o, none⟩ = some v) (hb : Below w.heap.size w w') : w'.cell? ⟨b, o, none⟩ = some v := by
  rw [hb.cell (p := ⟨b, o, none⟩) (World.block_lt_of_cell? _ _ h)]; exact h
theorem readsL_two (w : World) : ReadsL (w.alloc (.cells #[.int .i64 1, .int .i64 0, .int .u64 1, .slice none 0 0, .int .i64 2, .int .i64 2, .int .u64 0, .slice none 0 0] 45)) (some ⟨w.heap.size, 0, none⟩) 2 2 [⟨1, 0, 1, []⟩, ⟨2, 2, 0, []⟩] := by
  refine ⟨rfl, Nat.le_refl _, by decide, .inr ⟨w.heap.size, 0, rfl, fun i x hx => ?_⟩⟩
  match i, hx with
  | 0, hx =>
    cases hx
    exact ⟨none, 0, 0, by rw [World.cell?_alloc_at _ _ _ _ rfl]; rfl, by rw [World.cell?_alloc_at _ _ _ _ rfl]; rfl, by rw [World.cell?_alloc_at _ _ _ _ rfl]; rfl, by rw [World.cell?_alloc_at _ _ _ _ rfl]; rfl, reads_nil _, by decide, by decide⟩
  | 1, hx =>
    cases hx
    exact ⟨none, 0, 0, by rw [World.cell?_alloc_at _ _ _ _ rfl]; rfl, by rw [World.cell?_alloc_at _ _ _ _ rfl]; rfl, by rw [World.cell?_alloc_at _ _ _ _ rfl]; rfl, by rw [World.cell?_alloc_at _ _ _ _ rfl]; rfl, reads_nil _, by decide, by decide⟩
  | i + 2, hx => cases hx

set_option maxRecDepth 100000 in
set_option maxHeartbeats 8000000 in
theorem knownW (w : World) : Calls Try.prog 3 #[] w fun e w' => e = .returned (.bool true) ∧ Below w.heap.size w w' := by
  have hT := reads_kept (reads_lit w [255, 255, 255, 255, 255, 255, 255, 255, 255, 1] #[.int .u8 255, .int .u8 255, .int .u8 255, .int .u8 255, .int .u8 255, .int .u8 255, .int .u8 255, .int .u8 255, .int .u8 255, .int .u8 1] 10 rfl rfl (by decide) (by decide)) (below_alloc (.cells #[.int .u8 255, .int .u8 255, .int .u8 255, .int .u8 255, .int .u8 255, .int .u8 255, .int .u8 255, .int .u8 255, .int .u8 255, .int .u8 2] 5))
  have hO := reads_lit (w.alloc (.cells #[.int .u8 255, .int .u8 255, .int .u8 255, .int .u8 255, .int .u8 255, .int .u8 255, .int .u8 255, .int .u8 255, .int .u8 255, .int .u8 1] 5)) [255, 255, 255, 255, 255, 255, 255, 255, 255, 2] #[.int .u8 255, .int .u8 255, .int .u8 255, .int .u8 255, .int .u8 255, .int .u8 255, .int .u8 255, .int .u8 255, .int .u8 255, .int .u8 2] 10 rfl rfl (by decide) (by decide)
  rw [World.size_alloc] at hO
  have hb : Below w.heap.size w ((w.alloc (.cells #[.int .u8 255, .int .u8 255, .int .u8 255, .int .u8 255, .int .u8 255, .int .u8 255, .int .u8 255, .int .u8 255, .int .u8 255, .int .u8 1] 5)).alloc (.cells #[.int .u8 255, .int .u8 255, .int .u8 255, .int .u8 255, .int .u8 255, .int .u8 255, .int .u8 255, .int .u8 255, .int .u8 255, .int .u8 2] 5)) := below2 _ _
  go_enter Try.func3, Try.ntmps3
  go_wp2_with fail
  generalize (w.alloc (.cells #[.int .u8 255, .int .u8 255, .int .u8 255, .int .u8 255, .int .u8 255, .int .u8 255, .int .u8 255, .int .u8 255, .int .u8 255, .int .u8 1] 5)).alloc (.cells #[.int .u8 255, .int .u8 255, .int .u8 255, .int .u8 255, .int .u8 255, .int .u8 255, .int .u8 255, .int .u8 255, .int .u8 255, .int .u8 2] 5) = w0 at hT hO hb ⊢
  refine (awakeW _).mono ?_
  rintro e v1 ⟨rfl, hbL⟩
  have hT := reads_kept hT hbL
  have hO := reads_kept hO hbL
  have hb := below_trans hb hbL
  clear hbL
  go_wp2_with fail
  refine (k_put0 _).mono ?_
  rintro e v2 ⟨a1, c1, rfl, h1, hbL⟩
  have hT := reads_kept hT hbL
  have hO := reads_kept hO hbL
  have hb := below_trans hb hbL
  clear hbL
  go_wp2_with fail
  have hL := reads_lit v2 [0] #[.int .u8 0] 1 rfl rfl (by decide) (by decide)
  have hbL : Below v2.heap.size v2 (v2.alloc (.cells #[.int .u8 0] 5)) := below_alloc _
  generalize v2.alloc (.cells #[.int .u8 0] 5) = v3 at hL hbL ⊢
  have hT := reads_kept hT hbL
  have hO := reads_kept hO hbL
  have h1 := reads_kept h1 hbL
  have hb := below_trans hb hbL
  clear hbL
  refine (sameYes _ _ _ _ _ _ _ _ h1 hL).mono ?_
  rintro e u ⟨rfl, rfl⟩
  clear h1 hL
  go_wp2_with fail
  refine (k_putMax _).mono ?_
  rintro e v4 ⟨a1, c1, rfl, h1, hbL⟩
  have hT := reads_kept hT hbL
  have hO := reads_kept hO hbL
  have hb := below_trans hb hbL
  clear hbL
  go_wp2_with fail
  refine (sameYes _ _ _ _ _ _ _ _ h1 hT).mono ?_
  rintro e u ⟨rfl, rfl⟩
  clear h1 hT
  go_wp2_with fail
  refine (k_size _).mono ?_
  rintro e u ⟨rfl, rfl⟩
  go_wp2_with fail
  have hL := reads_lit v4 [128, 0] #[.int .u8 128, .int .u8 0] 2 rfl rfl (by decide) (by decide)
  have hbL : Below v4.heap.size v4 (v4.alloc (.cells #[.int .u8 128, .int .u8 0] 5)) := below_alloc _
  generalize v4.alloc (.cells #[.int .u8 128, .int .u8 0] 5) = v5 at hL hbL ⊢
  have hO := reads_kept hO hbL
  have hb := below_trans hb hbL
  clear hbL
  refine (readsTrue _ _ _ 0 [128, 0] 0 2 0 _ hL (by decide) (by decide)).mono ?_
  rintro e u ⟨rfl, rfl⟩
  clear hL
  go_wp2_with fail
  refine (readsTrue _ _ _ 0 [255, 255, 255, 255, 255, 255, 255, 255, 255, 2] 0 0 4 _ hO (by decide) (by decide)).mono ?_
  rintro e u ⟨rfl, rfl⟩
  clear hO
  go_wp2_with fail
  have hL := reads_lit v5 [128] #[.int .u8 128] 1 rfl rfl (by decide) (by decide)
  have hbL : Below v5.heap.size v5 (v5.alloc (.cells #[.int .u8 128] 5)) := below_alloc _
  generalize v5.alloc (.cells #[.int .u8 128] 5) = v6 at hL hbL ⊢
  have hb := below_trans hb hbL
  clear hbL
  refine (readsTrue _ _ _ 0 [128] 0 0 3 _ hL (by decide) (by decide)).mono ?_
  rintro e u ⟨rfl, rfl⟩
  clear hL
  go_wp2_with fail
  have hL := reads_lit v6 [1] #[.int .u8 1] 1 rfl rfl (by decide) (by decide)
  have hbL : Below v6.heap.size v6 (v6.alloc (.cells #[.int .u8 1] 5)) := below_alloc _
  generalize v6.alloc (.cells #[.int .u8 1] 5) = v7 at hL hbL ⊢
  have hb := below_trans hb hbL
  clear hbL
  refine (readsTrue _ _ _ 1 [1] 0 0 3 _ hL (by decide) (by decide)).mono ?_
  rintro e u ⟨rfl, rfl⟩
  clear hL
  go_wp2_with fail
  have hL := reads_lit v7 [1] #[.int .u8 1] 1 rfl rfl (by decide) (by decide)
  have hbL : Below v7.heap.size v7 (v7.alloc (.cells #[.int .u8 1] 5)) := below_alloc _
  generalize v7.alloc (.cells #[.int .u8 1] 5) = v8 at hL hbL ⊢
  have hb := below_trans hb hbL
  clear hbL
  refine (readsOut _ _ _ 2 _ (by decide) (by decide)).mono ?_
  rintro e u ⟨rfl, rfl⟩
  clear hL
  go_wp2_with fail
  refine (k_zig1 _).mono ?_
  rintro e u ⟨rfl, rfl⟩
  go_wp2_with fail
  refine (k_zig2 _).mono ?_
  rintro e u ⟨rfl, rfl⟩
  go_wp2_with fail
  refine (k_zig3 _).mono ?_
  rintro e u ⟨rfl, rfl⟩
  go_wp2_with fail
  refine (k_zag _).mono ?_
  rintro e u ⟨rfl, rfl⟩
  go_wp2_with fail
  refine (k_fix258 _).mono ?_
  rintro e v9 ⟨a1, c1, rfl, h1, hbL⟩
  have hb := below_trans hb hbL
  clear hbL
  go_wp2_with fail
  have hL := reads_lit v9 [2, 1, 0, 0] #[.int .u8 2, .int .u8 1, .int .u8 0, .int .u8 0] 4 rfl rfl (by decide) (by decide)
  have hbL : Below v9.heap.size v9 (v9.alloc (.cells #[.int .u8 2, .int .u8 1, .int .u8 0, .int .u8 0] 5)) := below_alloc _
  generalize v9.alloc (.cells #[.int .u8 2, .int .u8 1, .int .u8 0, .int .u8 0] 5) = v10 at hL hbL ⊢
  have h1 := reads_kept h1 hbL
  have hb := below_trans hb hbL
  clear hbL
  refine (sameYes _ _ _ _ _ _ _ _ h1 hL).mono ?_
  rintro e u ⟨rfl, rfl⟩
  clear h1 hL
  go_wp2_with fail
  have hL := reads_lit v10 [1, 0, 0] #[.int .u8 1, .int .u8 0, .int .u8 0] 3 rfl rfl (by decide) (by decide)
  have hbL : Below v10.heap.size v10 (v10.alloc (.cells #[.int .u8 1, .int .u8 0, .int .u8 0] 5)) := below_alloc _
  generalize v10.alloc (.cells #[.int .u8 1, .int .u8 0, .int .u8 0] 5) = v11 at hL hbL ⊢
  have hb := below_trans hb hbL
  clear hbL
  refine (k_fix _ _ _ hL).mono ?_
  rintro e u ⟨rfl, rfl⟩
  clear hL
  go_wp2_with fail
  have hL := reads_lit v11 [2, 7] #[.int .u8 2, .int .u8 7] 2 rfl rfl (by decide) (by decide)
  have hbL : Below v11.heap.size v11 (v11.alloc (.cells #[.int .u8 2, .int .u8 7] 5)) := below_alloc _
  generalize v11.alloc (.cells #[.int .u8 2, .int .u8 7] 5) = v12 at hL hbL ⊢
  have hb := below_trans hb hbL
  clear hbL
  refine (k_chunk _ _ _ hL).mono ?_
  rintro e v13 ⟨a1, c1, rfl, h1, hbL⟩
  have hL := reads_kept hL hbL
  have hb := below_trans hb hbL
  clear hbL
  clear h1 hL
  go_wp2_with fail
  have hL := reads_lit v13 [7] #[.int .u8 7] 1 rfl rfl (by decide) (by decide)
  have hbL : Below v13.heap.size v13 (v13.alloc (.cells #[.int .u8 7] 5)) := below_alloc _
  generalize v13.alloc (.cells #[.int .u8 7] 5) = v14 at hL hbL ⊢
  have hb := below_trans hb hbL
  clear hbL
  refine (k_putChunk _ _ _ hL).mono ?_
  rintro e v15 ⟨a1, c1, rfl, h1, hbL⟩
  have hL := reads_kept hL hbL
  have hb := below_trans hb hbL
  clear hbL
  clear hL
  go_wp2_with fail
  have hL := reads_lit v15 [1, 7] #[.int .u8 1, .int .u8 7] 2 rfl rfl (by decide) (by decide)
  have hbL : Below v15.heap.size v15 (v15.alloc (.cells #[.int .u8 1, .int .u8 7] 5)) := below_alloc _
  generalize v15.alloc (.cells #[.int .u8 1, .int .u8 7] 5) = v16 at hL hbL ⊢
  have h1 := reads_kept h1 hbL
  have hb := below_trans hb hbL
  clear hbL
  refine (sameYes _ _ _ _ _ _ _ _ h1 hL).mono ?_
  rintro e u ⟨rfl, rfl⟩
  clear h1 hL
  go_wp2_with fail
  refine (k_tag1 _).mono ?_
  rintro e v17 ⟨at1, ct1, rfl, ht1, hbL⟩
  have hb := below_trans hb hbL
  clear hbL
  go_wp2_with fail
  refine (k_tag2 _).mono ?_
  rintro e v18 ⟨a2, c2, rfl, h2, hbL⟩
  have ht1 := reads_kept ht1 hbL
  have hb := below_trans hb hbL
  clear hbL
  clear h2
  go_wp2_with fail
  refine (k_tag3 _).mono ?_
  rintro e v19 ⟨a2, c2, rfl, h2, hbL⟩
  have ht1 := reads_kept ht1 hbL
  have hb := below_trans hb hbL
  clear hbL
  clear h2
  go_wp2_with fail
  have hL := reads_lit v19 [11] #[.int .u8 11] 1 rfl rfl (by decide) (by decide)
  have hbL : Below v19.heap.size v19 (v19.alloc (.cells #[.int .u8 11] 5)) := below_alloc _
  generalize v19.alloc (.cells #[.int .u8 11] 5) = v20 at hL hbL ⊢
  have ht1 := reads_kept ht1 hbL
  have hb := below_trans hb hbL
  clear hbL
  refine (k_getTag1 _ _ _ hL).mono ?_
  rintro e u ⟨rfl, rfl⟩
  clear hL
  go_wp2_with fail
  have hL := reads_lit v20 [0] #[.int .u8 0] 1 rfl rfl (by decide) (by decide)
  have hbL : Below v20.heap.size v20 (v20.alloc (.cells #[.int .u8 0] 5)) := below_alloc _
  generalize v20.alloc (.cells #[.int .u8 0] 5) = v21 at hL hbL ⊢
  have ht1 := reads_kept ht1 hbL
  have hb := below_trans hb hbL
  clear hbL
  refine (k_getTag2 _ _ _ hL).mono ?_
  rintro e u ⟨rfl, rfl⟩
  clear hL
  go_wp2_with fail
  have hL := reads_lit v21 [10] #[.int .u8 10] 1 rfl rfl (by decide) (by decide)
  have hbL : Below v21.heap.size v21 (v21.alloc (.cells #[.int .u8 10] 5)) := below_alloc _
  generalize v21.alloc (.cells #[.int .u8 10] 5) = v22 at hL hbL ⊢
  have ht1 := reads_kept ht1 hbL
  have hb := below_trans hb hbL
  clear hbL
  refine (sameYes _ _ _ _ _ _ _ _ ht1 hL).mono ?_
  rintro e u ⟨rfl, rfl⟩
  clear ht1 hL
  go_wp2_with fail
  refine (k_putEntry _).mono ?_
  rintro e v23 ⟨ae, ce, rfl, he, hbL⟩
  have hb := below_trans hb hbL
  clear hbL
  go_wp2_with fail
  have hL := reads_lit v23 [18, 1, 9, 8] #[.int .u8 18, .int .u8 1, .int .u8 9, .int .u8 8] 4 rfl rfl (by decide) (by decide)
  have hbL : Below v23.heap.size v23 (v23.alloc (.cells #[.int .u8 18, .int .u8 1, .int .u8 9, .int .u8 8] 5)) := below_alloc _
  generalize v23.alloc (.cells #[.int .u8 18, .int .u8 1, .int .u8 9, .int .u8 8] 5) = v24 at hL hbL ⊢
  have he := reads_kept he hbL
  have hb := below_trans hb hbL
  clear hbL
  refine (k_getEntry _ _ _ hL).mono ?_
  rintro e v25 ⟨vx, rfl, hx, hbL⟩
  have he := reads_kept he hbL
  have hL := reads_kept hL hbL
  have hb := below_trans hb hbL
  clear hbL
  clear hL
  obtain ⟨xa, xc, exv, hxr⟩ := own_reads hx (by decide)
  subst exv
  clear hx
  go_wp2_with fail
  have hL := reads_lit (v25.alloc (.cells #[.int .i64 2, .int .i64 2, .int .u64 0, .slice xa 1 xc] 45)) [8, 1, 18, 0] #[.int .u8 8, .int .u8 1, .int .u8 18, .int .u8 0] 4 rfl rfl (by decide) (by decide)
  rw [World.size_alloc] at hL
  have hbL : Below v25.heap.size v25 ((v25.alloc (.cells #[.int .i64 2, .int .i64 2, .int .u64 0, .slice xa 1 xc] 45)).alloc (.cells #[.int .u8 8, .int .u8 1, .int .u8 18, .int .u8 0] 5)) := below2 _ _
  have x0 : ((v25.alloc (.cells #[.int .i64 2, .int .i64 2, .int .u64 0, .slice xa 1 xc] 45)).alloc (.cells #[.int .u8 8, .int .u8 1, .int .u8 18, .int .u8 0] 5)).cell? ⟨v25.heap.size, 0, none⟩ = some (.int .i64 2) := by rw [World.cell?_alloc_past _ _ _ (by simp), World.cell?_alloc_at _ _ _ _ rfl]; rfl
  have x1 : ((v25.alloc (.cells #[.int .i64 2, .int .i64 2, .int .u64 0, .slice xa 1 xc] 45)).alloc (.cells #[.int .u8 8, .int .u8 1, .int .u8 18, .int .u8 0] 5)).cell? ⟨v25.heap.size, 1, none⟩ = some (.int .i64 2) := by rw [World.cell?_alloc_past _ _ _ (by simp), World.cell?_alloc_at _ _ _ _ rfl]; rfl
  have x2 : ((v25.alloc (.cells #[.int .i64 2, .int .i64 2, .int .u64 0, .slice xa 1 xc] 45)).alloc (.cells #[.int .u8 8, .int .u8 1, .int .u8 18, .int .u8 0] 5)).cell? ⟨v25.heap.size, 2, none⟩ = some (.int .u64 0) := by rw [World.cell?_alloc_past _ _ _ (by simp), World.cell?_alloc_at _ _ _ _ rfl]; rfl
  have x3 : ((v25.alloc (.cells #[.int .i64 2, .int .i64 2, .int .u64 0, .slice xa 1 xc] 45)).alloc (.cells #[.int .u8 8, .int .u8 1, .int .u8 18, .int .u8 0] 5)).cell? ⟨v25.heap.size, 3, none⟩ = some (.slice xa 1 xc) := by rw [World.cell?_alloc_past _ _ _ (by simp), World.cell?_alloc_at _ _ _ _ rfl]; rfl
  generalize (v25.alloc (.cells #[.int .i64 2, .int .i64 2, .int .u64 0, .slice xa 1 xc] 45)).alloc (.cells #[.int .u8 8, .int .u8 1, .int .u8 18, .int .u8 0] 5) = v26 at hL hbL x0 x1 x2 x3 ⊢
  have he := reads_kept he hbL
  have hxr := reads_kept hxr hbL
  have hb := below_trans hb hbL
  clear hbL
  refine (k_split1 _ _ _ hL).mono ?_
  rintro e v27 ⟨al, cl, rfl, hl, hbL⟩
  have x0 := cell_kept x0 hbL
  have x1 := cell_kept x1 hbL
  have x2 := cell_kept x2 hbL
  have x3 := cell_kept x3 hbL
  have he := reads_kept he hbL
  have hxr := reads_kept hxr hbL
  have hL := reads_kept hL hbL
  have hb := below_trans hb hbL
  clear hbL
  clear hL
  go_wp2_with fail
  have hL := reads_lit v27 [8] #[.int .u8 8] 1 rfl rfl (by decide) (by decide)
  have hbL : Below v27.heap.size v27 (v27.alloc (.cells #[.int .u8 8] 5)) := below_alloc _
  generalize v27.alloc (.cells #[.int .u8 8] 5) = v28 at hL hbL ⊢
  have x0 := cell_kept x0 hbL
  have x1 := cell_kept x1 hbL
  have x2 := cell_kept x2 hbL
  have x3 := cell_kept x3 hbL
  have he := reads_kept he hbL
  have hxr := reads_kept hxr hbL
  have hl := readsL_kept hl hbL
  have hb := below_trans hb hbL
  clear hbL
  refine (k_split2 _ _ _ hL).mono ?_
  rintro e v29 ⟨a3, c3, rfl, h3, hbL⟩
  have x0 := cell_kept x0 hbL
  have x1 := cell_kept x1 hbL
  have x2 := cell_kept x2 hbL
  have x3 := cell_kept x3 hbL
  have he := reads_kept he hbL
  have hxr := reads_kept hxr hbL
  have hL := reads_kept hL hbL
  have hl := readsL_kept hl hbL
  have hb := below_trans hb hbL
  clear hbL
  clear h3
  clear hL
  go_wp2_with fail
  have hL := reads_lit v29 [8, 5] #[.int .u8 8, .int .u8 5] 2 rfl rfl (by decide) (by decide)
  have hbL : Below v29.heap.size v29 (v29.alloc (.cells #[.int .u8 8, .int .u8 5] 5)) := below_alloc _
  generalize v29.alloc (.cells #[.int .u8 8, .int .u8 5] 5) = v30 at hL hbL ⊢
  have x0 := cell_kept x0 hbL
  have x1 := cell_kept x1 hbL
  have x2 := cell_kept x2 hbL
  have x3 := cell_kept x3 hbL
  have he := reads_kept he hbL
  have hxr := reads_kept hxr hbL
  have hl := readsL_kept hl hbL
  have hb := below_trans hb hbL
  clear hbL
  refine (sameYes _ _ _ _ _ _ _ _ he hL).mono ?_
  rintro e u ⟨rfl, rfl⟩
  clear he hL
  go_wp2_with fail
  have hL := reads_lit v30 [9] #[.int .u8 9] 1 rfl rfl (by decide) (by decide)
  have hbL : Below v30.heap.size v30 (v30.alloc (.cells #[.int .u8 9] 5)) := below_alloc _
  generalize v30.alloc (.cells #[.int .u8 9] 5) = v31 at hL hbL ⊢
  have x0 := cell_kept x0 hbL
  have x1 := cell_kept x1 hbL
  have x2 := cell_kept x2 hbL
  have x3 := cell_kept x3 hbL
  have hxr := reads_kept hxr hbL
  have hl := readsL_kept hl hbL
  have hb := below_trans hb hbL
  clear hbL
  refine (sameEntW 2 2 0 [9] _ _ _ _ _ _ _ hxr hL).mono ?_
  rintro e v32 ⟨rfl, hbL⟩
  have x0 := cell_kept x0 hbL
  have x1 := cell_kept x1 hbL
  have x2 := cell_kept x2 hbL
  have x3 := cell_kept x3 hbL
  have hxr := reads_kept hxr hbL
  have hL := reads_kept hL hbL
  have hl := readsL_kept hl hbL
  have hb := below_trans hb hbL
  clear hbL
  clear hxr hL
  clear x0 x1 x2 x3
  go_wp2_with fail
  have hLL := readsL_two v32
  have hbL : Below v32.heap.size v32 (v32.alloc (.cells #[.int .i64 1, .int .i64 0, .int .u64 1, .slice none 0 0, .int .i64 2, .int .i64 2, .int .u64 0, .slice none 0 0] 45)) := below_alloc _
  generalize v32.alloc (.cells #[.int .i64 1, .int .i64 0, .int .u64 1, .slice none 0 0, .int .i64 2, .int .i64 2, .int .u64 0, .slice none 0 0] 45) = v33 at hLL hbL ⊢
  have hl := readsL_kept hl hbL
  have hb := below_trans hb hbL
  clear hbL
  refine (listYes _ _ _ _ _ _ _ _ hl hLL).mono ?_
  rintro e v34 ⟨rfl, hbL⟩
  have hl := readsL_kept hl hbL
  have hLL := readsL_kept hLL hbL
  have hb := below_trans hb hbL
  clear hbL
  go_wp2
  go_ret
  exact ⟨rfl, hb⟩
end Go.Proofs.Ytaedbgdjjnkloaa
