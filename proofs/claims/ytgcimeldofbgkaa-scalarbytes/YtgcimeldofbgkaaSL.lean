/-
  Get: the document's walk over chunks; as a whole.
-/
import Derived.Test.YtgcimeldofbgkaaSK
namespace Go.Proofs.Ytgcimeldofbgkaa
open Go.RowKit
set_option maxRecDepth 1000000
set_option maxHeartbeats 4000000

/-- Two values' own cells, wherever new blocks came behind them. -/
theorem two_cells {w w2 : World} {x y z x' y' z' : Value} (hb : Below ((w.alloc (.cells #[x, y, z] 26)).alloc (.cells #[x', y', z'] 26)).heap.size ((w.alloc (.cells #[x, y, z] 26)).alloc (.cells #[x', y', z'] 26)) w2) :
    (w2.cell? ⟨w.heap.size, 0, none⟩ = some x ∧ w2.cell? ⟨w.heap.size, 1, none⟩ = some y ∧ w2.cell? ⟨w.heap.size, 2, none⟩ = some z) ∧ (w2.cell? ⟨w.heap.size + 1, 0, none⟩ = some x' ∧ w2.cell? ⟨w.heap.size + 1, 1, none⟩ = some y' ∧ w2.cell? ⟨w.heap.size + 1, 2, none⟩ = some z') ∧ (∀ o, w2.frozen? ⟨w.heap.size, o, none⟩ = false) ∧ (∀ o, w2.frozen? ⟨w.heap.size + 1, o, none⟩ = false) ∧ w.heap.size + 1 < w2.heap.size ∧ Below w.heap.size w w2 := by
  have hs : w.heap.size + 1 < w2.heap.size := by have := hb.size; simp at this; omega
  have h0 : Below (w.alloc (.cells #[x, y, z] 26)).heap.size (w.alloc (.cells #[x, y, z] 26)) w2 := (below_alloc _).trans (hb.mono (by simp))
  have h1 := vcells (w := w.alloc (.cells #[x, y, z] 26)) hb
  have h2 := froz (w := w.alloc (.cells #[x, y, z] 26)) hb
  simp only [World.size_alloc] at h1 h2
  exact ⟨vcells h0, h1, froz h0, h2, hs, below_trans (below_alloc _) h0⟩
section
variable (k nx er : Int) (a : Option Addr) (len cap p : Nat) (w : World) (ys : List Int)
theorem refRow (hk : k = 14 ∨ k = 15) (hys : ∀ x ∈ ys, 0 ≤ x ∧ x ≤ 255) (hyl : ys.length ≤ 140737488355328)
    (HG : ∀ W : World, Below w.heap.size w W → Calls Try.prog 48 #[.slice a len cap, .int .i64 p] W fun e w' => ∃ v, e = .returned (.tuple #[v, .int .i64 nx, .int .i64 er]) ∧ w'.ownsRow W.heap.size 5 1 v ys.length (ys.map (Value.int .u8)) ∧ Below W.heap.size W w') :
    Calls Try.prog 24 #[.int .i64 k, .slice a len cap, .int .i64 p] w fun e w' => Gave w (if er ≠ 0 then .none er else if k = 14 ∧ rn ys < 0 then .none 8 else ⟨0, ys, nx, 0⟩) e w' := by
  have HN := hid HG
  clear HG
  have HW : Hid (∀ W : World, Calls Try.prog 16 #[.int .i64 k] W fun e w' => e = .returned (.int .i64 2) ∧ W = w') := by
    rcases hk with rfl | rfl
    · exact hid (fun W => wireKR 14 W)
    · exact hid (fun W => wireKR 15 W)
  by_cases he : er = 0
  · subst he
    rw [if_neg (by simp)]
    have HV := hid (fun (b2 : Option Addr) (c2 : Nat) (W : World) (hr : Reads W b2 ys.length c2 ys) => validR b2 ys.length c2 W ys hr hyl)
    by_cases hbad : k = 14 ∧ rn ys < 0
    · rw [if_pos hbad]
      obtain ⟨rfl, hr⟩ := hbad
      have e : decide (0 ≤ rn ys) = false := by simpa using hr
      rw [e] at HV
      clear hk hr e
      go_enter Try.func24, Try.ntmps24
      go_wp2_with (first | (go_at_call 16; refine (HW.out _).mono ?_; rintro e w' ⟨rfl, rfl⟩) | (go_at_call 48; refine (HN.out _ (below_two _ _)).mono ?_; rintro e w2 ⟨v, rfl, ho, hb2⟩; obtain ⟨b2, c2, rfl⟩ := own_shape ho; obtain ⟨⟨d0, d1, d2⟩, ⟨f0, f1, f2⟩, hfz, hfz2, hgr, hbel⟩ := two_cells hb2; replace hb2 := hid hb2; replace ho := hid ho; replace hbel := hid hbel) | (go_at_call 39; refine (HV.out b2 c2 _ (own_reads' ho.out hys)).mono ?_; rintro e w' ⟨rfl, rfl⟩))
      exact bodyPost_ret (v := .tuple #[.agg #[.int .u64 0, .slice none 0 0, .slice none 0 0], .int .i64 0, .int .i64 8]) (by simp [results, Try.results24, go_sem, d0, d1, d2]) rfl (gave_err rfl (below_set3 hbel.out _ _ _))
    · rw [if_neg hbad]
      have HV2 : Hid (k = 14 → decide (0 ≤ rn ys) = true) := hid (fun hk => by simp; omega)
      clear hbad
      rcases hk with rfl | rfl
      · rw [HV2.out rfl] at HV
        clear HV2
        go_enter Try.func24, Try.ntmps24
        go_wp2_with (first | (go_at_call 16; refine (HW.out _).mono ?_; rintro e w' ⟨rfl, rfl⟩) | (go_at_call 48; refine (HN.out _ (below_two _ _)).mono ?_; rintro e w2 ⟨v, rfl, ho, hb2⟩; obtain ⟨b2, c2, rfl⟩ := own_shape ho; obtain ⟨⟨d0, d1, d2⟩, ⟨f0, f1, f2⟩, hfz, hfz2, hgr, hbel⟩ := two_cells hb2; replace hb2 := hid hb2; replace ho := hid ho; replace hbel := hid hbel) | (go_at_call 39; refine (HV.out b2 c2 _ (own_reads' ho.out hys)).mono ?_; rintro e w' ⟨rfl, rfl⟩))
        have hown := own_set3 ho.out (b := w.heap.size) (by simp; omega) (.int .u64 0) (.slice b2 ys.length c2) (.slice none 0 0)
        exact bodyPost_ret (v := .tuple #[.agg #[.int .u64 0, .slice b2 ys.length c2, .slice none 0 0], .int .i64 nx, .int .i64 0]) (by simp [results, Try.results24, go_sem, d0, d1, d2]) rfl (gave_row rfl (own_reads' hown hys) (below_set3 hbel.out _ _ _))
      · clear HV2
        go_enter Try.func24, Try.ntmps24
        go_wp2_with (first | (go_at_call 16; refine (HW.out _).mono ?_; rintro e w' ⟨rfl, rfl⟩) | (go_at_call 48; refine (HN.out _ (below_two _ _)).mono ?_; rintro e w2 ⟨v, rfl, ho, hb2⟩; obtain ⟨b2, c2, rfl⟩ := own_shape ho; obtain ⟨⟨d0, d1, d2⟩, ⟨f0, f1, f2⟩, hfz, hfz2, hgr, hbel⟩ := two_cells hb2; replace hb2 := hid hb2; replace ho := hid ho; replace hbel := hid hbel) | (go_at_call 39; refine (HV.out b2 c2 _ (own_reads' ho.out hys)).mono ?_; rintro e w' ⟨rfl, rfl⟩))
        have hown := own_set3 ho.out (b := w.heap.size) (by simp; omega) (.int .u64 0) (.slice b2 ys.length c2) (.slice none 0 0)
        exact bodyPost_ret (v := .tuple #[.agg #[.int .u64 0, .slice b2 ys.length c2, .slice none 0 0], .int .i64 nx, .int .i64 0]) (by simp [results, Try.results24, go_sem, d0, d1, d2]) rfl (gave_row rfl (own_reads' hown hys) (below_set3 hbel.out _ _ _))
  · rw [if_pos he]
    have hne : (er != 0) = true := by simpa using he
    clear he
    rcases hk with rfl | rfl
    all_goals
      go_enter Try.func24, Try.ntmps24
      go_wp2_with (first | (go_at_call 16; refine (HW.out _).mono ?_; rintro e w' ⟨rfl, rfl⟩) | (go_at_call 48; refine (HN.out _ (below_two _ _)).mono ?_; rintro e w2 ⟨v, rfl, ho, hb2⟩; obtain ⟨b2, c2, rfl⟩ := own_shape ho; obtain ⟨⟨d0, d1, d2⟩, ⟨f0, f1, f2⟩, hfz, hfz2, hgr, hbel⟩ := two_cells hb2; replace hb2 := hid hb2; replace ho := hid ho; replace hbel := hid hbel))
      exact bodyPost_ret (v := .tuple #[.agg #[.int .u64 0, .slice none 0 0, .slice none 0 0], .int .i64 0, .int .i64 er]) (by simp [results, Try.results24, go_sem, d0, d1, d2]) rfl (gave_err rfl (below_set3 hbel.out _ _ _))
end
theorem gc_len {xs : List Int} (p : Nat) : (gc xs p).1.length ≤ xs.length := by
  unfold gc gcF
  split
  · simp
  · split
    · simp
    · simp; omega
theorem gave_eq {w w' : World} {g g' : GotV} {e : Ending} (h : Gave w g e w') (hg : g = g') : Gave w g' e w' := by subst hg; exact h
theorem getKR (k : Int) (a : Option Addr) (len cap q : Nat) (xs : List Int) (w : World) (h : Reads w a len cap xs) (hq : q ≤ len) (hk : kone k = true) (hreach : len ≤ 140737488355328) :
    Calls Try.prog 24 #[.int .i64 k, .slice a len cap, .int .i64 q] w fun e w' => Gave w (getV k xs q) e w' := by
  have hlen := h.length
  by_cases h45 : k = 14 ∨ k = 15
  · have := refRow k (gc xs q).2.1 (gc xs q).2.2 a len cap q w (gc xs q).1 h45 (gc_bd (bd_mem h.bd) q) (by have := gc_len (xs := xs) q; omega) (fun W hW => getChunkR a len cap q xs W (reads_kept h hW) hq hreach)
    refine this.mono fun e w' hg => gave_eq hg ?_
    unfold getV
    rw [if_pos h45]
  · have hv := gv_bd (bd_mem h.bd) q
    have h4 := gw_bd (bd_mem h.bd) q
    have h8 : 0 ≤ (gw xs q 8).1 ∧ (gw xs q 8).1 < 18446744073709551616 := getN_bd (k := 9) (bd_mem h.bd) q
    have HV := fun (W : World) (hW : Below w.heap.size w W) => getvR a len cap q xs W (reads_kept h hW) hq
    have H4 := fun (W : World) (hW : Below w.heap.size w W) => wordR a len cap q 4 xs W (reads_kept h hW) hq (by decide) (by decide)
    have H8 := fun (W : World) (hW : Below w.heap.size w W) => wordR a len cap q 8 xs W (reads_kept h hW) hq (by decide) (by decide)
    have hg : getV k xs q = numG k (getN k xs q).1 (getN k xs q).2.1 (getN k xs q).2.2 := by
      unfold getV numG
      rw [if_neg h45]
    rw [hg]
    clear hg
    rcases kone_cases hk with rfl | rfl | rfl | rfl | rfl | rfl | rfl | rfl | rfl | rfl | rfl | rfl | rfl | rfl | rfl | rfl
    · exact refNum1 (gv xs q).1 (gv xs q).2.1 (gv xs q).2.2 a len cap q w hv.1 hv.2 HV
    · exact refNum2 (gv xs q).1 (gv xs q).2.1 (gv xs q).2.2 a len cap q w hv.1 hv.2 HV
    · exact refNum3 (gv xs q).1 (gv xs q).2.1 (gv xs q).2.2 a len cap q w hv.1 hv.2 HV
    · exact refNum4 (gv xs q).1 (gv xs q).2.1 (gv xs q).2.2 a len cap q w hv.1 hv.2 HV
    · exact refNum5 (gv xs q).1 (gv xs q).2.1 (gv xs q).2.2 a len cap q w hv.1 hv.2 HV
    · exact refNum6 (gv xs q).1 (gv xs q).2.1 (gv xs q).2.2 a len cap q w hv.1 hv.2 HV
    · exact refNum7 (gv xs q).1 (gv xs q).2.1 (gv xs q).2.2 a len cap q w hv.1 hv.2 HV
    · exact refNum8 (gw xs q 4).1 (gw xs q 4).2.1 (gw xs q 4).2.2 a len cap q w h4.1 (by omega) H4
    · exact refNum9 (gw xs q 8).1 (gw xs q 8).2.1 (gw xs q 8).2.2 a len cap q w h8.1 h8.2 H8
    · exact refNum10 (gw xs q 4).1 (gw xs q 4).2.1 (gw xs q 4).2.2 a len cap q w h4.1 h4.2 H4
    · exact refNum11 (gw xs q 8).1 (gw xs q 8).2.1 (gw xs q 8).2.2 a len cap q w h8.1 h8.2 H8
    · exact refNum12 (gw xs q 4).1 (gw xs q 4).2.1 (gw xs q 4).2.2 a len cap q w h4.1 (by omega) H4
    · exact refNum13 (gw xs q 8).1 (gw xs q 8).2.1 (gw xs q 8).2.2 a len cap q w h8.1 h8.2 H8
    · exact absurd (by decide) h45
    · exact absurd (by decide) h45
    · exact refNum16 (gv xs q).1 (gv xs q).2.1 (gv xs q).2.2 a len cap q w hv.1 hv.2 HV
end Go.Proofs.Ytgcimeldofbgkaa
