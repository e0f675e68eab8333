/-
  Fits, why a value can't be written: the program's walks and the document's.
-/
import Derived.Test.YtgcimeldofbgkaaSD
namespace Go.Proofs.Ytgcimeldofbgkaa
open Go.RowKit
set_option maxRecDepth 1000000
set_option maxHeartbeats 1000000

/-- A value's own cells, wherever new blocks came behind it. -/
theorem vcells {w w2 : World} {x y z : Value} (hb : Below (w.alloc (.cells #[x, y, z] 26)).heap.size (w.alloc (.cells #[x, y, z] 26)) w2) : w2.cell? ⟨w.heap.size, 0, none⟩ = some x ∧ w2.cell? ⟨w.heap.size, 1, none⟩ = some y ∧ w2.cell? ⟨w.heap.size, 2, none⟩ = some z := by
  have hbx : ∀ o, w2.cell? ⟨w.heap.size, o, none⟩ = (w.alloc (.cells #[x, y, z] 26)).cell? ⟨w.heap.size, o, none⟩ := fun o => World.cell?_of_block (hb.block w.heap.size (by simp))
  refine ⟨?_, ?_, ?_⟩
  all_goals (rw [hbx, World.cell?_alloc_at _ _ _ _ rfl]; rfl)
section
variable (k n : Int) (a am : Option Addr) (len cap lm cm : Nat) (w : World)
theorem fitsW (h0 : 0 ≤ n) (h1 : n < 18446744073709551616) (hl : len ≤ 9223372036854775807) (hm : lm ≤ 9223372036854775807) : Calls Try.prog 14 #[.int .i64 k, .agg #[.int .u64 n, .slice a len cap, .slice am lm cm]] w fun e w' => e = .returned (.bool (vfit k n len lm)) ∧ Below w.heap.size w w' := by
  by_cases hm0 : lm = 0
  · subst hm0
    by_cases h14 : k = 14
    · subst h14
      rw [vfit_14]
      go_enter Try.func14, Try.ntmps14
      go_wp2
      go_ret
      exact ⟨rfl, below_alloc _⟩
    by_cases h15 : k = 15
    · subst h15
      rw [vfit_15]
      go_enter Try.func14, Try.ntmps14
      go_wp2
      go_ret
      exact ⟨rfl, below_alloc _⟩
    have e14 : (k == 14) = false := by simpa using h14
    have e15 : (k == 15) = false := by simpa using h15
    by_cases hb : len = 0
    · subst hb
      rw [vfit_n h14 h15]
      clear h14 h15
      go_enter Try.func14, Try.ntmps14
      go_wp2_with (go_at_call 28; refine (numberFitsW k n _ h0 h1).mono ?_; rintro e w' ⟨rfl, rfl⟩)
      go_ret
      exact ⟨rfl, below_alloc _⟩
    · rw [vfit_b hb h14 h15]
      have eb : ((len : Int) == 0) = false := by simpa using hb
      clear h14 h15 hb
      go_enter Try.func14, Try.ntmps14
      go_wp2
      go_ret
      exact ⟨rfl, below_alloc _⟩
  · rw [vfit_m hm0]
    have em : 0 < (lm : Int) := by omega
    clear hm0
    go_enter Try.func14, Try.ntmps14
    go_wp2
    go_ret
    exact ⟨rfl, below_alloc _⟩
theorem fitsR (h0 : 0 ≤ n) (h1 : n < 18446744073709551616) (hl : len ≤ 9223372036854775807) (hm : lm ≤ 9223372036854775807) : Calls Try.prog 15 #[.int .i64 k, .agg #[.int .u64 n, .slice a len cap, .slice am lm cm]] w fun e w' => e = .returned (.bool (vfit k n len lm)) ∧ Below w.heap.size w w' := by
  by_cases hk1 : k < 1
  · rw [vfit_k (.inl hk1)]
    go_enter Try.func15, Try.ntmps15
    go_wp2
    go_ret
    exact ⟨rfl, below_alloc _⟩
  by_cases hk2 : 16 < k
  · rw [vfit_k (.inr hk2)]
    go_enter Try.func15, Try.ntmps15
    go_wp2
    go_ret
    exact ⟨rfl, below_alloc _⟩
  by_cases hm0 : lm = 0
  · subst hm0
    by_cases h14 : k = 14
    · subst h14
      rw [vfit_14]
      go_enter Try.func15, Try.ntmps15
      go_wp2
      go_ret
      exact ⟨rfl, below_alloc _⟩
    by_cases h15 : k = 15
    · subst h15
      rw [vfit_15]
      go_enter Try.func15, Try.ntmps15
      go_wp2
      go_ret
      exact ⟨rfl, below_alloc _⟩
    have e14 : (k == 14) = false := by simpa using h14
    have e15 : (k == 15) = false := by simpa using h15
    by_cases hb : len = 0
    · subst hb
      rw [vfit_n h14 h15, nfit_h (by omega) (by omega) h14 h15]
      clear h14 h15
      go_enter Try.func15, Try.ntmps15
      go_wp2_with (go_at_call 29; refine (holdsR k n _ h0 h1).mono ?_; rintro e w' ⟨rfl, rfl⟩)
      go_ret
      exact ⟨rfl, below_alloc _⟩
    · rw [vfit_b hb h14 h15]
      have eb : ((len : Int) == 0) = false := by simpa using hb
      clear h14 h15 hb
      go_enter Try.func15, Try.ntmps15
      go_wp2
      go_ret
      exact ⟨rfl, below_alloc _⟩
  · rw [vfit_m hm0]
    have em : 0 < (lm : Int) := by omega
    clear hm0
    go_enter Try.func15, Try.ntmps15
    go_wp2
    go_ret
    exact ⟨rfl, below_alloc _⟩

theorem validR (xs : List Int) (h : Reads w a len cap xs) (hreach : len ≤ 140737488355328) : Calls Try.prog 39 #[.slice a len cap] w fun e w' => e = .returned (.bool (decide (0 ≤ rn xs))) ∧ w = w' := by
  go_enter Try.func39, Try.ntmps39
  go_wp2_with (go_at_call 64; refine (refRunesR a len cap xs _ h hreach).mono ?_; rintro e w' ⟨rfl, rfl⟩)
  go_ret
  exact ⟨rfl, rfl⟩

theorem flt_k {xs : List Int} (h : kone k = false) : flt k n xs lm = 18 := by unfold flt; rw [if_pos h]
theorem flt_v {xs : List Int} (h : kone k = true) (hv : vfit k n xs.length lm = false) : flt k n xs lm = 7 := by unfold flt; rw [if_neg (by simp [h]), if_pos hv]
theorem flt_t {xs : List Int} (hv : vfit 14 n xs.length lm = true) (hr : rn xs < 0) : flt 14 n xs lm = 8 := by unfold flt; rw [if_neg (by decide), if_neg (by simp [hv]), if_pos ⟨rfl, hr⟩]
theorem flt_0 {xs : List Int} (h : kone k = true) (hv : vfit k n xs.length lm = true) (hr : ¬ (k = 14 ∧ rn xs < 0)) : flt k n xs lm = 0 := by unfold flt; rw [if_neg (by simp [h]), if_neg (by simp [hv]), if_neg hr]
theorem faultW (xs : List Int) (h0 : 0 ≤ n) (h1 : n < 18446744073709551616) (h : Reads w a len cap xs) (hm : lm ≤ 9223372036854775807) : Calls Try.prog 30 #[.int .i64 k, .agg #[.int .u64 n, .slice a len cap, .slice am lm cm]] w fun e w' => e = .returned (.int .i64 (flt k n xs lm)) ∧ Below w.heap.size w w' := by
  have hlen := h.length
  have HF := hid (fun W => fitsW k n a am len cap lm cm W h0 h1 (by have := h.le; have := h.max; omega) hm)
  have HS := hid (fun W => singleW k W)
  have HR := hid h
  clear h
  cases hk : kone k with
  | false =>
    have e := flt_k k n lm (xs := xs) hk
    have H := hid e
    rw [hk] at HS
    clear e hk
    go_enter Try.func30, Try.ntmps30
    go_wp2_with (go_at_call 36; refine (HS.out _).mono ?_; rintro e w' ⟨rfl, rfl⟩)
    go_ret
    exact ⟨ret_int H.out.symm, below_alloc _⟩
  | true =>
    rw [hk] at HS
    cases hv : vfit k n len lm with
    | false =>
      have H := hid (flt_v k n lm (xs := xs) hk (by rw [hlen]; exact hv))
      rw [hv] at HF
      clear hk hv
      go_enter Try.func30, Try.ntmps30
      go_wp2_with (first | (go_at_call 36; refine (HS.out _).mono ?_; rintro e w' ⟨rfl, rfl⟩) | (go_at_call 14; refine (HF.out _).mono ?_; rintro e w2 ⟨rfl, hb2⟩; replace hb2 := hid hb2))
      go_ret
      exact ⟨ret_int H.out.symm, below_trans (below_alloc _) hb2.out⟩
    | true =>
      rw [hv] at HF
      by_cases h14 : k = 14
      · subst h14
        have HV := hid (fun W (hw : Reads W a len cap xs) => validW a len cap xs W hw)
        have hr : rn xs < 0 ∨ 0 ≤ rn xs := by omega
        obtain ⟨b, hb, H⟩ : ∃ b, decide (0 ≤ rn xs) = b ∧ Hid ((bif b then 0 else 8) = flt 14 n xs lm) := by
          rcases hr with hr | hr
          · exact ⟨false, by simpa using hr, hid (flt_t n lm (xs := xs) (by rw [hlen]; exact hv) (by omega)).symm⟩
          · exact ⟨true, by simpa using hr, hid (flt_0 14 n lm (xs := xs) hk (by rw [hlen]; exact hv) (by omega)).symm⟩
        rw [hb] at HV
        clear hk hv hr hb
        cases b
        all_goals
          go_enter Try.func30, Try.ntmps30
          go_wp2_with (first | (go_at_call 36; refine (HS.out _).mono ?_; rintro e w' ⟨rfl, rfl⟩) | (go_at_call 14; refine (HF.out _).mono ?_; rintro e w2 ⟨rfl, hb2⟩; obtain ⟨c0, c1, c2⟩ := vcells hb2; replace hb2 := hid hb2) | (go_at_call 55; refine (HV.out _ (reads_kept (reads_kept HR.out (below_alloc _)) hb2.out)).mono ?_; rintro e w3 ⟨rfl, hb3⟩; replace hb3 := hid hb3))
          go_ret
          exact ⟨ret_int H.out, below_trans (below_trans (below_alloc _) hb2.out) hb3.out⟩
      · have H := hid (flt_0 k n lm (xs := xs) hk (by rw [hlen]; exact hv) (by omega))
        have e14 : (k == 14) = false := by simpa using h14
        clear hk hv h14
        go_enter Try.func30, Try.ntmps30
        go_wp2_with (first | (go_at_call 36; refine (HS.out _).mono ?_; rintro e w' ⟨rfl, rfl⟩) | (go_at_call 14; refine (HF.out _).mono ?_; rintro e w2 ⟨rfl, hb2⟩; replace hb2 := hid hb2))
        go_ret
        exact ⟨ret_int H.out.symm, below_trans (below_alloc _) hb2.out⟩
end
end Go.Proofs.Ytgcimeldofbgkaa
