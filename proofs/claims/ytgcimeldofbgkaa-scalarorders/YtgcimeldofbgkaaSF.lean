/-
  Put: the program's walk and the document's.
-/
import Derived.Test.YtgcimeldofbgkaaSE
import Derived.Test.YtgcimeldofbgkaaWM
namespace Go.Proofs.Ytgcimeldofbgkaa
open Go.RowKit
set_option maxRecDepth 1000000
set_option maxHeartbeats 1000000

/-- What a caller of Put is told. -/
def Wrote (w : World) (g : List Int × Int) (e : Ending) (w' : World) : Prop := ∃ a c, e = .returned (.tuple #[.slice a g.1.length c, .int .i64 g.2]) ∧ Reads w' a g.1.length c g.1 ∧ Below w.heap.size w w'
theorem wrote_err {w w' : World} {g : List Int × Int} {er : Int} (hg : g = ([], er)) (hb : Below w.heap.size w w') : Wrote w g (.returned (.tuple #[.slice none 0 0, .int .i64 er])) w' := by subst hg; exact ⟨none, 0, rfl, reads_nil _, hb⟩
theorem wrote_ok {w w' : World} {g : List Int × Int} {ys : List Int} {a : Option Addr} {c : Nat} (hg : g = (ys, 0)) (hr : Reads w' a ys.length c ys) (hb : Below w.heap.size w w') : Wrote w g (.returned (.tuple #[.slice a ys.length c, .int .i64 0])) w' := by subst hg; exact ⟨a, c, rfl, hr, hb⟩
theorem putE_err {k n : Int} {xs : List Int} {lm : Nat} (h : flt k n xs lm ≠ 0) : putE k n xs lm = ([], flt k n xs lm) := by unfold putE; rw [if_neg h]
theorem putE_ok {k n : Int} {xs : List Int} {lm : Nat} (h : flt k n xs lm = 0) : putE k n xs lm = (putV k n xs, 0) := by unfold putE; rw [if_pos h]
theorem flt_zero {k n : Int} {xs : List Int} {lm : Nat} (h : flt k n xs lm = 0) : kone k = true ∧ vfit k n xs.length lm = true := by
  unfold flt at h
  cases hk : kone k with
  | false => rw [hk, if_pos rfl] at h; cases h
  | true =>
    rw [hk, if_neg (by simp)] at h
    cases hv : vfit k n xs.length lm with
    | false => rw [hv, if_pos rfl] at h; cases h
    | true => exact ⟨rfl, rfl⟩
theorem kone_cases {k : Int} (h : kone k = true) : k = 1 ∨ k = 2 ∨ k = 3 ∨ k = 4 ∨ k = 5 ∨ k = 6 ∨ k = 7 ∨ k = 8 ∨ k = 9 ∨ k = 10 ∨ k = 11 ∨ k = 12 ∨ k = 13 ∨ k = 14 ∨ k = 15 ∨ k = 16 := by
  unfold kone at h; simp at h; omega
theorem sgn_bd {n : Int} (h0 : 0 ≤ n) (h1 : n < 18446744073709551616) : -9223372036854775808 ≤ sgn n ∧ sgn n ≤ 9223372036854775807 := by unfold sgn; split <;> omega

section
variable (k n : Int) (a am : Option Addr) (len cap lm cm : Nat) (w : World)
theorem putKW (xs : List Int) (h0 : 0 ≤ n) (h1 : n < 18446744073709551616) (h : Reads w a len cap xs) (hm : lm ≤ 9223372036854775807) (hreach : 10 + len ≤ 140737488355328) : Calls Try.prog 19 #[.int .i64 k, .agg #[.int .u64 n, .slice a len cap, .slice am lm cm]] w fun e w' => Wrote w (putE k n xs lm) e w' := by
  have HF := hid (fun W (hw : Reads W a len cap xs) => faultW k n a am len cap lm cm W xs h0 h1 hw hm)
  have HR := hid h
  clear h
  by_cases hz : flt k n xs lm = 0
  · have hg := hid (putE_ok hz)
    have hk := kone_cases (flt_zero hz).1
    rw [hz] at HF
    clear hz
    have hs := sgn_bd h0 h1
    have HW := wrap64_sgn n h0 h1
    obtain ⟨Z, HZE⟩ : ∃ Z, Hid (zigF (sgn n) = Z) := ⟨_, rfl⟩
    have HZ : Hid (0 ≤ Z ∧ Z < 18446744073709551616) := hid (by rw [← HZE.out]; exact zig_bd (sgn n) hs.1 hs.2)
    have HZR : Hid (∀ W : World, Calls Try.prog 32 #[.int .i64 (sgn n)] W fun e w' => e = .returned (.int .u64 Z) ∧ W = w') := hid (fun W => by rw [← HZE.out]; exact zigW (sgn n) W hs.1 hs.2)
    rcases hk with rfl | rfl | rfl | rfl | rfl | rfl | rfl | rfl | rfl | rfl | rfl | rfl | rfl | rfl | rfl | rfl
    all_goals
      go_enter Try.func19, Try.ntmps19
      go_wp2_with (first | (go_at_call 30; refine (HF.out _ (reads_kept HR.out (below_alloc _))).mono ?_; rintro e w2 ⟨rfl, hb2⟩; obtain ⟨c0, c1, c2⟩ := vcells hb2; replace hb2 := hid hb2) | (go_at_call 32; refine (HZR.out _).mono ?_; rintro e w' ⟨rfl, rfl⟩) | (go_at_call 31; refine (putvWr _ _ h0 h1).mono ?_; rintro e w3 ⟨ar, cr, rfl, hr3, hb3⟩; replace hr3 := hid hr3; replace hb3 := hid hb3) | (go_at_call 31; refine (putvWr _ _ HZ.out.1 HZ.out.2).mono ?_; rintro e w3 ⟨ar, cr, rfl, hr3, hb3⟩; replace hr3 := hid hr3; replace hb3 := hid hb3) | (go_at_call 34; refine (putFix64W _ _ h0 h1).mono ?_; rintro e w3 ⟨ar, cr, rfl, hr3, hb3⟩; replace hr3 := hid hr3; replace hb3 := hid hb3) | (go_at_call 33; refine (putFix32W _ _ (by omega) (by omega)).mono ?_; rintro e w3 ⟨ar, cr, rfl, hr3, hb3⟩; replace hr3 := hid hr3; replace hb3 := hid hb3) | (go_at_call 35; refine (putChunkW a len cap xs _ (reads_kept (reads_kept HR.out (below_alloc _)) hb2.out) hreach).mono ?_; rintro e w3 ⟨ar, cr, rfl, hr3, hb3⟩; replace hr3 := hid hr3; replace hb3 := hid hb3))
      go_ret2
      first
        | exact wrote_ok hg.out hr3.out (below_trans (below_trans (below_alloc _) hb2.out) hb3.out)
        | exact wrote_ok (hg.out.trans (by rw [← HZE.out]; rfl)) hr3.out (below_trans (below_trans (below_alloc _) hb2.out) hb3.out)
        | exact wrote_ok (hg.out.trans (by rw [pw_cut]; rfl)) hr3.out (below_trans (below_trans (below_alloc _) hb2.out) hb3.out)
  · have hg := hid (putE_err hz)
    have hne : (flt k n xs lm != 0) = true := by simpa using hz
    clear hz
    generalize flt k n xs lm = er at HF hg hne
    go_enter Try.func19, Try.ntmps19
    go_wp2_with (go_at_call 30; refine (HF.out _ (reads_kept HR.out (below_alloc _))).mono ?_; rintro e w2 ⟨rfl, hb2⟩; replace hb2 := hid hb2)
    go_ret2
    exact wrote_err hg.out (below_trans (below_alloc _) hb2.out)
end
end Go.Proofs.Ytgcimeldofbgkaa
