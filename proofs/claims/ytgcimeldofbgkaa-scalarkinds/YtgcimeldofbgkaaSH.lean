/-
  Reading numbers: the program's walk.
-/
import Derived.Test.YtgcimeldofbgkaaSG
namespace Go.Proofs.Ytgcimeldofbgkaa
open Go.RowKit
set_option maxRecDepth 1000000
set_option maxHeartbeats 2000000

theorem ret_uii {a b c d e f : Int} (h1 : a = d) (h2 : b = e) (h3 : c = f) : Ending.returned (.tuple #[.int .u64 a, .int .i64 b, .int .i64 c]) = .returned (.tuple #[.int .u64 d, .int .i64 e, .int .i64 f]) := by rw [h1, h2, h3]
theorem zag_bd {u : Int} (h0 : 0 ≤ u) (h1 : u < 18446744073709551616) : -9223372036854775808 ≤ zagF u ∧ zagF u ≤ 9223372036854775807 := by unfold zagF; split <;> omega

theorem getNumW (k : Int) (a : Option Addr) (len cap p : Nat) (xs : List Int) (w : World) (h : Reads w a len cap xs) (hp : p ≤ len) (hk : nfit k 0 = true) :
    Calls Try.prog 38 #[.int .i64 k, .slice a len cap, .int .i64 p] w fun e w' => e = .returned (.tuple #[.int .u64 (getN k xs p).1, .int .i64 (getN k xs p).2.1, .int .i64 (getN k xs p).2.2]) ∧ w = w' := by
  have hk2 : k = 1 ∨ k = 2 ∨ k = 3 ∨ k = 4 ∨ k = 5 ∨ k = 6 ∨ k = 7 ∨ k = 8 ∨ k = 9 ∨ k = 10 ∨ k = 11 ∨ k = 12 ∨ k = 13 ∨ k = 16 := by
    unfold nfit at hk
    have : knum k = true := by cases hn : knum k with | true => rfl | false => rw [hn] at hk; cases hk
    unfold knum at this
    simp at this
    omega
  clear hk
  have hvb := gv_bd (bd_mem h.bd) p
  have hwb := gw_bd (bd_mem h.bd) p
  have HV := hid (getvW a len cap p xs w h hp)
  have H4 := hid (getFix32W a len cap p xs w h hp)
  have H8 := hid (getFix64W a len cap p xs w h hp)
  have HG : Hid (∀ k, Ending.returned (.tuple #[.int .u64 (getN k xs p).1, .int .i64 (getN k xs p).2.1, .int .i64 (getN k xs p).2.2]) = Ending.returned (.tuple #[.int .u64 (if k = 6 ∨ k = 7 then (uns (zagF (gv xs p).1), (gv xs p).2.1, (gv xs p).2.2) else if k = 10 then (wid (gw xs p 4).1, (gw xs p 4).2.1, (gw xs p 4).2.2) else if k = 8 ∨ k = 12 then gw xs p 4 else if k = 9 ∨ k = 11 ∨ k = 13 then gw xs p 8 else gv xs p).1, .int .i64 (if k = 6 ∨ k = 7 then (uns (zagF (gv xs p).1), (gv xs p).2.1, (gv xs p).2.2) else if k = 10 then (wid (gw xs p 4).1, (gw xs p 4).2.1, (gw xs p 4).2.2) else if k = 8 ∨ k = 12 then gw xs p 4 else if k = 9 ∨ k = 11 ∨ k = 13 then gw xs p 8 else gv xs p).2.1, .int .i64 (if k = 6 ∨ k = 7 then (uns (zagF (gv xs p).1), (gv xs p).2.1, (gv xs p).2.2) else if k = 10 then (wid (gw xs p 4).1, (gw xs p 4).2.1, (gw xs p 4).2.2) else if k = 8 ∨ k = 12 then gw xs p 4 else if k = 9 ∨ k = 11 ∨ k = 13 then gw xs p 8 else gv xs p).2.2])) := hid (fun k => rfl)
  generalize gv xs p = g at *
  generalize gw xs p 4 = g4 at *
  generalize gw xs p 8 = g8 at *
  obtain ⟨g0, g1, g2⟩ := g
  obtain ⟨q0, q1, q2⟩ := g4
  obtain ⟨r0, r1, r2⟩ := g8
  have hz := zag_bd hvb.1 hvb.2
  rcases hk2 with rfl | rfl | rfl | rfl | rfl | rfl | rfl | rfl | rfl | rfl | rfl | rfl | rfl | rfl
  next =>
    go_enter Try.func38, Try.ntmps38
    go_wp2_with (go_at_call 60; refine HV.out.mono ?_; rintro e w' ⟨rfl, rfl⟩)
    go_ret3
    exact ⟨(HG.out 1).symm, rfl⟩
  next =>
    go_enter Try.func38, Try.ntmps38
    go_wp2_with (go_at_call 60; refine HV.out.mono ?_; rintro e w' ⟨rfl, rfl⟩)
    go_ret3
    exact ⟨(HG.out 2).symm, rfl⟩
  next =>
    go_enter Try.func38, Try.ntmps38
    go_wp2_with (go_at_call 60; refine HV.out.mono ?_; rintro e w' ⟨rfl, rfl⟩)
    go_ret3
    exact ⟨(HG.out 3).symm, rfl⟩
  next =>
    go_enter Try.func38, Try.ntmps38
    go_wp2_with (go_at_call 60; refine HV.out.mono ?_; rintro e w' ⟨rfl, rfl⟩)
    go_ret3
    exact ⟨(HG.out 4).symm, rfl⟩
  next =>
    go_enter Try.func38, Try.ntmps38
    go_wp2_with (go_at_call 60; refine HV.out.mono ?_; rintro e w' ⟨rfl, rfl⟩)
    go_ret3
    exact ⟨(HG.out 5).symm, rfl⟩
  next =>
    go_enter Try.func38, Try.ntmps38
    go_wp2_with (first | (go_at_call 60; refine HV.out.mono ?_; rintro e w' ⟨rfl, rfl⟩) | (go_at_call 61; refine (zagW _ _ hvb.1 hvb.2).mono ?_; rintro e w' ⟨rfl, rfl⟩))
    go_ret3
    exact ⟨(ret_uii (by rw [IntKind.wrap_u64]; rfl) rfl rfl).trans (HG.out 6).symm, rfl⟩
  next =>
    go_enter Try.func38, Try.ntmps38
    go_wp2_with (first | (go_at_call 60; refine HV.out.mono ?_; rintro e w' ⟨rfl, rfl⟩) | (go_at_call 61; refine (zagW _ _ hvb.1 hvb.2).mono ?_; rintro e w' ⟨rfl, rfl⟩))
    go_ret3
    exact ⟨(ret_uii (by rw [IntKind.wrap_u64]; rfl) rfl rfl).trans (HG.out 7).symm, rfl⟩
  next =>
    go_enter Try.func38, Try.ntmps38
    go_wp2_with (go_at_call 62; refine H4.out.mono ?_; rintro e w' ⟨rfl, rfl⟩)
    go_ret3
    exact ⟨(HG.out 8).symm, rfl⟩
  next =>
    go_enter Try.func38, Try.ntmps38
    go_wp2_with (go_at_call 63; refine H8.out.mono ?_; rintro e w' ⟨rfl, rfl⟩)
    go_ret3
    exact ⟨(HG.out 9).symm, rfl⟩
  next =>
    go_enter Try.func38, Try.ntmps38
    go_wp2_with (first | (go_at_call 62; refine H4.out.mono ?_; rintro e w' ⟨rfl, rfl⟩) | (go_at_call 54; refine (widenedW _ _ hwb.1 hwb.2).mono ?_; rintro e w' ⟨rfl, rfl⟩))
    go_ret3
    exact ⟨(HG.out 10).symm, rfl⟩
  next =>
    go_enter Try.func38, Try.ntmps38
    go_wp2_with (go_at_call 63; refine H8.out.mono ?_; rintro e w' ⟨rfl, rfl⟩)
    go_ret3
    exact ⟨(HG.out 11).symm, rfl⟩
  next =>
    go_enter Try.func38, Try.ntmps38
    go_wp2_with (go_at_call 62; refine H4.out.mono ?_; rintro e w' ⟨rfl, rfl⟩)
    go_ret3
    exact ⟨(HG.out 12).symm, rfl⟩
  next =>
    go_enter Try.func38, Try.ntmps38
    go_wp2_with (go_at_call 63; refine H8.out.mono ?_; rintro e w' ⟨rfl, rfl⟩)
    go_ret3
    exact ⟨(HG.out 13).symm, rfl⟩
  next =>
    go_enter Try.func38, Try.ntmps38
    go_wp2_with (go_at_call 60; refine HV.out.mono ?_; rintro e w' ⟨rfl, rfl⟩)
    go_ret3
    exact ⟨(HG.out 16).symm, rfl⟩

theorem getNumOut (k : Int) (a : Option Addr) (len cap : Nat) (p : Int) (w : World) (hl : len ≤ 9223372036854775807) (hp : p < 0 ∨ (len : Int) < p) (hk : nfit k 0 = true) :
    Calls Try.prog 38 #[.int .i64 k, .slice a len cap, .int .i64 p] w fun e w' => e = .returned (.tuple #[.int .u64 0, .int .i64 0, .int .i64 18]) ∧ w = w' := by
  have hk2 : k = 1 ∨ k = 2 ∨ k = 3 ∨ k = 4 ∨ k = 5 ∨ k = 6 ∨ k = 7 ∨ k = 8 ∨ k = 9 ∨ k = 10 ∨ k = 11 ∨ k = 12 ∨ k = 13 ∨ k = 16 := by
    unfold nfit at hk
    have : knum k = true := by cases hn : knum k with | true => rfl | false => rw [hn] at hk; cases hk
    unfold knum at this
    simp at this
    omega
  clear hk
  have HV := hid (getvOut a len cap p w hl hp)
  have H4 := hid (getFix32Out a len cap p w hl hp)
  have H8 := hid (getFix64Out a len cap p w hl hp)
  have HZ : Hid (∀ W : World, Calls Try.prog 61 #[.int .u64 0] W fun e w' => e = .returned (.int .i64 0) ∧ W = w') := hid (fun W => zagW 0 W (by decide) (by decide))
  have HW : Hid (∀ W : World, Calls Try.prog 54 #[.int .u32 0] W fun e w' => e = .returned (.int .u64 0) ∧ W = w') := hid (fun W => widenedW 0 W (by decide) (by decide))
  clear hp
  rcases hk2 with rfl | rfl | rfl | rfl | rfl | rfl | rfl | rfl | rfl | rfl | rfl | rfl | rfl | rfl
  all_goals
    go_enter Try.func38, Try.ntmps38
    go_wp2_with (first | (go_at_call 60; refine HV.out.mono ?_; rintro e w' ⟨rfl, rfl⟩) | (go_at_call 61; refine (HZ.out _).mono ?_; rintro e w' ⟨rfl, rfl⟩) | (go_at_call 62; refine H4.out.mono ?_; rintro e w' ⟨rfl, rfl⟩) | (go_at_call 63; refine H8.out.mono ?_; rintro e w' ⟨rfl, rfl⟩) | (go_at_call 54; refine (HW.out _).mono ?_; rintro e w' ⟨rfl, rfl⟩))
    go_ret3
    exact ⟨rfl, rfl⟩
end Go.Proofs.Ytgcimeldofbgkaa
