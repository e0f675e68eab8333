/-
  Walks over reading tags, the program's and the document's.
-/
import Derived.Test.YtaedbgdjjnkloabWF
namespace Go.Proofs.Ytaedbgdjjnkloab
open Go.RowKit

theorem ret_gt {g : Int × Int × Int × Int} {a b c d : Int} (h : g = (a, b, c, d)) : Ending.returned (.tuple #[.int .i64 a, .int .i64 b, .int .i64 c, .int .i64 d]) = .returned (.tuple #[.int .i64 g.1, .int .i64 g.2.1, .int .i64 g.2.2.1, .int .i64 g.2.2.2]) := by rw [h]

theorem hid {p : Prop} (h : p) : Hid p := h

theorem getTagOut (a : Option Addr) (len cap : Nat) (p : Int) (w : World) (hl : len ≤ 9223372036854775807) (hp : p < 0 ∨ (len : Int) < p) :
    Calls Try.prog 25 #[.slice a len cap, .int .i64 p] w fun e w' => e = .returned (.tuple #[.int .i64 0, .int .i64 0, .int .i64 0, .int .i64 18]) ∧ w = w' := by
  have H : Hid (p < 0 ∨ (len : Int) < p) := hp
  clear hp
  go_enter Try.func25, Try.ntmps25
  go_wp2_with (go_at_call 12; refine (getvOut _ _ _ _ _ hl H.out).mono ?_; rintro e w' ⟨rfl, rfl⟩)
  exact bodyPost_ret (v := .tuple #[.int .i64 0, .int .i64 0, .int .i64 0, .int .i64 18]) (by simp [results, Try.results25, go_sem]) rfl ⟨rfl, rfl⟩

set_option maxHeartbeats 400000 in
theorem getTagW (a : Option Addr) (len cap p : Nat) (xs : List Int) (w : World) (h : Reads w a len cap xs) (hp : p ≤ len) :
    Calls Try.prog 25 #[.slice a len cap, .int .i64 p] w fun e w' =>
      e = .returned (.tuple #[.int .i64 (gt xs p).1, .int .i64 (gt xs p).2.1, .int .i64 (gt xs p).2.2.1, .int .i64 (gt xs p).2.2.2]) ∧ w = w' := by
  have hv := getvW a len cap p xs w h hp
  have hb := gv_bd (bd_mem h.bd) p
  unfold gt
  generalize gv xs p = g at hv hb
  have HV : Hid (Calls Try.prog 12 #[.slice a len cap, .int .i64 p] w fun e w' => e = .returned (.tuple #[.int .u64 g.1, .int .i64 g.2.1, .int .i64 g.2.2]) ∧ w = w') := hv
  clear hv h hp
  obtain ⟨N, nx, er⟩ := g
  simp only [] at hb HV
  obtain ⟨hb0, hb1⟩ := hb
  have h7 : bits .and .u64 N 7 = N % 8 := and7 N hb0 hb1
  cases he : (er != 0) with
  | true =>
    have H := hid (ret_gt (gtF_err (g := (N, nx, er)) he))
    go_enter Try.func25, Try.ntmps25
    go_wp2_with (go_at_call 12; refine HV.out.mono ?_; rintro e w' ⟨rfl, rfl⟩)
    exact bodyPost_ret (v := .tuple #[(.int .i64 0), (.int .i64 0), (.int .i64 0), .int .i64 er]) (by simp [results, Try.results25, go_sem]) rfl ⟨H.out, rfl⟩
  | false =>
    by_cases hbig : 536870911 < N / 8
    · have H := hid (ret_gt (gtF_tf (g := (N, nx, er)) he (by rw [tf_big hbig]; decide)))
      rw [tf_big hbig] at H
      go_enter Try.func25, Try.ntmps25
      go_wp2_with (go_at_call 12; refine HV.out.mono ?_; rintro e w' ⟨rfl, rfl⟩)
      exact bodyPost_ret (v := .tuple #[(.int .i64 0), (.int .i64 0), (.int .i64 0), .int .i64 5]) (by simp [results, Try.results25, go_sem]) rfl ⟨H.out, rfl⟩
    · by_cases ht : tf (N / 8) (N % 8) = 0
      · have H := hid (ret_gt (gtF_ok (g := (N, nx, er)) he ht))
        have HT := hid ht
        clear ht
        go_enter Try.func25, Try.ntmps25
        go_wp2_with (first | (go_at_call 12; refine HV.out.mono ?_; rintro e w' ⟨rfl, rfl⟩) | (go_at_call 22; refine (tagFaultW _ _ _).mono ?_; rw [HT.out]; rintro e w' ⟨rfl, rfl⟩))
        exact bodyPost_ret (v := .tuple #[.int .i64 (N / 8), .int .i64 (N % 8), .int .i64 nx, .int .i64 0]) (by simp [results, Try.results25, go_sem]) rfl ⟨H.out, rfl⟩
      · have H := hid (ret_gt (gtF_tf (g := (N, nx, er)) he ht))
        have hne : (tf (N / 8) (N % 8) != 0) = true := by simp [ht]
        clear ht
        go_enter Try.func25, Try.ntmps25
        go_wp2_with (first | (go_at_call 12; refine HV.out.mono ?_; rintro e w' ⟨rfl, rfl⟩) | (go_at_call 22; refine (tagFaultW _ _ _).mono ?_; rintro e w' ⟨rfl, rfl⟩))
        exact bodyPost_ret (v := .tuple #[(.int .i64 0), (.int .i64 0), (.int .i64 0), .int .i64 (tf (N / 8) (N % 8))]) (by simp [results, Try.results25, go_sem]) rfl ⟨H.out, rfl⟩

end Go.Proofs.Ytaedbgdjjnkloab
