/-
  Get: the document's walk over numbers.
-/
import Derived.Test.YtgcimeldofbgkaaSJ
namespace Go.Proofs.Ytgcimeldofbgkaa
open Go.RowKit
set_option maxRecDepth 1000000
set_option maxHeartbeats 8000000

theorem below_two {w : World} (o o' : Obj) : Below w.heap.size w ((w.alloc o).alloc o') := below_trans (below_alloc _) (below_alloc _)
/-- What Get makes of a number that was read. -/
def numG (k N nx er : Int) : GotV := if er ≠ 0 then .none er else if khold k N = false then .none 7 else ⟨N, [], nx, 0⟩
theorem numG_err {k N nx er : Int} (h : (er != 0) = true) : numG k N nx er = .none er := by unfold numG; rw [if_pos (by simpa using h)]
theorem numG_no {k N nx : Int} (h : khold k N = false) : numG k N nx 0 = .none 7 := by unfold numG; rw [if_neg (by simp), if_pos h]
theorem numG_ok {k N nx : Int} (h : khold k N = true) : numG k N nx 0 = ⟨N, [], nx, 0⟩ := by unfold numG; rw [if_neg (by simp), if_neg (by simp [h])]
theorem wid_conv {n : Int} (h0 : 0 ≤ n) (h1 : n < 4294967296) : IntKind.u64.wrap (wrap64 (wrap32 n)) = wid n := by
  unfold wid
  rw [IntKind.wrap_u64]
  unfold wrap64 wrap32
  split <;> omega
theorem uns_conv (n : Int) : IntKind.u64.wrap n = uns n := by rw [IntKind.wrap_u64]; rfl
section
variable (N0 nx er : Int) (a : Option Addr) (len cap p : Nat) (w : World)
theorem refNum1 (h0 : 0 ≤ N0) (h1 : N0 < 18446744073709551616) (HG : ∀ W : World, Below w.heap.size w W → Calls Try.prog 45 #[.slice a len cap, .int .i64 p] W fun e w' => e = .returned (.tuple #[.int .u64 N0, .int .i64 nx, .int .i64 er]) ∧ W = w') :
    Calls Try.prog 24 #[.int .i64 1, .slice a len cap, .int .i64 p] w fun e w' => Gave w (numG 1 N0 nx er) e w' := by
  have HN := hid HG
  have HW : Hid (∀ W : World, Calls Try.prog 16 #[.int .i64 1] W fun e w' => e = .returned (.int .i64 0) ∧ W = w') := hid (fun W => wireKR 1 W)
  clear HG
  have HH := hid (fun W => holdsR 1 N0 W h0 h1)
  by_cases he : er = 0
  · subst he
    cases hh : khold 1 N0 with
    | false =>
      rw [numG_no hh]
      rw [hh] at HH
      clear hh
      go_enter Try.func24, Try.ntmps24
      go_wp2_with (first | (go_at_call 16; refine (HW.out _).mono ?_; rintro e w' ⟨rfl, rfl⟩) | (go_at_call 45; refine (HN.out _ (below_two _ _)).mono ?_; rintro e w' ⟨rfl, rfl⟩) | (go_at_call 29; refine (HH.out _).mono ?_; rintro e w' ⟨rfl, rfl⟩))
      exact bodyPost_ret (v := .tuple #[.agg #[.int .u64 0, .slice none 0 0, .slice none 0 0], .int .i64 0, .int .i64 7]) (by simp [results, Try.results24, go_sem]) rfl (gave_err rfl (below_two _ _))
    | true =>
      rw [numG_ok hh]
      rw [hh] at HH
      clear hh
      go_enter Try.func24, Try.ntmps24
      go_wp2_with (first | (go_at_call 16; refine (HW.out _).mono ?_; rintro e w' ⟨rfl, rfl⟩) | (go_at_call 45; refine (HN.out _ (below_two _ _)).mono ?_; rintro e w' ⟨rfl, rfl⟩) | (go_at_call 29; refine (HH.out _).mono ?_; rintro e w' ⟨rfl, rfl⟩))
      exact bodyPost_ret (v := .tuple #[.agg #[.int .u64 N0, .slice none 0 0, .slice none 0 0], .int .i64 nx, .int .i64 0]) (by simp [results, Try.results24, go_sem]) rfl (gave_num rfl (below_two _ _))
  · have hne : (er != 0) = true := by simpa using he
    rw [numG_err hne]
    clear he
    go_enter Try.func24, Try.ntmps24
    go_wp2_with (first | (go_at_call 16; refine (HW.out _).mono ?_; rintro e w' ⟨rfl, rfl⟩) | (go_at_call 45; refine (HN.out _ (below_two _ _)).mono ?_; rintro e w' ⟨rfl, rfl⟩) | (go_at_call 29; refine (HH.out _).mono ?_; rintro e w' ⟨rfl, rfl⟩))
    exact bodyPost_ret (v := .tuple #[.agg #[.int .u64 0, .slice none 0 0, .slice none 0 0], .int .i64 0, .int .i64 er]) (by simp [results, Try.results24, go_sem]) rfl (gave_err rfl (below_two _ _))
theorem refNum2 (h0 : 0 ≤ N0) (h1 : N0 < 18446744073709551616) (HG : ∀ W : World, Below w.heap.size w W → Calls Try.prog 45 #[.slice a len cap, .int .i64 p] W fun e w' => e = .returned (.tuple #[.int .u64 N0, .int .i64 nx, .int .i64 er]) ∧ W = w') :
    Calls Try.prog 24 #[.int .i64 2, .slice a len cap, .int .i64 p] w fun e w' => Gave w (numG 2 N0 nx er) e w' := by
  have HN := hid HG
  have HW : Hid (∀ W : World, Calls Try.prog 16 #[.int .i64 2] W fun e w' => e = .returned (.int .i64 0) ∧ W = w') := hid (fun W => wireKR 2 W)
  clear HG
  have HH := hid (fun W => holdsR 2 N0 W h0 h1)
  by_cases he : er = 0
  · subst he
    cases hh : khold 2 N0 with
    | false =>
      rw [numG_no hh]
      rw [hh] at HH
      clear hh
      go_enter Try.func24, Try.ntmps24
      go_wp2_with (first | (go_at_call 16; refine (HW.out _).mono ?_; rintro e w' ⟨rfl, rfl⟩) | (go_at_call 45; refine (HN.out _ (below_two _ _)).mono ?_; rintro e w' ⟨rfl, rfl⟩) | (go_at_call 29; refine (HH.out _).mono ?_; rintro e w' ⟨rfl, rfl⟩))
      exact bodyPost_ret (v := .tuple #[.agg #[.int .u64 0, .slice none 0 0, .slice none 0 0], .int .i64 0, .int .i64 7]) (by simp [results, Try.results24, go_sem]) rfl (gave_err rfl (below_two _ _))
    | true =>
      rw [numG_ok hh]
      rw [hh] at HH
      clear hh
      go_enter Try.func24, Try.ntmps24
      go_wp2_with (first | (go_at_call 16; refine (HW.out _).mono ?_; rintro e w' ⟨rfl, rfl⟩) | (go_at_call 45; refine (HN.out _ (below_two _ _)).mono ?_; rintro e w' ⟨rfl, rfl⟩) | (go_at_call 29; refine (HH.out _).mono ?_; rintro e w' ⟨rfl, rfl⟩))
      exact bodyPost_ret (v := .tuple #[.agg #[.int .u64 N0, .slice none 0 0, .slice none 0 0], .int .i64 nx, .int .i64 0]) (by simp [results, Try.results24, go_sem]) rfl (gave_num rfl (below_two _ _))
  · have hne : (er != 0) = true := by simpa using he
    rw [numG_err hne]
    clear he
    go_enter Try.func24, Try.ntmps24
    go_wp2_with (first | (go_at_call 16; refine (HW.out _).mono ?_; rintro e w' ⟨rfl, rfl⟩) | (go_at_call 45; refine (HN.out _ (below_two _ _)).mono ?_; rintro e w' ⟨rfl, rfl⟩) | (go_at_call 29; refine (HH.out _).mono ?_; rintro e w' ⟨rfl, rfl⟩))
    exact bodyPost_ret (v := .tuple #[.agg #[.int .u64 0, .slice none 0 0, .slice none 0 0], .int .i64 0, .int .i64 er]) (by simp [results, Try.results24, go_sem]) rfl (gave_err rfl (below_two _ _))
theorem refNum3 (h0 : 0 ≤ N0) (h1 : N0 < 18446744073709551616) (HG : ∀ W : World, Below w.heap.size w W → Calls Try.prog 45 #[.slice a len cap, .int .i64 p] W fun e w' => e = .returned (.tuple #[.int .u64 N0, .int .i64 nx, .int .i64 er]) ∧ W = w') :
    Calls Try.prog 24 #[.int .i64 3, .slice a len cap, .int .i64 p] w fun e w' => Gave w (numG 3 N0 nx er) e w' := by
  have HN := hid HG
  have HW : Hid (∀ W : World, Calls Try.prog 16 #[.int .i64 3] W fun e w' => e = .returned (.int .i64 0) ∧ W = w') := hid (fun W => wireKR 3 W)
  clear HG
  have HH := hid (fun W => holdsR 3 N0 W h0 h1)
  by_cases he : er = 0
  · subst he
    cases hh : khold 3 N0 with
    | false =>
      rw [numG_no hh]
      rw [hh] at HH
      clear hh
      go_enter Try.func24, Try.ntmps24
      go_wp2_with (first | (go_at_call 16; refine (HW.out _).mono ?_; rintro e w' ⟨rfl, rfl⟩) | (go_at_call 45; refine (HN.out _ (below_two _ _)).mono ?_; rintro e w' ⟨rfl, rfl⟩) | (go_at_call 29; refine (HH.out _).mono ?_; rintro e w' ⟨rfl, rfl⟩))
      exact bodyPost_ret (v := .tuple #[.agg #[.int .u64 0, .slice none 0 0, .slice none 0 0], .int .i64 0, .int .i64 7]) (by simp [results, Try.results24, go_sem]) rfl (gave_err rfl (below_two _ _))
    | true =>
      rw [numG_ok hh]
      rw [hh] at HH
      clear hh
      go_enter Try.func24, Try.ntmps24
      go_wp2_with (first | (go_at_call 16; refine (HW.out _).mono ?_; rintro e w' ⟨rfl, rfl⟩) | (go_at_call 45; refine (HN.out _ (below_two _ _)).mono ?_; rintro e w' ⟨rfl, rfl⟩) | (go_at_call 29; refine (HH.out _).mono ?_; rintro e w' ⟨rfl, rfl⟩))
      exact bodyPost_ret (v := .tuple #[.agg #[.int .u64 N0, .slice none 0 0, .slice none 0 0], .int .i64 nx, .int .i64 0]) (by simp [results, Try.results24, go_sem]) rfl (gave_num rfl (below_two _ _))
  · have hne : (er != 0) = true := by simpa using he
    rw [numG_err hne]
    clear he
    go_enter Try.func24, Try.ntmps24
    go_wp2_with (first | (go_at_call 16; refine (HW.out _).mono ?_; rintro e w' ⟨rfl, rfl⟩) | (go_at_call 45; refine (HN.out _ (below_two _ _)).mono ?_; rintro e w' ⟨rfl, rfl⟩) | (go_at_call 29; refine (HH.out _).mono ?_; rintro e w' ⟨rfl, rfl⟩))
    exact bodyPost_ret (v := .tuple #[.agg #[.int .u64 0, .slice none 0 0, .slice none 0 0], .int .i64 0, .int .i64 er]) (by simp [results, Try.results24, go_sem]) rfl (gave_err rfl (below_two _ _))
theorem refNum4 (h0 : 0 ≤ N0) (h1 : N0 < 18446744073709551616) (HG : ∀ W : World, Below w.heap.size w W → Calls Try.prog 45 #[.slice a len cap, .int .i64 p] W fun e w' => e = .returned (.tuple #[.int .u64 N0, .int .i64 nx, .int .i64 er]) ∧ W = w') :
    Calls Try.prog 24 #[.int .i64 4, .slice a len cap, .int .i64 p] w fun e w' => Gave w (numG 4 N0 nx er) e w' := by
  have HN := hid HG
  have HW : Hid (∀ W : World, Calls Try.prog 16 #[.int .i64 4] W fun e w' => e = .returned (.int .i64 0) ∧ W = w') := hid (fun W => wireKR 4 W)
  clear HG
  have HH := hid (fun W => holdsR 4 N0 W h0 h1)
  by_cases he : er = 0
  · subst he
    cases hh : khold 4 N0 with
    | false =>
      rw [numG_no hh]
      rw [hh] at HH
      clear hh
      go_enter Try.func24, Try.ntmps24
      go_wp2_with (first | (go_at_call 16; refine (HW.out _).mono ?_; rintro e w' ⟨rfl, rfl⟩) | (go_at_call 45; refine (HN.out _ (below_two _ _)).mono ?_; rintro e w' ⟨rfl, rfl⟩) | (go_at_call 29; refine (HH.out _).mono ?_; rintro e w' ⟨rfl, rfl⟩))
      exact bodyPost_ret (v := .tuple #[.agg #[.int .u64 0, .slice none 0 0, .slice none 0 0], .int .i64 0, .int .i64 7]) (by simp [results, Try.results24, go_sem]) rfl (gave_err rfl (below_two _ _))
    | true =>
      rw [numG_ok hh]
      rw [hh] at HH
      clear hh
      go_enter Try.func24, Try.ntmps24
      go_wp2_with (first | (go_at_call 16; refine (HW.out _).mono ?_; rintro e w' ⟨rfl, rfl⟩) | (go_at_call 45; refine (HN.out _ (below_two _ _)).mono ?_; rintro e w' ⟨rfl, rfl⟩) | (go_at_call 29; refine (HH.out _).mono ?_; rintro e w' ⟨rfl, rfl⟩))
      exact bodyPost_ret (v := .tuple #[.agg #[.int .u64 N0, .slice none 0 0, .slice none 0 0], .int .i64 nx, .int .i64 0]) (by simp [results, Try.results24, go_sem]) rfl (gave_num rfl (below_two _ _))
  · have hne : (er != 0) = true := by simpa using he
    rw [numG_err hne]
    clear he
    go_enter Try.func24, Try.ntmps24
    go_wp2_with (first | (go_at_call 16; refine (HW.out _).mono ?_; rintro e w' ⟨rfl, rfl⟩) | (go_at_call 45; refine (HN.out _ (below_two _ _)).mono ?_; rintro e w' ⟨rfl, rfl⟩) | (go_at_call 29; refine (HH.out _).mono ?_; rintro e w' ⟨rfl, rfl⟩))
    exact bodyPost_ret (v := .tuple #[.agg #[.int .u64 0, .slice none 0 0, .slice none 0 0], .int .i64 0, .int .i64 er]) (by simp [results, Try.results24, go_sem]) rfl (gave_err rfl (below_two _ _))
theorem refNum5 (h0 : 0 ≤ N0) (h1 : N0 < 18446744073709551616) (HG : ∀ W : World, Below w.heap.size w W → Calls Try.prog 45 #[.slice a len cap, .int .i64 p] W fun e w' => e = .returned (.tuple #[.int .u64 N0, .int .i64 nx, .int .i64 er]) ∧ W = w') :
    Calls Try.prog 24 #[.int .i64 5, .slice a len cap, .int .i64 p] w fun e w' => Gave w (numG 5 N0 nx er) e w' := by
  have HN := hid HG
  have HW : Hid (∀ W : World, Calls Try.prog 16 #[.int .i64 5] W fun e w' => e = .returned (.int .i64 0) ∧ W = w') := hid (fun W => wireKR 5 W)
  clear HG
  have HH := hid (fun W => holdsR 5 N0 W h0 h1)
  by_cases he : er = 0
  · subst he
    cases hh : khold 5 N0 with
    | false =>
      rw [numG_no hh]
      rw [hh] at HH
      clear hh
      go_enter Try.func24, Try.ntmps24
      go_wp2_with (first | (go_at_call 16; refine (HW.out _).mono ?_; rintro e w' ⟨rfl, rfl⟩) | (go_at_call 45; refine (HN.out _ (below_two _ _)).mono ?_; rintro e w' ⟨rfl, rfl⟩) | (go_at_call 29; refine (HH.out _).mono ?_; rintro e w' ⟨rfl, rfl⟩))
      exact bodyPost_ret (v := .tuple #[.agg #[.int .u64 0, .slice none 0 0, .slice none 0 0], .int .i64 0, .int .i64 7]) (by simp [results, Try.results24, go_sem]) rfl (gave_err rfl (below_two _ _))
    | true =>
      rw [numG_ok hh]
      rw [hh] at HH
      clear hh
      go_enter Try.func24, Try.ntmps24
      go_wp2_with (first | (go_at_call 16; refine (HW.out _).mono ?_; rintro e w' ⟨rfl, rfl⟩) | (go_at_call 45; refine (HN.out _ (below_two _ _)).mono ?_; rintro e w' ⟨rfl, rfl⟩) | (go_at_call 29; refine (HH.out _).mono ?_; rintro e w' ⟨rfl, rfl⟩))
      exact bodyPost_ret (v := .tuple #[.agg #[.int .u64 N0, .slice none 0 0, .slice none 0 0], .int .i64 nx, .int .i64 0]) (by simp [results, Try.results24, go_sem]) rfl (gave_num rfl (below_two _ _))
  · have hne : (er != 0) = true := by simpa using he
    rw [numG_err hne]
    clear he
    go_enter Try.func24, Try.ntmps24
    go_wp2_with (first | (go_at_call 16; refine (HW.out _).mono ?_; rintro e w' ⟨rfl, rfl⟩) | (go_at_call 45; refine (HN.out _ (below_two _ _)).mono ?_; rintro e w' ⟨rfl, rfl⟩) | (go_at_call 29; refine (HH.out _).mono ?_; rintro e w' ⟨rfl, rfl⟩))
    exact bodyPost_ret (v := .tuple #[.agg #[.int .u64 0, .slice none 0 0, .slice none 0 0], .int .i64 0, .int .i64 er]) (by simp [results, Try.results24, go_sem]) rfl (gave_err rfl (below_two _ _))
theorem refNum16 (h0 : 0 ≤ N0) (h1 : N0 < 18446744073709551616) (HG : ∀ W : World, Below w.heap.size w W → Calls Try.prog 45 #[.slice a len cap, .int .i64 p] W fun e w' => e = .returned (.tuple #[.int .u64 N0, .int .i64 nx, .int .i64 er]) ∧ W = w') :
    Calls Try.prog 24 #[.int .i64 16, .slice a len cap, .int .i64 p] w fun e w' => Gave w (numG 16 N0 nx er) e w' := by
  have HN := hid HG
  have HW : Hid (∀ W : World, Calls Try.prog 16 #[.int .i64 16] W fun e w' => e = .returned (.int .i64 0) ∧ W = w') := hid (fun W => wireKR 16 W)
  clear HG
  have HH := hid (fun W => holdsR 16 N0 W h0 h1)
  by_cases he : er = 0
  · subst he
    cases hh : khold 16 N0 with
    | false =>
      rw [numG_no hh]
      rw [hh] at HH
      clear hh
      go_enter Try.func24, Try.ntmps24
      go_wp2_with (first | (go_at_call 16; refine (HW.out _).mono ?_; rintro e w' ⟨rfl, rfl⟩) | (go_at_call 45; refine (HN.out _ (below_two _ _)).mono ?_; rintro e w' ⟨rfl, rfl⟩) | (go_at_call 29; refine (HH.out _).mono ?_; rintro e w' ⟨rfl, rfl⟩))
      exact bodyPost_ret (v := .tuple #[.agg #[.int .u64 0, .slice none 0 0, .slice none 0 0], .int .i64 0, .int .i64 7]) (by simp [results, Try.results24, go_sem]) rfl (gave_err rfl (below_two _ _))
    | true =>
      rw [numG_ok hh]
      rw [hh] at HH
      clear hh
      go_enter Try.func24, Try.ntmps24
      go_wp2_with (first | (go_at_call 16; refine (HW.out _).mono ?_; rintro e w' ⟨rfl, rfl⟩) | (go_at_call 45; refine (HN.out _ (below_two _ _)).mono ?_; rintro e w' ⟨rfl, rfl⟩) | (go_at_call 29; refine (HH.out _).mono ?_; rintro e w' ⟨rfl, rfl⟩))
      exact bodyPost_ret (v := .tuple #[.agg #[.int .u64 N0, .slice none 0 0, .slice none 0 0], .int .i64 nx, .int .i64 0]) (by simp [results, Try.results24, go_sem]) rfl (gave_num rfl (below_two _ _))
  · have hne : (er != 0) = true := by simpa using he
    rw [numG_err hne]
    clear he
    go_enter Try.func24, Try.ntmps24
    go_wp2_with (first | (go_at_call 16; refine (HW.out _).mono ?_; rintro e w' ⟨rfl, rfl⟩) | (go_at_call 45; refine (HN.out _ (below_two _ _)).mono ?_; rintro e w' ⟨rfl, rfl⟩) | (go_at_call 29; refine (HH.out _).mono ?_; rintro e w' ⟨rfl, rfl⟩))
    exact bodyPost_ret (v := .tuple #[.agg #[.int .u64 0, .slice none 0 0, .slice none 0 0], .int .i64 0, .int .i64 er]) (by simp [results, Try.results24, go_sem]) rfl (gave_err rfl (below_two _ _))
theorem refNum6 (h0 : 0 ≤ N0) (h1 : N0 < 18446744073709551616) (HG : ∀ W : World, Below w.heap.size w W → Calls Try.prog 45 #[.slice a len cap, .int .i64 p] W fun e w' => e = .returned (.tuple #[.int .u64 N0, .int .i64 nx, .int .i64 er]) ∧ W = w') :
    Calls Try.prog 24 #[.int .i64 6, .slice a len cap, .int .i64 p] w fun e w' => Gave w (numG 6 (uns (zagF N0)) nx er) e w' := by
  have HN := hid HG
  have HW : Hid (∀ W : World, Calls Try.prog 16 #[.int .i64 6] W fun e w' => e = .returned (.int .i64 0) ∧ W = w') := hid (fun W => wireKR 6 W)
  clear HG
  have hun := uns_conv (zagF N0)
  have HZ : Hid (∀ W : World, Calls Try.prog 46 #[.int .u64 N0] W fun e w' => e = .returned (.int .i64 (zagF N0)) ∧ W = w') := hid (fun W => zagR N0 W h0 h1)
  have hNb : 0 ≤ uns (zagF N0) ∧ uns (zagF N0) < 18446744073709551616 := by unfold uns; omega
  obtain ⟨N, HE⟩ : ∃ N, uns (zagF N0) = N := ⟨_, rfl⟩
  rw [HE] at hun hNb ⊢
  have HH := hid (fun W => holdsR 6 N W hNb.1 hNb.2)
  by_cases he : er = 0
  · subst he
    cases hh : khold 6 N with
    | false =>
      rw [numG_no hh]
      rw [hh] at HH
      clear hh
      go_enter Try.func24, Try.ntmps24
      go_wp2_with (first | (go_at_call 16; refine (HW.out _).mono ?_; rintro e w' ⟨rfl, rfl⟩) | (go_at_call 45; refine (HN.out _ (below_two _ _)).mono ?_; rintro e w' ⟨rfl, rfl⟩) | (go_at_call 29; refine (HH.out _).mono ?_; rintro e w' ⟨rfl, rfl⟩) | (go_at_call 46; refine (HZ.out _).mono ?_; rintro e w' ⟨rfl, rfl⟩))
      exact bodyPost_ret (v := .tuple #[.agg #[.int .u64 0, .slice none 0 0, .slice none 0 0], .int .i64 0, .int .i64 7]) (by simp [results, Try.results24, go_sem]) rfl (gave_err rfl (below_two _ _))
    | true =>
      rw [numG_ok hh]
      rw [hh] at HH
      clear hh
      go_enter Try.func24, Try.ntmps24
      go_wp2_with (first | (go_at_call 16; refine (HW.out _).mono ?_; rintro e w' ⟨rfl, rfl⟩) | (go_at_call 45; refine (HN.out _ (below_two _ _)).mono ?_; rintro e w' ⟨rfl, rfl⟩) | (go_at_call 29; refine (HH.out _).mono ?_; rintro e w' ⟨rfl, rfl⟩) | (go_at_call 46; refine (HZ.out _).mono ?_; rintro e w' ⟨rfl, rfl⟩))
      exact bodyPost_ret (v := .tuple #[.agg #[.int .u64 N, .slice none 0 0, .slice none 0 0], .int .i64 nx, .int .i64 0]) (by simp [results, Try.results24, go_sem]) rfl (gave_num rfl (below_two _ _))
  · have hne : (er != 0) = true := by simpa using he
    rw [numG_err hne]
    clear he
    go_enter Try.func24, Try.ntmps24
    go_wp2_with (first | (go_at_call 16; refine (HW.out _).mono ?_; rintro e w' ⟨rfl, rfl⟩) | (go_at_call 45; refine (HN.out _ (below_two _ _)).mono ?_; rintro e w' ⟨rfl, rfl⟩) | (go_at_call 29; refine (HH.out _).mono ?_; rintro e w' ⟨rfl, rfl⟩) | (go_at_call 46; refine (HZ.out _).mono ?_; rintro e w' ⟨rfl, rfl⟩))
    exact bodyPost_ret (v := .tuple #[.agg #[.int .u64 0, .slice none 0 0, .slice none 0 0], .int .i64 0, .int .i64 er]) (by simp [results, Try.results24, go_sem]) rfl (gave_err rfl (below_two _ _))
theorem refNum7 (h0 : 0 ≤ N0) (h1 : N0 < 18446744073709551616) (HG : ∀ W : World, Below w.heap.size w W → Calls Try.prog 45 #[.slice a len cap, .int .i64 p] W fun e w' => e = .returned (.tuple #[.int .u64 N0, .int .i64 nx, .int .i64 er]) ∧ W = w') :
    Calls Try.prog 24 #[.int .i64 7, .slice a len cap, .int .i64 p] w fun e w' => Gave w (numG 7 (uns (zagF N0)) nx er) e w' := by
  have HN := hid HG
  have HW : Hid (∀ W : World, Calls Try.prog 16 #[.int .i64 7] W fun e w' => e = .returned (.int .i64 0) ∧ W = w') := hid (fun W => wireKR 7 W)
  clear HG
  have hun := uns_conv (zagF N0)
  have HZ : Hid (∀ W : World, Calls Try.prog 46 #[.int .u64 N0] W fun e w' => e = .returned (.int .i64 (zagF N0)) ∧ W = w') := hid (fun W => zagR N0 W h0 h1)
  have hNb : 0 ≤ uns (zagF N0) ∧ uns (zagF N0) < 18446744073709551616 := by unfold uns; omega
  obtain ⟨N, HE⟩ : ∃ N, uns (zagF N0) = N := ⟨_, rfl⟩
  rw [HE] at hun hNb ⊢
  have HH := hid (fun W => holdsR 7 N W hNb.1 hNb.2)
  by_cases he : er = 0
  · subst he
    cases hh : khold 7 N with
    | false =>
      rw [numG_no hh]
      rw [hh] at HH
      clear hh
      go_enter Try.func24, Try.ntmps24
      go_wp2_with (first | (go_at_call 16; refine (HW.out _).mono ?_; rintro e w' ⟨rfl, rfl⟩) | (go_at_call 45; refine (HN.out _ (below_two _ _)).mono ?_; rintro e w' ⟨rfl, rfl⟩) | (go_at_call 29; refine (HH.out _).mono ?_; rintro e w' ⟨rfl, rfl⟩) | (go_at_call 46; refine (HZ.out _).mono ?_; rintro e w' ⟨rfl, rfl⟩))
      exact bodyPost_ret (v := .tuple #[.agg #[.int .u64 0, .slice none 0 0, .slice none 0 0], .int .i64 0, .int .i64 7]) (by simp [results, Try.results24, go_sem]) rfl (gave_err rfl (below_two _ _))
    | true =>
      rw [numG_ok hh]
      rw [hh] at HH
      clear hh
      go_enter Try.func24, Try.ntmps24
      go_wp2_with (first | (go_at_call 16; refine (HW.out _).mono ?_; rintro e w' ⟨rfl, rfl⟩) | (go_at_call 45; refine (HN.out _ (below_two _ _)).mono ?_; rintro e w' ⟨rfl, rfl⟩) | (go_at_call 29; refine (HH.out _).mono ?_; rintro e w' ⟨rfl, rfl⟩) | (go_at_call 46; refine (HZ.out _).mono ?_; rintro e w' ⟨rfl, rfl⟩))
      exact bodyPost_ret (v := .tuple #[.agg #[.int .u64 N, .slice none 0 0, .slice none 0 0], .int .i64 nx, .int .i64 0]) (by simp [results, Try.results24, go_sem]) rfl (gave_num rfl (below_two _ _))
  · have hne : (er != 0) = true := by simpa using he
    rw [numG_err hne]
    clear he
    go_enter Try.func24, Try.ntmps24
    go_wp2_with (first | (go_at_call 16; refine (HW.out _).mono ?_; rintro e w' ⟨rfl, rfl⟩) | (go_at_call 45; refine (HN.out _ (below_two _ _)).mono ?_; rintro e w' ⟨rfl, rfl⟩) | (go_at_call 29; refine (HH.out _).mono ?_; rintro e w' ⟨rfl, rfl⟩) | (go_at_call 46; refine (HZ.out _).mono ?_; rintro e w' ⟨rfl, rfl⟩))
    exact bodyPost_ret (v := .tuple #[.agg #[.int .u64 0, .slice none 0 0, .slice none 0 0], .int .i64 0, .int .i64 er]) (by simp [results, Try.results24, go_sem]) rfl (gave_err rfl (below_two _ _))
theorem refNum9 (h0 : 0 ≤ N0) (h1 : N0 < 18446744073709551616) (HG : ∀ W : World, Below w.heap.size w W → Calls Try.prog 47 #[.slice a len cap, .int .i64 p, .int .i64 8] W fun e w' => e = .returned (.tuple #[.int .u64 N0, .int .i64 nx, .int .i64 er]) ∧ W = w') :
    Calls Try.prog 24 #[.int .i64 9, .slice a len cap, .int .i64 p] w fun e w' => Gave w (numG 9 N0 nx er) e w' := by
  have HN := hid HG
  have HW : Hid (∀ W : World, Calls Try.prog 16 #[.int .i64 9] W fun e w' => e = .returned (.int .i64 1) ∧ W = w') := hid (fun W => wireKR 9 W)
  clear HG
  have HH := hid (fun W => holdsR 9 N0 W h0 h1)
  by_cases he : er = 0
  · subst he
    cases hh : khold 9 N0 with
    | false =>
      rw [numG_no hh]
      rw [hh] at HH
      clear hh
      go_enter Try.func24, Try.ntmps24
      go_wp2_with (first | (go_at_call 16; refine (HW.out _).mono ?_; rintro e w' ⟨rfl, rfl⟩) | (go_at_call 47; refine (HN.out _ (below_two _ _)).mono ?_; rintro e w' ⟨rfl, rfl⟩) | (go_at_call 29; refine (HH.out _).mono ?_; rintro e w' ⟨rfl, rfl⟩))
      exact bodyPost_ret (v := .tuple #[.agg #[.int .u64 0, .slice none 0 0, .slice none 0 0], .int .i64 0, .int .i64 7]) (by simp [results, Try.results24, go_sem]) rfl (gave_err rfl (below_two _ _))
    | true =>
      rw [numG_ok hh]
      rw [hh] at HH
      clear hh
      go_enter Try.func24, Try.ntmps24
      go_wp2_with (first | (go_at_call 16; refine (HW.out _).mono ?_; rintro e w' ⟨rfl, rfl⟩) | (go_at_call 47; refine (HN.out _ (below_two _ _)).mono ?_; rintro e w' ⟨rfl, rfl⟩) | (go_at_call 29; refine (HH.out _).mono ?_; rintro e w' ⟨rfl, rfl⟩))
      exact bodyPost_ret (v := .tuple #[.agg #[.int .u64 N0, .slice none 0 0, .slice none 0 0], .int .i64 nx, .int .i64 0]) (by simp [results, Try.results24, go_sem]) rfl (gave_num rfl (below_two _ _))
  · have hne : (er != 0) = true := by simpa using he
    rw [numG_err hne]
    clear he
    go_enter Try.func24, Try.ntmps24
    go_wp2_with (first | (go_at_call 16; refine (HW.out _).mono ?_; rintro e w' ⟨rfl, rfl⟩) | (go_at_call 47; refine (HN.out _ (below_two _ _)).mono ?_; rintro e w' ⟨rfl, rfl⟩) | (go_at_call 29; refine (HH.out _).mono ?_; rintro e w' ⟨rfl, rfl⟩))
    exact bodyPost_ret (v := .tuple #[.agg #[.int .u64 0, .slice none 0 0, .slice none 0 0], .int .i64 0, .int .i64 er]) (by simp [results, Try.results24, go_sem]) rfl (gave_err rfl (below_two _ _))
theorem refNum11 (h0 : 0 ≤ N0) (h1 : N0 < 18446744073709551616) (HG : ∀ W : World, Below w.heap.size w W → Calls Try.prog 47 #[.slice a len cap, .int .i64 p, .int .i64 8] W fun e w' => e = .returned (.tuple #[.int .u64 N0, .int .i64 nx, .int .i64 er]) ∧ W = w') :
    Calls Try.prog 24 #[.int .i64 11, .slice a len cap, .int .i64 p] w fun e w' => Gave w (numG 11 N0 nx er) e w' := by
  have HN := hid HG
  have HW : Hid (∀ W : World, Calls Try.prog 16 #[.int .i64 11] W fun e w' => e = .returned (.int .i64 1) ∧ W = w') := hid (fun W => wireKR 11 W)
  clear HG
  have HH := hid (fun W => holdsR 11 N0 W h0 h1)
  by_cases he : er = 0
  · subst he
    cases hh : khold 11 N0 with
    | false =>
      rw [numG_no hh]
      rw [hh] at HH
      clear hh
      go_enter Try.func24, Try.ntmps24
      go_wp2_with (first | (go_at_call 16; refine (HW.out _).mono ?_; rintro e w' ⟨rfl, rfl⟩) | (go_at_call 47; refine (HN.out _ (below_two _ _)).mono ?_; rintro e w' ⟨rfl, rfl⟩) | (go_at_call 29; refine (HH.out _).mono ?_; rintro e w' ⟨rfl, rfl⟩))
      exact bodyPost_ret (v := .tuple #[.agg #[.int .u64 0, .slice none 0 0, .slice none 0 0], .int .i64 0, .int .i64 7]) (by simp [results, Try.results24, go_sem]) rfl (gave_err rfl (below_two _ _))
    | true =>
      rw [numG_ok hh]
      rw [hh] at HH
      clear hh
      go_enter Try.func24, Try.ntmps24
      go_wp2_with (first | (go_at_call 16; refine (HW.out _).mono ?_; rintro e w' ⟨rfl, rfl⟩) | (go_at_call 47; refine (HN.out _ (below_two _ _)).mono ?_; rintro e w' ⟨rfl, rfl⟩) | (go_at_call 29; refine (HH.out _).mono ?_; rintro e w' ⟨rfl, rfl⟩))
      exact bodyPost_ret (v := .tuple #[.agg #[.int .u64 N0, .slice none 0 0, .slice none 0 0], .int .i64 nx, .int .i64 0]) (by simp [results, Try.results24, go_sem]) rfl (gave_num rfl (below_two _ _))
  · have hne : (er != 0) = true := by simpa using he
    rw [numG_err hne]
    clear he
    go_enter Try.func24, Try.ntmps24
    go_wp2_with (first | (go_at_call 16; refine (HW.out _).mono ?_; rintro e w' ⟨rfl, rfl⟩) | (go_at_call 47; refine (HN.out _ (below_two _ _)).mono ?_; rintro e w' ⟨rfl, rfl⟩) | (go_at_call 29; refine (HH.out _).mono ?_; rintro e w' ⟨rfl, rfl⟩))
    exact bodyPost_ret (v := .tuple #[.agg #[.int .u64 0, .slice none 0 0, .slice none 0 0], .int .i64 0, .int .i64 er]) (by simp [results, Try.results24, go_sem]) rfl (gave_err rfl (below_two _ _))
theorem refNum13 (h0 : 0 ≤ N0) (h1 : N0 < 18446744073709551616) (HG : ∀ W : World, Below w.heap.size w W → Calls Try.prog 47 #[.slice a len cap, .int .i64 p, .int .i64 8] W fun e w' => e = .returned (.tuple #[.int .u64 N0, .int .i64 nx, .int .i64 er]) ∧ W = w') :
    Calls Try.prog 24 #[.int .i64 13, .slice a len cap, .int .i64 p] w fun e w' => Gave w (numG 13 N0 nx er) e w' := by
  have HN := hid HG
  have HW : Hid (∀ W : World, Calls Try.prog 16 #[.int .i64 13] W fun e w' => e = .returned (.int .i64 1) ∧ W = w') := hid (fun W => wireKR 13 W)
  clear HG
  have HH := hid (fun W => holdsR 13 N0 W h0 h1)
  by_cases he : er = 0
  · subst he
    cases hh : khold 13 N0 with
    | false =>
      rw [numG_no hh]
      rw [hh] at HH
      clear hh
      go_enter Try.func24, Try.ntmps24
      go_wp2_with (first | (go_at_call 16; refine (HW.out _).mono ?_; rintro e w' ⟨rfl, rfl⟩) | (go_at_call 47; refine (HN.out _ (below_two _ _)).mono ?_; rintro e w' ⟨rfl, rfl⟩) | (go_at_call 29; refine (HH.out _).mono ?_; rintro e w' ⟨rfl, rfl⟩))
      exact bodyPost_ret (v := .tuple #[.agg #[.int .u64 0, .slice none 0 0, .slice none 0 0], .int .i64 0, .int .i64 7]) (by simp [results, Try.results24, go_sem]) rfl (gave_err rfl (below_two _ _))
    | true =>
      rw [numG_ok hh]
      rw [hh] at HH
      clear hh
      go_enter Try.func24, Try.ntmps24
      go_wp2_with (first | (go_at_call 16; refine (HW.out _).mono ?_; rintro e w' ⟨rfl, rfl⟩) | (go_at_call 47; refine (HN.out _ (below_two _ _)).mono ?_; rintro e w' ⟨rfl, rfl⟩) | (go_at_call 29; refine (HH.out _).mono ?_; rintro e w' ⟨rfl, rfl⟩))
      exact bodyPost_ret (v := .tuple #[.agg #[.int .u64 N0, .slice none 0 0, .slice none 0 0], .int .i64 nx, .int .i64 0]) (by simp [results, Try.results24, go_sem]) rfl (gave_num rfl (below_two _ _))
  · have hne : (er != 0) = true := by simpa using he
    rw [numG_err hne]
    clear he
    go_enter Try.func24, Try.ntmps24
    go_wp2_with (first | (go_at_call 16; refine (HW.out _).mono ?_; rintro e w' ⟨rfl, rfl⟩) | (go_at_call 47; refine (HN.out _ (below_two _ _)).mono ?_; rintro e w' ⟨rfl, rfl⟩) | (go_at_call 29; refine (HH.out _).mono ?_; rintro e w' ⟨rfl, rfl⟩))
    exact bodyPost_ret (v := .tuple #[.agg #[.int .u64 0, .slice none 0 0, .slice none 0 0], .int .i64 0, .int .i64 er]) (by simp [results, Try.results24, go_sem]) rfl (gave_err rfl (below_two _ _))
theorem refNum8 (h0 : 0 ≤ N0) (h1 : N0 < 18446744073709551616) (HG : ∀ W : World, Below w.heap.size w W → Calls Try.prog 47 #[.slice a len cap, .int .i64 p, .int .i64 4] W fun e w' => e = .returned (.tuple #[.int .u64 N0, .int .i64 nx, .int .i64 er]) ∧ W = w') :
    Calls Try.prog 24 #[.int .i64 8, .slice a len cap, .int .i64 p] w fun e w' => Gave w (numG 8 N0 nx er) e w' := by
  have HN := hid HG
  have HW : Hid (∀ W : World, Calls Try.prog 16 #[.int .i64 8] W fun e w' => e = .returned (.int .i64 5) ∧ W = w') := hid (fun W => wireKR 8 W)
  clear HG
  have HH := hid (fun W => holdsR 8 N0 W h0 h1)
  by_cases he : er = 0
  · subst he
    cases hh : khold 8 N0 with
    | false =>
      rw [numG_no hh]
      rw [hh] at HH
      clear hh
      go_enter Try.func24, Try.ntmps24
      go_wp2_with (first | (go_at_call 16; refine (HW.out _).mono ?_; rintro e w' ⟨rfl, rfl⟩) | (go_at_call 47; refine (HN.out _ (below_two _ _)).mono ?_; rintro e w' ⟨rfl, rfl⟩) | (go_at_call 29; refine (HH.out _).mono ?_; rintro e w' ⟨rfl, rfl⟩))
      exact bodyPost_ret (v := .tuple #[.agg #[.int .u64 0, .slice none 0 0, .slice none 0 0], .int .i64 0, .int .i64 7]) (by simp [results, Try.results24, go_sem]) rfl (gave_err rfl (below_two _ _))
    | true =>
      rw [numG_ok hh]
      rw [hh] at HH
      clear hh
      go_enter Try.func24, Try.ntmps24
      go_wp2_with (first | (go_at_call 16; refine (HW.out _).mono ?_; rintro e w' ⟨rfl, rfl⟩) | (go_at_call 47; refine (HN.out _ (below_two _ _)).mono ?_; rintro e w' ⟨rfl, rfl⟩) | (go_at_call 29; refine (HH.out _).mono ?_; rintro e w' ⟨rfl, rfl⟩))
      exact bodyPost_ret (v := .tuple #[.agg #[.int .u64 N0, .slice none 0 0, .slice none 0 0], .int .i64 nx, .int .i64 0]) (by simp [results, Try.results24, go_sem]) rfl (gave_num rfl (below_two _ _))
  · have hne : (er != 0) = true := by simpa using he
    rw [numG_err hne]
    clear he
    go_enter Try.func24, Try.ntmps24
    go_wp2_with (first | (go_at_call 16; refine (HW.out _).mono ?_; rintro e w' ⟨rfl, rfl⟩) | (go_at_call 47; refine (HN.out _ (below_two _ _)).mono ?_; rintro e w' ⟨rfl, rfl⟩) | (go_at_call 29; refine (HH.out _).mono ?_; rintro e w' ⟨rfl, rfl⟩))
    exact bodyPost_ret (v := .tuple #[.agg #[.int .u64 0, .slice none 0 0, .slice none 0 0], .int .i64 0, .int .i64 er]) (by simp [results, Try.results24, go_sem]) rfl (gave_err rfl (below_two _ _))
theorem refNum12 (h0 : 0 ≤ N0) (h1 : N0 < 18446744073709551616) (HG : ∀ W : World, Below w.heap.size w W → Calls Try.prog 47 #[.slice a len cap, .int .i64 p, .int .i64 4] W fun e w' => e = .returned (.tuple #[.int .u64 N0, .int .i64 nx, .int .i64 er]) ∧ W = w') :
    Calls Try.prog 24 #[.int .i64 12, .slice a len cap, .int .i64 p] w fun e w' => Gave w (numG 12 N0 nx er) e w' := by
  have HN := hid HG
  have HW : Hid (∀ W : World, Calls Try.prog 16 #[.int .i64 12] W fun e w' => e = .returned (.int .i64 5) ∧ W = w') := hid (fun W => wireKR 12 W)
  clear HG
  have HH := hid (fun W => holdsR 12 N0 W h0 h1)
  by_cases he : er = 0
  · subst he
    cases hh : khold 12 N0 with
    | false =>
      rw [numG_no hh]
      rw [hh] at HH
      clear hh
      go_enter Try.func24, Try.ntmps24
      go_wp2_with (first | (go_at_call 16; refine (HW.out _).mono ?_; rintro e w' ⟨rfl, rfl⟩) | (go_at_call 47; refine (HN.out _ (below_two _ _)).mono ?_; rintro e w' ⟨rfl, rfl⟩) | (go_at_call 29; refine (HH.out _).mono ?_; rintro e w' ⟨rfl, rfl⟩))
      exact bodyPost_ret (v := .tuple #[.agg #[.int .u64 0, .slice none 0 0, .slice none 0 0], .int .i64 0, .int .i64 7]) (by simp [results, Try.results24, go_sem]) rfl (gave_err rfl (below_two _ _))
    | true =>
      rw [numG_ok hh]
      rw [hh] at HH
      clear hh
      go_enter Try.func24, Try.ntmps24
      go_wp2_with (first | (go_at_call 16; refine (HW.out _).mono ?_; rintro e w' ⟨rfl, rfl⟩) | (go_at_call 47; refine (HN.out _ (below_two _ _)).mono ?_; rintro e w' ⟨rfl, rfl⟩) | (go_at_call 29; refine (HH.out _).mono ?_; rintro e w' ⟨rfl, rfl⟩))
      exact bodyPost_ret (v := .tuple #[.agg #[.int .u64 N0, .slice none 0 0, .slice none 0 0], .int .i64 nx, .int .i64 0]) (by simp [results, Try.results24, go_sem]) rfl (gave_num rfl (below_two _ _))
  · have hne : (er != 0) = true := by simpa using he
    rw [numG_err hne]
    clear he
    go_enter Try.func24, Try.ntmps24
    go_wp2_with (first | (go_at_call 16; refine (HW.out _).mono ?_; rintro e w' ⟨rfl, rfl⟩) | (go_at_call 47; refine (HN.out _ (below_two _ _)).mono ?_; rintro e w' ⟨rfl, rfl⟩) | (go_at_call 29; refine (HH.out _).mono ?_; rintro e w' ⟨rfl, rfl⟩))
    exact bodyPost_ret (v := .tuple #[.agg #[.int .u64 0, .slice none 0 0, .slice none 0 0], .int .i64 0, .int .i64 er]) (by simp [results, Try.results24, go_sem]) rfl (gave_err rfl (below_two _ _))
theorem refNum10 (h0 : 0 ≤ N0) (h1 : N0 < 4294967296) (HG : ∀ W : World, Below w.heap.size w W → Calls Try.prog 47 #[.slice a len cap, .int .i64 p, .int .i64 4] W fun e w' => e = .returned (.tuple #[.int .u64 N0, .int .i64 nx, .int .i64 er]) ∧ W = w') :
    Calls Try.prog 24 #[.int .i64 10, .slice a len cap, .int .i64 p] w fun e w' => Gave w (numG 10 (wid N0) nx er) e w' := by
  have HN := hid HG
  have HW : Hid (∀ W : World, Calls Try.prog 16 #[.int .i64 10] W fun e w' => e = .returned (.int .i64 5) ∧ W = w') := hid (fun W => wireKR 10 W)
  clear HG
  have hun := wid_conv h0 h1
  have hNb : 0 ≤ wid N0 ∧ wid N0 < 18446744073709551616 := by unfold wid; split <;> omega
  obtain ⟨N, HE⟩ : ∃ N, wid N0 = N := ⟨_, rfl⟩
  rw [HE] at hun hNb ⊢
  have HH := hid (fun W => holdsR 10 N W hNb.1 hNb.2)
  by_cases he : er = 0
  · subst he
    cases hh : khold 10 N with
    | false =>
      rw [numG_no hh]
      rw [hh] at HH
      clear hh
      go_enter Try.func24, Try.ntmps24
      go_wp2_with (first | (go_at_call 16; refine (HW.out _).mono ?_; rintro e w' ⟨rfl, rfl⟩) | (go_at_call 47; refine (HN.out _ (below_two _ _)).mono ?_; rintro e w' ⟨rfl, rfl⟩) | (go_at_call 29; refine (HH.out _).mono ?_; rintro e w' ⟨rfl, rfl⟩))
      exact bodyPost_ret (v := .tuple #[.agg #[.int .u64 0, .slice none 0 0, .slice none 0 0], .int .i64 0, .int .i64 7]) (by simp [results, Try.results24, go_sem]) rfl (gave_err rfl (below_two _ _))
    | true =>
      rw [numG_ok hh]
      rw [hh] at HH
      clear hh
      go_enter Try.func24, Try.ntmps24
      go_wp2_with (first | (go_at_call 16; refine (HW.out _).mono ?_; rintro e w' ⟨rfl, rfl⟩) | (go_at_call 47; refine (HN.out _ (below_two _ _)).mono ?_; rintro e w' ⟨rfl, rfl⟩) | (go_at_call 29; refine (HH.out _).mono ?_; rintro e w' ⟨rfl, rfl⟩))
      exact bodyPost_ret (v := .tuple #[.agg #[.int .u64 N, .slice none 0 0, .slice none 0 0], .int .i64 nx, .int .i64 0]) (by simp [results, Try.results24, go_sem]) rfl (gave_num rfl (below_two _ _))
  · have hne : (er != 0) = true := by simpa using he
    rw [numG_err hne]
    clear he
    go_enter Try.func24, Try.ntmps24
    go_wp2_with (first | (go_at_call 16; refine (HW.out _).mono ?_; rintro e w' ⟨rfl, rfl⟩) | (go_at_call 47; refine (HN.out _ (below_two _ _)).mono ?_; rintro e w' ⟨rfl, rfl⟩) | (go_at_call 29; refine (HH.out _).mono ?_; rintro e w' ⟨rfl, rfl⟩))
    exact bodyPost_ret (v := .tuple #[.agg #[.int .u64 0, .slice none 0 0, .slice none 0 0], .int .i64 0, .int .i64 er]) (by simp [results, Try.results24, go_sem]) rfl (gave_err rfl (below_two _ _))
end
end Go.Proofs.Ytgcimeldofbgkaa
