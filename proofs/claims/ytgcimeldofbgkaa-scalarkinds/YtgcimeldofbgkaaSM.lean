/-
  The law's own small functions: are two values, is an answer this one?
-/
import Derived.Test.YtgcimeldofbgkaaSL
namespace Go.Proofs.Ytgcimeldofbgkaa
open Go.RowKit
set_option maxRecDepth 1000000
set_option maxHeartbeats 2000000

theorem same3W (a1 a2 : Option Addr) (l1 c1 l2 c2 : Nat) (xs ys : List Int) (w : World) (h1 : Reads w a1 l1 c1 xs) (h2 : Reads w a2 l2 c2 ys) :
    Calls Try.prog 22 #[.slice a1 l1 c1, .slice a2 l2 c2] w fun e w' => e = .returned (.bool (decide (xs = ys))) ∧ w = w' := by
  have e1 := conv h1
  have e2 := conv h2
  have H := hid (str_eq (bd_mem h1.bd) (bd_mem h2.bd))
  clear h1 h2
  go_enter Try.func22, Try.ntmps22
  go_wp2
  go_ret
  exact ⟨ret_bool H.out, rfl⟩

section
variable (n1 n2 : Int) (a1 a2 m1 m2 : Option Addr) (l1 c1 l2 c2 k1 k2 : Nat) (xs ys : List Int) (w : World)
theorem sameVR (h1 : Reads w a1 l1 c1 xs) (h2 : Reads w a2 l2 c2 ys) :
    Calls Try.prog 44 #[.agg #[.int .u64 n1, .slice a1 l1 c1, .slice m1 0 k1], .agg #[.int .u64 n2, .slice a2 l2 c2, .slice m2 0 k2]] w fun e w' => e = .returned (.bool (decide (n1 = n2 ∧ xs = ys))) ∧ Below w.heap.size w w' := by
  have e1 := conv (w := (w.alloc (.cells #[.int .u64 n1, .slice a1 l1 c1, .slice m1 0 k1] 26)).alloc (.cells #[.int .u64 n2, .slice a2 l2 c2, .slice m2 0 k2] 26)) (reads_kept h1 (below_two _ _))
  have e2 := conv (w := (w.alloc (.cells #[.int .u64 n1, .slice a1 l1 c1, .slice m1 0 k1] 26)).alloc (.cells #[.int .u64 n2, .slice a2 l2 c2, .slice m2 0 k2] 26)) (reads_kept h2 (below_two _ _))
  have hs := str_eq (bd_mem h1.bd) (bd_mem h2.bd)
  clear h1 h2
  by_cases hn : n1 = n2
  · subst hn
    by_cases hx : xs = ys
    · subst hx
      rw [show decide (n1 = n1 ∧ xs = xs) = true by simp]
      clear hs
      go_enter Try.func44, Try.ntmps44
      go_wp2
      go_ret
      exact ⟨rfl, below_two _ _⟩
    · rw [show decide (n1 = n1 ∧ xs = ys) = false by simp [hx]]
      have hs2 : ((strOfNums xs).toList == (strOfNums ys).toList) = false := by rw [hs]; simpa using hx
      clear hx hs
      go_enter Try.func44, Try.ntmps44
      go_wp2
      go_ret
      exact ⟨rfl, below_two _ _⟩
  · rw [show decide (n1 = n2 ∧ xs = ys) = false by simp [hn]]
    have hn2 : (n1 == n2) = false := by simpa using hn
    clear hn hs
    go_enter Try.func44, Try.ntmps44
    go_wp2
    go_ret
    exact ⟨rfl, below_two _ _⟩

theorem toldYes (er : Int) (h1 : Reads w a1 l1 c1 xs) (h2 : Reads w a2 l2 c2 ys) (h0 : er ≠ 0 → n1 = 0 ∧ xs = []) (hz : er = 0 → n1 = n2 ∧ xs = ys) :
    Calls Try.prog 23 #[.agg #[.int .u64 n1, .slice a1 l1 c1, .slice m1 0 k1], .int .i64 er, .agg #[.int .u64 n2, .slice a2 l2 c2, .slice m2 0 k2], .int .i64 er] w fun e w' => e = .returned (.bool true) ∧ Below w.heap.size w w' := by
  by_cases he : er = 0
  · subst he
    obtain ⟨rfl, rfl⟩ := hz rfl
    have HS := hid (fun (W : World) (hW : Below w.heap.size w W) => sameVR n1 n1 a1 a2 m1 m2 l1 c1 l2 c2 k1 k2 xs xs W (reads_kept h1 hW) (reads_kept h2 hW))
    rw [show decide (n1 = n1 ∧ xs = xs) = true by simp] at HS
    clear h1 h2 h0 hz
    go_enter Try.func23, Try.ntmps23
    go_wp2_with (go_at_call 44; refine (HS.out _ (below_two _ _)).mono ?_; rintro e w2 ⟨rfl, hb2⟩; replace hb2 := hid hb2)
    go_ret
    exact ⟨rfl, below_trans (below_two _ _) hb2.out⟩
  · obtain ⟨rfl, rfl⟩ := h0 he
    have hne : (er != 0) = true := by simpa using he
    have HS := hid (fun (W : World) (hW : Below w.heap.size w W) => sameVR 0 0 a1 none m1 none l1 c1 0 0 k1 0 [] [] W (reads_kept h1 hW) (reads_nil _))
    rw [show decide ((0 : Int) = 0 ∧ ([] : List Int) = []) = true by simp] at HS
    clear h1 h2 h0 hz he
    go_enter Try.func23, Try.ntmps23
    go_wp2_with (go_at_call 44; refine (HS.out _ (below_two _ _)).mono ?_; rintro e w2 ⟨rfl, hb2⟩; replace hb2 := hid hb2)
    go_ret
    exact ⟨rfl, below_trans (below_two _ _) hb2.out⟩
end
theorem nW (x : Int) (w : World) : Calls Try.prog 27 #[.int .i64 x] w fun e w' => e = .returned (.agg #[.int .u64 (uns x), .slice none 0 0, .slice none 0 0]) ∧ Below w.heap.size w w' := by
  have hu := uns_conv x
  go_enter Try.func27, Try.ntmps27
  go_wp2
  exact bodyPost_ret (v := .agg #[.int .u64 (uns x), .slice none 0 0, .slice none 0 0]) (by simp [results, Try.results27, go_sem]) rfl ⟨rfl, below_alloc _⟩
end Go.Proofs.Ytgcimeldofbgkaa
