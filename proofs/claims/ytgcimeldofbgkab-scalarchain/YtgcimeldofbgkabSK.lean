/-
  Get: the document's walk over numbers.
-/
import Derived.Test.YtgcimeldofbgkabSJ
namespace Go.Proofs.Ytgcimeldofbgkab
open Go.RowKit
set_option maxRecDepth 1000000
set_option maxHeartbeats 8000000

theorem below_two {w : World} (o o' : Obj) : Below w.heap.size w ((w.alloc o).alloc o') := below_trans (below_alloc _) (below_alloc _)
/-- What Get makes of a number that was read. -/
def numG (k N nx er : Int) : GotV := if er ≠ 0 then .none er else if khold k N = false then .none 7 else ⟨N, [], nx, 0⟩
theorem numG_err {k N nx er : Int} (h : (er != 0) = true) : numG k N nx er = .none er := by unfold numG; rw [if_pos (by simpa using h)]
theorem numG_no {k N nx : Int} (h : khold k N = false) : numG k N nx 0 = .none 7 := by unfold numG; rw [if_neg (by simp), if_pos h]
theorem numG_ok {k N nx : Int} (h : khold k N = true) : numG k N nx 0 = ⟨N, [], nx, 0⟩ := by unfold numG; rw [if_neg (by simp), if_neg (by simp [h])]
theorem wid_conv {n : Int} (h0 : 0 ≤ n) (h1 : n < 4294967296) : IntKind.u64.wrap (wrap64 (wrap32 n)) = wid n := by
  unfold wid
  rw [IntKind.wrap_u64]
  unfold wrap64 wrap32
  split <;> omega
theorem uns_conv (n : Int) : IntKind.u64.wrap n = uns n := by rw [IntKind.wrap_u64]; rfl
section
variable (N0 nx er : Int) (a : Option Addr) (len cap p : Nat) (w : World)
end
end Go.Proofs.Ytgcimeldofbgkab
