/-
  The walk of the law WireWords.
-/
import Derived.Test.YtgcimeldofbgkaaWL
namespace Go.Proofs.Ytgcimeldofbgkaa
open Go.RowKit
set_option maxRecDepth 1000000

theorem reads_eq {w : World} {a : Option Addr} {l c : Nat} {xs ys : List Int} (h : Reads w a l c xs) (e : xs = ys) : Reads w a l c ys := by subst e; exact h

theorem putChunkRr (a : Option Addr) (len cap : Nat) (ys : List Int) (w : World) (hr : Reads w a len cap ys) (hm : 10 + len ≤ 140737488355328) :
    Calls Try.prog 43 #[.slice a len cap] w fun e w' => ∃ b c, e = .returned (.slice b (pc ys).length c) ∧ Reads w' b (pc ys).length c (pc ys) ∧ Below w.heap.size w w' := by
  have hlen := hr.length
  refine (putChunkR a len cap ys w hr hm).mono ?_
  rintro e w' ⟨v, rfl, ho, hb⟩
  obtain ⟨b, c, rfl, hr2⟩ := own_reads ho (by
    intro x hx
    rcases List.mem_append.1 hx with h | h
    · exact pv_bd (by omega) (by omega) x h
    · exact bd_mem hr.bd x h)
  exact ⟨b, c, rfl, hr2, hb⟩

end Go.Proofs.Ytgcimeldofbgkaa
