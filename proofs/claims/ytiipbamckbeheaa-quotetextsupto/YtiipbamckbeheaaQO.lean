/-
  QuoteTexts at a string as it comes in.
-/
import Derived.Test.YtiipbamckbeheaaQN
import Derived.Test.YtiipbamckbeheaaGX
namespace Go.Proofs.Ytiipbamckbeheaa
open Go.RowKit

theorem quoteTextsS (a : Option Addr) (len cap : Nat) (xs : List Int) (s : ByteArray) (w : World) (h : Reads w a len cap xs) (hm : len ≤ 1048576) (hl : s.data.toList.length ≤ 1048576) :
    Calls Try.prog 5 #[.slice a len cap, .string s] w fun e w' => e = .returned (.bool true) ∧ Below w.heap.size w w' := by
  have := quoteTextsW a len cap xs (numsS s) w h hm (numsS_bd s) (by rw [numsS_len]; exact hl)
  rw [numsS_str] at this
  exact this
end Go.Proofs.Ytiipbamckbeheaa
