/-
  The walk of the law WireKnown: chapter 1's examples, call by call.
-/
import Derived.Test.YtaedbgdjjnkloabWV
namespace Go.Proofs.Ytaedbgdjjnkloab
open Go.RowKit

theorem reads_lit (w : World) (xs : List Int) (cs : Array Value) (n : Nat) (hc : cs = (xs.map (Value.int .u8)).toArray) (hn : n = xs.length) (hb : ∀ x ∈ xs, 0 ≤ x ∧ x ≤ 255) (hm : xs.length ≤ 9223372036854775807) : Reads (w.alloc (.cells cs 5)) (some ⟨w.heap.size, 0, none⟩) n n xs := by
  subst hc hn
  exact reads_new w xs hb hm

theorem k_put0 (w : World) : Calls Try.prog 13 #[.int .u64 0] w fun e w' => ∃ a c, e = .returned (.slice a 1 c) ∧ Reads w' a 1 c [0] ∧ Below w.heap.size w w' := putvWr 0 w (by decide) (by decide)
theorem k_putMax (w : World) : Calls Try.prog 13 #[.int .u64 18446744073709551615] w fun e w' => ∃ a c, e = .returned (.slice a 10 c) ∧ Reads w' a 10 c [255, 255, 255, 255, 255, 255, 255, 255, 255, 1] ∧ Below w.heap.size w w' := putvWr 18446744073709551615 w (by decide) (by decide)
theorem k_size (w : World) : Calls Try.prog 19 #[.int .u64 128] w fun e w' => e = .returned (.int .i64 2) ∧ w = w' := sizeW 128 w (by decide) (by decide)
theorem k_chunk (w : World) (a : Option Addr) (c : Nat) (h : Reads w a 2 c [2, 7]) : Calls Try.prog 9 #[.slice a 2 c, .int .i64 0] w fun e w' => ∃ b k, e = .returned (.tuple #[.slice b 0 k, .int .i64 0, .int .i64 3]) ∧ Reads w' b 0 k [] ∧ Below w.heap.size w w' := getChunkWr a 2 c 0 [2, 7] w h (by decide) (by decide)
theorem k_putChunk (w : World) (a : Option Addr) (c : Nat) (h : Reads w a 1 c [7]) : Calls Try.prog 10 #[.slice a 1 c] w fun e w' => ∃ b k, e = .returned (.slice b 2 k) ∧ Reads w' b 2 k [1, 7] ∧ Below w.heap.size w w' := putChunkW a 1 c [7] w h (by decide)
theorem k_getTag1 (w : World) (a : Option Addr) (c : Nat) (h : Reads w a 1 c [11]) : Calls Try.prog 25 #[.slice a 1 c, .int .i64 0] w fun e w' => e = .returned (.tuple #[.int .i64 0, .int .i64 0, .int .i64 0, .int .i64 6]) ∧ w = w' := getTagW a 1 c 0 [11] w h (by decide)
theorem k_getTag2 (w : World) (a : Option Addr) (c : Nat) (h : Reads w a 1 c [0]) : Calls Try.prog 25 #[.slice a 1 c, .int .i64 0] w fun e w' => e = .returned (.tuple #[.int .i64 0, .int .i64 0, .int .i64 0, .int .i64 5]) ∧ w = w' := getTagW a 1 c 0 [0] w h (by decide)
theorem k_getEntry (w : World) (a : Option Addr) (c : Nat) (h : Reads w a 4 c [18, 1, 9, 8]) : Calls Try.prog 16 #[.slice a 4 c, .int .i64 0] w fun e w' => ∃ v, e = .returned (.tuple #[.agg #[.int .i64 2, .int .i64 2, .int .u64 0, v], .int .i64 3, .int .i64 0]) ∧ w'.ownsRow w.heap.size 5 1 v 1 ([9].map (Value.int .u8)) ∧ Below w.heap.size w w' := getEntryW a 4 c 0 [18, 1, 9, 8] w h (by decide) (by decide)
theorem k_split1 (w : World) (a : Option Addr) (c : Nat) (h : Reads w a 4 c [8, 1, 18, 0]) : Calls Try.prog 7 #[.slice a 4 c] w fun e w' => ∃ b k, e = .returned (.tuple #[.slice b 2 k, .int .i64 0]) ∧ ReadsL w' b 2 k [⟨1, 0, 1, []⟩, ⟨2, 2, 0, []⟩] ∧ Below w.heap.size w w' := splitWr a 4 c [8, 1, 18, 0] w h (by decide)
theorem k_split2 (w : World) (a : Option Addr) (c : Nat) (h : Reads w a 1 c [8]) : Calls Try.prog 7 #[.slice a 1 c] w fun e w' => ∃ b k, e = .returned (.tuple #[.slice b 0 k, .int .i64 3]) ∧ ReadsL w' b 0 k [] ∧ Below w.heap.size w w' := splitWr a 1 c [8] w h (by decide)
end Go.Proofs.Ytaedbgdjjnkloab
