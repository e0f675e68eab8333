/-
  The walk of the law WireKnown: chapter 1's examples, call by call.
-/
import Derived.Test.YtaedbgdjjnkloaaWV
namespace Go.Proofs.Ytaedbgdjjnkloaa
open Go.RowKit

theorem reads_lit (w : World) (xs : List Int) (cs : Array Value) (n : Nat) (hc : cs = (xs.map (Value.int .u8)).toArray) (hn : n = xs.length) (hb : ∀ x ∈ xs, 0 ≤ x ∧ x ≤ 255) (hm : xs.length ≤ 9223372036854775807) : Reads (w.alloc (.cells cs 5)) (some ⟨w.heap.size, 0, none⟩) n n xs := by
  subst hc hn
  exact reads_new w xs hb hm

theorem readsTrue (a : Option Addr) (len cap p : Nat) (xs : List Int) (n nx f : Int) (w : World) (h : Reads w a len cap xs) (hp : p ≤ len) (hg : gv xs p = (n, nx, f)) :
    Calls Try.prog 13 #[.slice a len cap, .int .i64 p, .int .u64 n, .int .i64 nx, .int .i64 f] w fun e w' => e = .returned (.bool true) ∧ w = w' := by
  have hv := getvW a len cap p xs w h hp
  rw [hg] at hv
  have HV := hid hv
  clear hv h hg hp
  go_enter Try.func13, Try.ntmps13
  go_wp2_with fail
  refine HV.out.mono ?_
  rintro e w1 ⟨rfl, rfl⟩
  go_wp2
  go_ret
  exact ⟨by simp, rfl⟩
theorem readsOut (a : Option Addr) (len cap : Nat) (p : Int) (w : World) (hl : len ≤ 9223372036854775807) (hp : p < 0 ∨ (len : Int) < p) :
    Calls Try.prog 13 #[.slice a len cap, .int .i64 p, .int .u64 0, .int .i64 0, .int .i64 18] w fun e w' => e = .returned (.bool true) ∧ w = w' := by
  have HV := hid (getvOut a len cap p w hl hp)
  clear hp
  go_enter Try.func13, Try.ntmps13
  go_wp2_with fail
  refine HV.out.mono ?_
  rintro e w1 ⟨rfl, rfl⟩
  go_wp2
  go_ret
  exact ⟨rfl, rfl⟩

theorem k_put0 (w : World) : Calls Try.prog 11 #[.int .u64 0] w fun e w' => ∃ a c, e = .returned (.slice a 1 c) ∧ Reads w' a 1 c [0] ∧ Below w.heap.size w w' := putvWr 0 w (by decide) (by decide)
theorem k_putMax (w : World) : Calls Try.prog 11 #[.int .u64 18446744073709551615] w fun e w' => ∃ a c, e = .returned (.slice a 10 c) ∧ Reads w' a 10 c [255, 255, 255, 255, 255, 255, 255, 255, 255, 1] ∧ Below w.heap.size w w' := putvWr 18446744073709551615 w (by decide) (by decide)
theorem k_fix258 (w : World) : Calls Try.prog 16 #[.int .u32 258] w fun e w' => ∃ a c, e = .returned (.slice a 4 c) ∧ Reads w' a 4 c [2, 1, 0, 0] ∧ Below w.heap.size w w' := putFix32W 258 w (by decide) (by decide)
theorem k_size (w : World) : Calls Try.prog 12 #[.int .u64 128] w fun e w' => e = .returned (.int .i64 2) ∧ w = w' := sizeW 128 w (by decide) (by decide)
theorem k_zig1 (w : World) : Calls Try.prog 14 #[.int .i64 (-1)] w fun e w' => e = .returned (.int .u64 1) ∧ w = w' := zigW (-1) w (by decide) (by decide)
theorem k_zig2 (w : World) : Calls Try.prog 14 #[.int .i64 1] w fun e w' => e = .returned (.int .u64 2) ∧ w = w' := zigW 1 w (by decide) (by decide)
theorem k_zig3 (w : World) : Calls Try.prog 14 #[.int .i64 (-9223372036854775808)] w fun e w' => e = .returned (.int .u64 18446744073709551615) ∧ w = w' := zigW (-9223372036854775808) w (by decide) (by decide)
theorem k_zag (w : World) : Calls Try.prog 15 #[.int .u64 3] w fun e w' => e = .returned (.int .i64 (-2)) ∧ w = w' := zagW 3 w (by decide) (by decide)
theorem k_fix (w : World) (a : Option Addr) (c : Nat) (h : Reads w a 3 c [1, 0, 0]) : Calls Try.prog 17 #[.slice a 3 c, .int .i64 0] w fun e w' => e = .returned (.tuple #[.int .u32 0, .int .i64 0, .int .i64 3]) ∧ w = w' := getFix32W a 3 c 0 [1, 0, 0] w h (by decide)
theorem k_chunk (w : World) (a : Option Addr) (c : Nat) (h : Reads w a 2 c [2, 7]) : Calls Try.prog 18 #[.slice a 2 c, .int .i64 0] w fun e w' => ∃ b k, e = .returned (.tuple #[.slice b 0 k, .int .i64 0, .int .i64 3]) ∧ Reads w' b 0 k [] ∧ Below w.heap.size w w' := getChunkWr a 2 c 0 [2, 7] w h (by decide) (by decide)
theorem k_putChunk (w : World) (a : Option Addr) (c : Nat) (h : Reads w a 1 c [7]) : Calls Try.prog 19 #[.slice a 1 c] w fun e w' => ∃ b k, e = .returned (.slice b 2 k) ∧ Reads w' b 2 k [1, 7] ∧ Below w.heap.size w w' := putChunkW a 1 c [7] w h (by decide)
theorem k_tag1 (w : World) : Calls Try.prog 20 #[.int .i64 1, .int .i64 2] w fun e w' => ∃ a c, e = .returned (.tuple #[.slice a 1 c, .int .i64 0]) ∧ Reads w' a 1 c [10] ∧ Below w.heap.size w w' := putTagAny 1 2 w
theorem k_tag2 (w : World) : Calls Try.prog 20 #[.int .i64 0, .int .i64 0] w fun e w' => ∃ a c, e = .returned (.tuple #[.slice a 0 c, .int .i64 5]) ∧ Reads w' a 0 c [] ∧ Below w.heap.size w w' := putTagAny 0 0 w
theorem k_tag3 (w : World) : Calls Try.prog 20 #[.int .i64 1, .int .i64 3] w fun e w' => ∃ a c, e = .returned (.tuple #[.slice a 0 c, .int .i64 6]) ∧ Reads w' a 0 c [] ∧ Below w.heap.size w w' := putTagAny 1 3 w
theorem k_getTag1 (w : World) (a : Option Addr) (c : Nat) (h : Reads w a 1 c [11]) : Calls Try.prog 21 #[.slice a 1 c, .int .i64 0] w fun e w' => e = .returned (.tuple #[.int .i64 0, .int .i64 0, .int .i64 0, .int .i64 6]) ∧ w = w' := getTagW a 1 c 0 [11] w h (by decide)
theorem k_getTag2 (w : World) (a : Option Addr) (c : Nat) (h : Reads w a 1 c [0]) : Calls Try.prog 21 #[.slice a 1 c, .int .i64 0] w fun e w' => e = .returned (.tuple #[.int .i64 0, .int .i64 0, .int .i64 0, .int .i64 5]) ∧ w = w' := getTagW a 1 c 0 [0] w h (by decide)
theorem k_putEntry (w : World) : Calls Try.prog 22 #[.agg #[.int .i64 1, .int .i64 0, .int .u64 5, .slice none 0 0]] w fun e w' => ∃ a c, e = .returned (.tuple #[.slice a 2 c, .int .i64 0]) ∧ Reads w' a 2 c [8, 5] ∧ Below w.heap.size w w' := putEntryAny 1 0 5 none 0 0 [] w (reads_nil w) (by decide) (by decide) (by decide)
theorem k_getEntry (w : World) (a : Option Addr) (c : Nat) (h : Reads w a 4 c [18, 1, 9, 8]) : Calls Try.prog 23 #[.slice a 4 c, .int .i64 0] w fun e w' => ∃ v, e = .returned (.tuple #[.agg #[.int .i64 2, .int .i64 2, .int .u64 0, v], .int .i64 3, .int .i64 0]) ∧ w'.ownsRow w.heap.size 5 1 v 1 ([9].map (Value.int .u8)) ∧ Below w.heap.size w w' := getEntryW a 4 c 0 [18, 1, 9, 8] w h (by decide) (by decide)
theorem k_split1 (w : World) (a : Option Addr) (c : Nat) (h : Reads w a 4 c [8, 1, 18, 0]) : Calls Try.prog 24 #[.slice a 4 c] w fun e w' => ∃ b k, e = .returned (.tuple #[.slice b 2 k, .int .i64 0]) ∧ ReadsL w' b 2 k [⟨1, 0, 1, []⟩, ⟨2, 2, 0, []⟩] ∧ Below w.heap.size w w' := splitWr a 4 c [8, 1, 18, 0] w h (by decide)
theorem k_split2 (w : World) (a : Option Addr) (c : Nat) (h : Reads w a 1 c [8]) : Calls Try.prog 24 #[.slice a 1 c] w fun e w' => ∃ b k, e = .returned (.tuple #[.slice b 0 k, .int .i64 3]) ∧ ReadsL w' b 0 k [] ∧ Below w.heap.size w w' := splitWr a 1 c [8] w h (by decide)
end Go.Proofs.Ytaedbgdjjnkloaa
