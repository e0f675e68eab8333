/-
  Walks over the functions of the layer wire that only compute: zigzag, the places, the number of a varint's bytes.
-/
import Derived.Test.YtaedbgdjjnkloabRows
import Derived.Test.YtaedbgdjjnkloabM
import Derived.WalkKit
import Derived.WalkSpells
import Derived.WalkLawsBesides
import Derived.Outline
import Derived.Below
namespace Go.Proofs.Ytaedbgdjjnkloab
open Go.RowKit

theorem ret_int {k : IntKind} {a b : Int} (h : a = b) : Ending.returned (.int k a) = .returned (.int k b) := by rw [h]

theorem outsideW (a : Option Addr) (len cap : Nat) (p : Int) (w : World) (_hl : len ≤ 9223372036854775807) :
    Calls Try.prog 20 #[.slice a len cap, .int .i64 p] w fun e w' => e = .returned (.bool (decide (p < 0 ∨ (len : Int) < p))) ∧ w = w' := by
  by_cases h : p < 0
  · have ht : decide (p < 0 ∨ (len : Int) < p) = true := by simp [h]
    rw [ht]
    go_enter Try.func20, Try.ntmps20
    go_wp2
    go_ret
    exact ⟨rfl, rfl⟩
  · have h2 : decide (p < 0) = false := by simpa using h
    have ht : decide (p < 0 ∨ (len : Int) < p) = decide ((len : Int) < p) := by simp [h]
    rw [ht]
    clear ht
    go_enter Try.func20, Try.ntmps20
    go_wp2
    go_ret
    exact ⟨rfl, rfl⟩

theorem outsideNo (a : Option Addr) (len cap : Nat) (p : Int) (w : World) (hl : len ≤ 9223372036854775807) (h0 : 0 ≤ p) (h1 : p ≤ len) :
    Calls Try.prog 20 #[.slice a len cap, .int .i64 p] w fun e w' => e = .returned (.bool false) ∧ w = w' := by
  refine (outsideW a len cap p w hl).mono ?_
  rintro e w' ⟨rfl, rfl⟩
  have ht : decide (p < 0 ∨ (len : Int) < p) = false := by simp; omega
  exact ⟨by rw [ht], rfl⟩
theorem outsideYes (a : Option Addr) (len cap : Nat) (p : Int) (w : World) (hl : len ≤ 9223372036854775807) (h : p < 0 ∨ (len : Int) < p) :
    Calls Try.prog 20 #[.slice a len cap, .int .i64 p] w fun e w' => e = .returned (.bool true) ∧ w = w' := by
  refine (outsideW a len cap p w hl).mono ?_
  rintro e w' ⟨rfl, rfl⟩
  have ht : decide (p < 0 ∨ (len : Int) < p) = true := by simpa using h
  exact ⟨by rw [ht], rfl⟩

set_option maxHeartbeats 400000 in
theorem sizeW (n : Int) (w : World) (h0 : 0 ≤ n) (h1 : n < 18446744073709551616) :
    Calls Try.prog 19 #[.int .u64 n] w fun e w' => e = .returned (.int .i64 (pv n).length) ∧ w = w' := by
  have HS : Hid (1 + cntF 8 (n / 128) = ((pv n).length : Int)) := cnt_start n h0
  have hb : n / 128 < 128 ^ (8 + 1) := div_lt 9 (lt_ten h1)
  have HL := pv_len n
  go_enter Try.func19, Try.ntmps19
  go_wp2
  go_loop [0, 3] (fun nn s => ∃ (f : Nat) (N S : Int), 0 ≤ N ∧ N < 128 ^ (f + 1) ∧ N < 18446744073709551616 ∧ 0 ≤ S ∧ S ≤ 10 ∧ nn = .int .u64 N ∧ s = .int .i64 S ∧ S + cntF f N = ((pv n).length : Int)) (fun nn _ => (intOf nn).toNat)
  case atStart => exact ⟨8, n / 128, 1, by omega, hb, by omega, by omega, by omega, rfl, rfl, HS.out⟩
  case round =>
    obtain ⟨f, N, S, hN0, hN, hN64, hS0, hS, rfl, rfl, hc⟩ := hrel
    have HC : Hid (S + cntF f N = ((pv n).length : Int)) := hc
    have HL' : Hid ((pv n).length ≤ 10) := HL.2
    clear hc HL HS hb
    by_cases hz : 0 < N
    · have H2 : Hid (∃ g, N / 128 < 128 ^ (g + 1) ∧ 1 + cntF g (N / 128) = cntF f N) := cnt_step f N hz hN
      clear hN
      go_wp2
      go_round
      case rel =>
        obtain ⟨g, hg, e⟩ := H2.out
        have := HC.out
        have := HL'.out
        have := cnt_nonneg g (N / 128)
        exact ⟨g, N / 128, S + 1, by omega, hg, by omega, by omega, by omega, rfl, rfl, by omega⟩
      case measure => simp [intOf]; omega
    · have hN : N = 0 := by omega
      subst hN
      go_wp2
      go_ret
      have := HC.out
      rw [cnt_zero] at this
      exact ⟨ret_int (by omega), rfl⟩
end Go.Proofs.Ytaedbgdjjnkloab
