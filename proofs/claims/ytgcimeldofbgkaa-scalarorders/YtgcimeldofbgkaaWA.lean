/-
  Walks over the functions of the layer wire that only compute: zigzag, the places, the number of a varint's bytes.
-/
import Derived.Test.YtgcimeldofbgkaaRows
import Derived.Test.YtgcimeldofbgkaaM
import Derived.WalkKit
import Derived.WalkSpells
import Derived.WalkLawsBesides
import Derived.Outline
import Derived.Below
namespace Go.Proofs.Ytgcimeldofbgkaa
open Go.RowKit

theorem zigW (n : Int) (w : World) (h0 : -9223372036854775808 ≤ n) (h1 : n ≤ 9223372036854775807) :
    Calls Try.prog 32 #[.int .i64 n] w fun e w' => e = .returned (.int .u64 (zigF n)) ∧ w = w' := by
  by_cases h : n < 0
  · have e := zig_neg n h0 h
    have H : Hid (bits .xor .u64 IntKind.u64.max (IntKind.u64.wrap (IntKind.u64.wrap n * 2)) = zigF n) := e
    clear e
    go_enter Try.func32, Try.ntmps32
    go_wp2
    go_ret
    exact ⟨ret_int H.out, rfl⟩
  · have e : 2 * n = zigF n := by rw [zigF, if_pos (by omega)]
    have H : Hid (2 * n = zigF n) := e
    clear e
    go_enter Try.func32, Try.ntmps32
    go_wp2
    go_ret
    exact ⟨ret_int (by rw [← H.out]; omega), rfl⟩

theorem zagW (u : Int) (w : World) (h0 : 0 ≤ u) (h1 : u < 18446744073709551616) :
    Calls Try.prog 61 #[.int .u64 u] w fun e w' => e = .returned (.int .i64 (zagF u)) ∧ w = w' := by
  have hb : bits .and .u64 u 1 = u % 2 := Lib.u64_and1 u h0 h1
  by_cases h : u % 2 = 1
  · have e := zag_odd u h0 h1 h
    have H : Hid (wrap64 (bits .xor .u64 IntKind.u64.max (u / 2)) = zagF u) := e
    have ht : (bits .and .u64 u 1 == 1) = true := by rw [hb, h]; rfl
    clear e hb h
    go_enter Try.func61, Try.ntmps61
    go_wp2
    go_ret
    exact ⟨ret_int H.out, rfl⟩
  · have e : u / 2 = zagF u := by rw [zagF, if_pos (by omega)]
    have H : Hid (u / 2 = zagF u) := e
    have ht : (bits .and .u64 u 1 == 1) = false := by rw [hb]; simp; omega
    clear e hb h
    go_enter Try.func61, Try.ntmps61
    go_wp2
    go_ret
    exact ⟨ret_int H.out, rfl⟩

theorem zigR (n : Int) (w : World) (h0 : -9223372036854775808 ≤ n) (h1 : n ≤ 9223372036854775807) :
    Calls Try.prog 41 #[.int .i64 n] w fun e w' => e = .returned (.int .u64 (zigF n)) ∧ w = w' := by
  by_cases h : n < 0
  · have H : Hid (-(n + 1) * 2 + 1 = zigF n) := by rw [Hid, zigF, if_neg (by omega)]; omega
    go_enter Try.func41, Try.ntmps41
    go_wp2
    go_ret
    exact ⟨ret_int H.out, rfl⟩
  · have H : Hid (n * 2 = zigF n) := by rw [Hid, zigF, if_pos (by omega)]; omega
    go_enter Try.func41, Try.ntmps41
    go_wp2
    go_ret
    exact ⟨ret_int H.out, rfl⟩

theorem zagR (u : Int) (w : World) (h0 : 0 ≤ u) (h1 : u < 18446744073709551616) :
    Calls Try.prog 46 #[.int .u64 u] w fun e w' => e = .returned (.int .i64 (zagF u)) ∧ w = w' := by
  by_cases h : u % 2 = 0
  · have H : Hid (u / 2 = zagF u) := by rw [Hid, zagF, if_pos h]
    have ht : (u % 2 == 0) = true := by simp [h]
    clear h
    go_enter Try.func46, Try.ntmps46
    go_wp2
    go_ret
    exact ⟨ret_int H.out, rfl⟩
  · have H : Hid (-(u / 2) - 1 = zagF u) := by rw [Hid, zagF, if_neg h]
    have ht : (u % 2 == 0) = false := by simp [h]
    clear h
    go_enter Try.func46, Try.ntmps46
    go_wp2
    go_ret
    exact ⟨ret_int H.out, rfl⟩

theorem outsideW (a : Option Addr) (len cap : Nat) (p : Int) (w : World) (_hl : len ≤ 9223372036854775807) :
    Calls Try.prog 69 #[.slice a len cap, .int .i64 p] w fun e w' => e = .returned (.bool (decide (p < 0 ∨ (len : Int) < p))) ∧ w = w' := by
  by_cases h : p < 0
  · have ht : decide (p < 0 ∨ (len : Int) < p) = true := by simp [h]
    rw [ht]
    go_enter Try.func69, Try.ntmps69
    go_wp2
    go_ret
    exact ⟨rfl, rfl⟩
  · have h2 : decide (p < 0) = false := by simpa using h
    have ht : decide (p < 0 ∨ (len : Int) < p) = decide ((len : Int) < p) := by simp [h]
    rw [ht]
    clear ht
    go_enter Try.func69, Try.ntmps69
    go_wp2
    go_ret
    exact ⟨rfl, rfl⟩

theorem outsideNo (a : Option Addr) (len cap : Nat) (p : Int) (w : World) (hl : len ≤ 9223372036854775807) (h0 : 0 ≤ p) (h1 : p ≤ len) :
    Calls Try.prog 69 #[.slice a len cap, .int .i64 p] w fun e w' => e = .returned (.bool false) ∧ w = w' := by
  refine (outsideW a len cap p w hl).mono ?_
  rintro e w' ⟨rfl, rfl⟩
  have ht : decide (p < 0 ∨ (len : Int) < p) = false := by simp; omega
  exact ⟨by rw [ht], rfl⟩
theorem outsideYes (a : Option Addr) (len cap : Nat) (p : Int) (w : World) (hl : len ≤ 9223372036854775807) (h : p < 0 ∨ (len : Int) < p) :
    Calls Try.prog 69 #[.slice a len cap, .int .i64 p] w fun e w' => e = .returned (.bool true) ∧ w = w' := by
  refine (outsideW a len cap p w hl).mono ?_
  rintro e w' ⟨rfl, rfl⟩
  have ht : decide (p < 0 ∨ (len : Int) < p) = true := by simpa using h
  exact ⟨by rw [ht], rfl⟩

set_option maxHeartbeats 400000 in
theorem sizeW (n : Int) (w : World) (h0 : 0 ≤ n) (h1 : n < 18446744073709551616) :
    Calls Try.prog 57 #[.int .u64 n] w fun e w' => e = .returned (.int .i64 (pv n).length) ∧ w = w' := by
  have HS : Hid (1 + cntF 8 (n / 128) = ((pv n).length : Int)) := cnt_start n h0
  have hb : n / 128 < 128 ^ (8 + 1) := div_lt 9 (lt_ten h1)
  have HL := pv_len n
  go_enter Try.func57, Try.ntmps57
  go_wp2
  go_loop [0, 3] (fun nn s => ∃ (f : Nat) (N S : Int), 0 ≤ N ∧ N < 128 ^ (f + 1) ∧ N < 18446744073709551616 ∧ 0 ≤ S ∧ S ≤ 10 ∧ nn = .int .u64 N ∧ s = .int .i64 S ∧ S + cntF f N = ((pv n).length : Int)) (fun nn _ => (intOf nn).toNat)
  case atStart => exact ⟨8, n / 128, 1, by omega, hb, by omega, by omega, by omega, rfl, rfl, HS.out⟩
  case round =>
    obtain ⟨f, N, S, hN0, hN, hN64, hS0, hS, rfl, rfl, hc⟩ := hrel
    have HC : Hid (S + cntF f N = ((pv n).length : Int)) := hc
    have HL' : Hid ((pv n).length ≤ 10) := HL.2
    clear hc HL HS hb
    by_cases hz : 0 < N
    · have H2 : Hid (∃ g, N / 128 < 128 ^ (g + 1) ∧ 1 + cntF g (N / 128) = cntF f N) := cnt_step f N hz hN
      clear hN
      go_wp2
      go_round
      case rel =>
        obtain ⟨g, hg, e⟩ := H2.out
        have := HC.out
        have := HL'.out
        have := cnt_nonneg g (N / 128)
        exact ⟨g, N / 128, S + 1, by omega, hg, by omega, by omega, by omega, rfl, rfl, by omega⟩
      case measure => simp [intOf]; omega
    · have hN : N = 0 := by omega
      subst hN
      go_wp2
      go_ret
      have := HC.out
      rw [cnt_zero] at this
      exact ⟨ret_int (by omega), rfl⟩
end Go.Proofs.Ytgcimeldofbgkaa
