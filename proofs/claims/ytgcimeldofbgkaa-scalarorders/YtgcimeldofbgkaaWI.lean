/-
  Walks over fixed words, the program's and the document's.
-/
import Derived.Test.YtgcimeldofbgkaaWH
import Derived.Test.YtgcimeldofbgkaaM3
namespace Go.Proofs.Ytgcimeldofbgkaa
open Go.RowKit
set_option maxRecDepth 1000000

theorem getWordOut (a : Option Addr) (len cap : Nat) (p size : Int) (w : World) (hl : len ≤ 9223372036854775807) (hp : p < 0 ∨ (len : Int) < p) :
    Calls Try.prog 70 #[.slice a len cap, .int .i64 p, .int .i64 size] w fun e w' => e = .returned (.tuple #[.int .u64 0, .int .i64 0, .int .i64 18]) ∧ w = w' := by
  have H := hid hp
  clear hp
  go_enter Try.func70, Try.ntmps70
  go_wp2_with (go_at_call 69; refine (outsideYes _ _ _ _ _ hl H.out).mono ?_; rintro e w' ⟨rfl, rfl⟩)
  go_ret3
  exact ⟨rfl, rfl⟩

theorem getWordShort (a : Option Addr) (len cap p size : Nat) (w : World) (hl : len ≤ 9223372036854775807) (hp : p ≤ len) (hs : size ≤ 8) (hs1 : len < p + size) :
    Calls Try.prog 70 #[.slice a len cap, .int .i64 p, .int .i64 size] w fun e w' => e = .returned (.tuple #[.int .u64 0, .int .i64 0, .int .i64 3]) ∧ w = w' := by
  go_enter Try.func70, Try.ntmps70
  go_wp2_with (go_at_call 69; refine (outsideNo _ _ _ _ _ hl (by omega) (by omega)).mono ?_; rintro e w' ⟨rfl, rfl⟩)
  go_ret3
  exact ⟨rfl, rfl⟩

set_option maxHeartbeats 400000 in
theorem getWordIn (b off len cap p size : Nat) (xs : List Int) (w : World) (hl : xs.length = len) (hlc : len ≤ cap) (hm : cap ≤ 9223372036854775807) (h8 : size ≤ 8) (h1 : 1 ≤ size) (hp : p + size ≤ len)
    (hc : ∀ i, i < len → w.cell? ⟨b, off + i, none⟩ = some (.int .u8 (xs.getD i 0))) (hr : ∀ i, 0 ≤ xs.getD i 0 ∧ xs.getD i 0 ≤ 255) :
    Calls Try.prog 70 #[.slice (some ⟨b, off, none⟩) len cap, .int .i64 p, .int .i64 size] w fun e w' =>
      e = .returned (.tuple #[.int .u64 (wordF ((xs.drop p).take size)), .int .i64 (p + size), .int .i64 0]) ∧ w = w' := by
  have hd : decide ((len : Int) - p < size) = false := by simp; omega
  have hbd : ∀ x ∈ xs, 0 ≤ x ∧ x ≤ 255 := bd_mem hr
  have HB := hid hbd
  clear hbd
  go_enter Try.func70, Try.ntmps70
  go_wp2_with (go_at_call 69; refine (outsideNo _ _ _ _ _ (by omega) (by omega) (by omega)).mono ?_; rintro e w' ⟨rfl, rfl⟩)
  go_loop [6, 28] (fun n r => ∃ (k : Nat) (X : Int), k ≤ size ∧ r = .int .i64 k ∧ n = .int .u64 X ∧ Hid (X = wordF ((xs.drop p).take k))) (fun _ r => size - (intOf r).toNat)
  case atStart => exact ⟨0, 0, by omega, rfl, rfl, by show _ = _; simp [wordF]⟩
  case round =>
    obtain ⟨k, X, hk, rfl, rfl, HX⟩ := hrel
    have hrk : 0 ≤ xs[p + k]?.getD 0 ∧ xs[p + k]?.getD 0 ≤ 255 := by have := hr (p + k); rwa [List.getD_eq_getElem?_getD] at this
    have hck : k < size → w.cell? ⟨b, off + p + k, none⟩ = some (.int .u8 (xs.getD (p + k) 0)) := fun h => by rw [Nat.add_assoc]; exact hc (p + k) (by omega)
    clear hr hc
    by_cases hlt : k < size
    · have hck := hck hlt
      go_wp2
      go_round
      case rel =>
        have hwb := word_bd ((xs.drop p).take k) (fun x hx => HB.out x (List.mem_of_mem_drop (List.mem_of_mem_take hx)))
        have hlen : ((xs.drop p).take k).length = k := by simp; omega
        rw [hlen, ← HX.out] at hwb
        have hsn : (xs.drop p).take (k + 1) = (xs.drop p).take k ++ [xs[p + k]?.getD 0] := by rw [take_snoc (by simp; omega), drop_get]
        refine ⟨k + 1, X + xs[p + k]?.getD 0 * 2 ^ (8 * k), by omega, by go_num, by rw [or_word k (by omega) X _ hwb.1 hwb.2 hrk.1 hrk.2], ?_⟩
        show _ = _
        rw [hsn, word_snoc, hlen, ← HX.out]
      case measure => simp [intOf]; omega
    · obtain rfl : k = size := by omega
      go_wp2
      go_ret3
      exact ⟨by rw [← HX.out]; rfl, rfl⟩

/-- getWord at a place of a slice that can be read. -/
theorem getWordW (a : Option Addr) (len cap p size : Nat) (xs : List Int) (w : World) (h : Reads w a len cap xs) (hp : p ≤ len) (h8 : size ≤ 8) (h1 : 1 ≤ size) :
    Calls Try.prog 70 #[.slice a len cap, .int .i64 p, .int .i64 size] w fun e w' =>
      e = .returned (.tuple #[.int .u64 (gw xs p size).1, .int .i64 (gw xs p size).2.1, .int .i64 (gw xs p size).2.2]) ∧ w = w' := by
  have hlen := h.length
  unfold gw
  by_cases hs : xs.length < p + size
  · rw [if_pos hs]
    exact getWordShort a len cap p size w (Nat.le_trans h.le h.max) hp h8 (by omega)
  · rw [if_neg hs]
    rcases h.cells with ⟨h0, _⟩ | ⟨b, off, rfl, hc⟩
    · omega
    · exact getWordIn b off len cap p size xs w h.length h.le h.max h8 h1 (by omega) hc h.bd

theorem refWordShort (a : Option Addr) (len cap p size : Nat) (w : World) (_hl : len ≤ 9223372036854775807) (hp : p ≤ len) (hs : size ≤ 8) (hs1 : len < p + size) :
    Calls Try.prog 47 #[.slice a len cap, .int .i64 p, .int .i64 size] w fun e w' => e = .returned (.tuple #[.int .u64 0, .int .i64 0, .int .i64 3]) ∧ w = w' := by
  go_enter Try.func47, Try.ntmps47
  go_wp2
  go_ret3
  exact ⟨rfl, rfl⟩

set_option maxHeartbeats 400000 in
theorem refWordIn (b off len cap p size : Nat) (xs : List Int) (w : World) (hl : xs.length = len) (hlc : len ≤ cap) (hm : cap ≤ 9223372036854775807) (h8 : size ≤ 8) (h1 : 1 ≤ size) (hp : p + size ≤ len)
    (hc : ∀ i, i < len → w.cell? ⟨b, off + i, none⟩ = some (.int .u8 (xs.getD i 0))) (hr : ∀ i, 0 ≤ xs.getD i 0 ∧ xs.getD i 0 ≤ 255) :
    Calls Try.prog 47 #[.slice (some ⟨b, off, none⟩) len cap, .int .i64 p, .int .i64 size] w fun e w' =>
      e = .returned (.tuple #[.int .u64 (wordF ((xs.drop p).take size)), .int .i64 (p + size), .int .i64 0]) ∧ w = w' := by
  have hd : decide ((len : Int) - p < size) = false := by simp; omega
  have hbd : ∀ x ∈ xs, 0 ≤ x ∧ x ≤ 255 := bd_mem hr
  have HB := hid hbd
  clear hbd
  go_enter Try.func47, Try.ntmps47
  go_wp2
  go_loop [9, 10] (fun n r => ∃ (i X : Int), -1 ≤ i ∧ i < size ∧ r = .int .i64 i ∧ n = .int .u64 X ∧ Hid (X = wordF (((xs.drop p).take size).drop (i + 1).toNat))) (fun _ r => (intOf r + 1).toNat)
  case atStart => exact ⟨size - 1, 0, by omega, by omega, rfl, rfl, by show _ = _; rw [List.drop_eq_nil_of_le (by simp; omega)]; rfl⟩
  case round =>
    obtain ⟨i, X, hi0, hi1, rfl, rfl, HX⟩ := hrel
    by_cases hge : 0 ≤ i
    · obtain ⟨m, rfl⟩ := Int.eq_ofNat_of_zero_le hge
      have hrk : 0 ≤ xs[p + m]?.getD 0 ∧ xs[p + m]?.getD 0 ≤ 255 := by have := hr (p + m); rwa [List.getD_eq_getElem?_getD] at this
      have hck : w.cell? ⟨b, off + (p + m), none⟩ = some (.int .u8 (xs.getD (p + m) 0)) := hc (p + m) (by omega)
      have hlen : ((xs.drop p).take size).length = size := by simp; omega
      have hX := drop_lt (l := (xs.drop p).take size) (fun x hx => HB.out x (List.mem_of_mem_drop (List.mem_of_mem_take hx))) (by omega) m
      have hXe : X = wordF (((xs.drop p).take size).drop (m + 1)) := by rw [HX.out]; congr 2
      rw [← hXe] at hX
      have H2 : Hid (X * 256 + xs[p + m]?.getD 0 = wordF (((xs.drop p).take size).drop m)) := by show _ = _; rw [drop_word (by omega), ← hXe, take_get (by omega)]
      obtain ⟨hX0, hX1⟩ := hX
      clear hr hc hXe hlen
      go_wp2
      go_round
      case rel => exact ⟨m - 1, X * 256 + xs[p + m]?.getD 0, by omega, by omega, by go_num, by rfl, by show _ = _; rw [H2.out, show ((m : Int) - 1 + 1).toNat = m by omega]⟩
      case measure => simp [intOf]
    · obtain rfl : i = -1 := by omega
      go_wp2
      go_ret3
      exact ⟨by rw [HX.out]; rfl, rfl⟩

theorem wordR (a : Option Addr) (len cap p size : Nat) (xs : List Int) (w : World) (h : Reads w a len cap xs) (hp : p ≤ len) (h8 : size ≤ 8) (h1 : 1 ≤ size) :
    Calls Try.prog 47 #[.slice a len cap, .int .i64 p, .int .i64 size] w fun e w' =>
      e = .returned (.tuple #[.int .u64 (gw xs p size).1, .int .i64 (gw xs p size).2.1, .int .i64 (gw xs p size).2.2]) ∧ w = w' := by
  have hlen := h.length
  unfold gw
  by_cases hs : xs.length < p + size
  · rw [if_pos hs]
    exact refWordShort a len cap p size w (Nat.le_trans h.le h.max) hp h8 (by omega)
  · rw [if_neg hs]
    rcases h.cells with ⟨h0, _⟩ | ⟨b, off, rfl, hc⟩
    · omega
    · exact refWordIn b off len cap p size xs w h.length h.le h.max h8 h1 (by omega) hc h.bd

theorem gw_bd {xs : List Int} (h : ∀ x ∈ xs, 0 ≤ x ∧ x ≤ 255) (p : Nat) : 0 ≤ (gw xs p 4).1 ∧ (gw xs p 4).1 < 4294967296 := by
  unfold gw
  by_cases hs : xs.length < p + 4
  · rw [if_pos hs]; simp
  · rw [if_neg hs]
    have := word_bd ((xs.drop p).take 4) (fun x hx => h x (List.mem_of_mem_drop (List.mem_of_mem_take hx)))
    rw [show ((xs.drop p).take 4).length = 4 by simp; omega] at this
    exact this

theorem getFix64Out (a : Option Addr) (len cap : Nat) (p : Int) (w : World) (hl : len ≤ 9223372036854775807) (hp : p < 0 ∨ (len : Int) < p) :
    Calls Try.prog 63 #[.slice a len cap, .int .i64 p] w fun e w' => e = .returned (.tuple #[.int .u64 0, .int .i64 0, .int .i64 18]) ∧ w = w' := by
  have H := hid hp
  clear hp
  go_enter Try.func63, Try.ntmps63
  go_wp2_with (go_at_call 70; refine (getWordOut _ _ _ _ 8 _ hl H.out).mono ?_; rintro e w' ⟨rfl, rfl⟩)
  go_ret3
  exact ⟨rfl, rfl⟩
theorem getFix64W (a : Option Addr) (len cap p : Nat) (xs : List Int) (w : World) (h : Reads w a len cap xs) (hp : p ≤ len) :
    Calls Try.prog 63 #[.slice a len cap, .int .i64 p] w fun e w' =>
      e = .returned (.tuple #[.int .u64 (gw xs p 8).1, .int .i64 (gw xs p 8).2.1, .int .i64 (gw xs p 8).2.2]) ∧ w = w' := by
  have H : Hid (Calls Try.prog 70 #[.slice a len cap, .int .i64 p, .int .i64 8] w fun e w' => e = .returned (.tuple #[.int .u64 (gw xs p 8).1, .int .i64 (gw xs p 8).2.1, .int .i64 (gw xs p 8).2.2]) ∧ w = w') := getWordW a len cap p 8 xs w h hp (by decide) (by decide)
  clear h hp
  generalize gw xs p 8 = g at H
  go_enter Try.func63, Try.ntmps63
  go_wp2_with (go_at_call 70; refine H.out.mono ?_; rintro e w' ⟨rfl, rfl⟩)
  go_ret3
  exact ⟨rfl, rfl⟩
theorem getFix32Out (a : Option Addr) (len cap : Nat) (p : Int) (w : World) (hl : len ≤ 9223372036854775807) (hp : p < 0 ∨ (len : Int) < p) :
    Calls Try.prog 62 #[.slice a len cap, .int .i64 p] w fun e w' => e = .returned (.tuple #[.int .u32 0, .int .i64 0, .int .i64 18]) ∧ w = w' := by
  have H := hid hp
  clear hp
  go_enter Try.func62, Try.ntmps62
  go_wp2_with (go_at_call 70; refine (getWordOut _ _ _ _ 4 _ hl H.out).mono ?_; rintro e w' ⟨rfl, rfl⟩)
  go_ret3
  exact ⟨rfl, rfl⟩
theorem getFix32W (a : Option Addr) (len cap p : Nat) (xs : List Int) (w : World) (h : Reads w a len cap xs) (hp : p ≤ len) :
    Calls Try.prog 62 #[.slice a len cap, .int .i64 p] w fun e w' =>
      e = .returned (.tuple #[.int .u32 (gw xs p 4).1, .int .i64 (gw xs p 4).2.1, .int .i64 (gw xs p 4).2.2]) ∧ w = w' := by
  have H : Hid (Calls Try.prog 70 #[.slice a len cap, .int .i64 p, .int .i64 4] w fun e w' => e = .returned (.tuple #[.int .u64 (gw xs p 4).1, .int .i64 (gw xs p 4).2.1, .int .i64 (gw xs p 4).2.2]) ∧ w = w') := getWordW a len cap p 4 xs w h hp (by decide) (by decide)
  have hb := gw_bd (bd_mem h.bd) p
  clear h hp
  generalize gw xs p 4 = g at H hb
  obtain ⟨hb0, hb1⟩ := hb
  go_enter Try.func62, Try.ntmps62
  go_wp2_with (go_at_call 70; refine H.out.mono ?_; rintro e w' ⟨rfl, rfl⟩)
  go_ret3
  exact ⟨rfl, rfl⟩
end Go.Proofs.Ytgcimeldofbgkaa
