/-
  Plain mathematics for words and chunks; nothing of the program.
  Walks over fixed words, the program's and the document's.
  Walks over writing fixed words, the program's and the document's.
  Walks over writing chunks, the program's and the document's.
  Walks over reading chunks, the program's and the document's.
  The walk of the law WireWords.
  Plain mathematics for entries; nothing of the program.
  Plain mathematics for reading entries; nothing of the program.
  Plain mathematics for lists of entries; nothing of the program.
  Plain mathematics: what is written is read; nothing of the program.
-/
import Derived.Test.YtcenkalhklpajaaGreatDoorCG
import Derived.Laws.AppendOwnNone
import Derived.Laws.CopyOwn
namespace Go.Proofs.YtcenkalhklpajaaGreatDoor
open Go.RowKit
set_option maxRecDepth 1000000

/-- Bytes, the lowest first, as a number. -/
def wordF : List Int → Int
  | [] => 0
  | c :: r => c + 256 * wordF r
def gw (xs : List Int) (p size : Nat) : Int × Int × Int := if xs.length < p + size then (0, 0, 3) else (wordF ((xs.drop p).take size), (p : Int) + size, 0)
def pw (size : Nat) (n : Int) : List Int := (List.range size).map fun i => n / 2 ^ (8 * i) % 256
/-- A chunk's bytes; reading one. -/
def pc (xs : List Int) : List Int := pv xs.length ++ xs
def gcF (xs : List Int) (g : Int × Int × Int) : List Int × Int × Int := if g.2.2 ≠ 0 then ([], 0, g.2.2) else if (xs.length : Int) - g.2.1 < g.1 then ([], 0, 3) else ((xs.drop g.2.1.toNat).take g.1.toNat, g.2.1 + g.1, 0)
def gc (xs : List Int) (p : Nat) : List Int × Int × Int := gcF xs (gv xs p)

theorem pow8 (k : Nat) : (2 : Int) ^ (8 * (k + 1)) = 256 * 2 ^ (8 * k) := by rw [show 8 * (k + 1) = 8 * k + 8 by omega, Int.pow_add]; omega
theorem word_snoc : ∀ (l : List Int) (c : Int), wordF (l ++ [c]) = wordF l + c * 2 ^ (8 * l.length)
  | [], c => by simp [wordF]
  | a :: l, c => by
    rw [List.cons_append, wordF, word_snoc l c, wordF, List.length_cons, pow8, Int.mul_add, Int.mul_left_comm]; omega
theorem word_bd : ∀ (l : List Int), (∀ x ∈ l, 0 ≤ x ∧ x ≤ 255) → 0 ≤ wordF l ∧ wordF l < 2 ^ (8 * l.length)
  | [], _ => by simp [wordF]
  | a :: l, h => by
    have h1 := h a (by simp)
    have h2 := word_bd l (fun x hx => h x (by simp [hx]))
    rw [wordF, List.length_cons, pow8]; omega
theorem pow_le_64 (k : Nat) (hk : k ≤ 8) : (2 : Int) ^ (8 * k) ≤ 18446744073709551616 := by
  have hn : (2 : Nat) ^ (8 * k) ≤ 2 ^ 64 := Nat.pow_le_pow_right (by decide) (by omega)
  have e : (2 : Nat) ^ 64 = 18446744073709551616 := by decide
  rw [e] at hn
  have e2 : ((2 ^ (8 * k) : Nat) : Int) = (2 : Int) ^ (8 * k) := Int.natCast_pow 2 (8 * k)
  rw [← e2]
  exact Int.ofNat_le.2 hn
theorem or_word (k : Nat) (hk : k ≤ 7) (X c : Int) (hX0 : 0 ≤ X) (hX : X < 2 ^ (8 * k)) (hc0 : 0 ≤ c) (hc : c ≤ 255) : bits .or .u64 X (IntKind.u64.wrap (c * 2 ^ (8 * k))) = X + c * 2 ^ (8 * k) := by
  have hp : (0 : Int) < 2 ^ (8 * k) := Int.pow_pos (by decide)
  have h0 : 0 ≤ c * 2 ^ (8 * k) := Int.mul_nonneg hc0 (Int.le_of_lt hp)
  have h1 := pow_le_64 (k + 1) (by omega)
  have h3 := pow_le_64 k (by omega)
  rw [pow8] at h1
  have h2 : c * 2 ^ (8 * k) ≤ 255 * 2 ^ (8 * k) := Int.mul_le_mul_of_nonneg_right hc (Int.le_of_lt hp)
  have e : (18446744073709551616 : Int) = 2 ^ 64 := by decide
  rw [wraps_u64 _ h0 (by omega)]
  exact bits_join_low .u64 64 (by decide) wraps_u64 (8 * k) X _ hX0 hX (by omega) h0 (Int.mul_emod_left _ _) (by omega)
theorem take_snoc {xs : List Int} {j : Nat} (h : j < xs.length) : xs.take (j + 1) = xs.take j ++ [xs[j]?.getD 0] := by
  rw [List.take_succ_eq_append_getElem h]; simp [h]
theorem drop_get {xs : List Int} {p k : Nat} : (xs.drop p)[k]?.getD 0 = xs[p + k]?.getD 0 := by rw [List.getElem?_drop]
theorem drop_word {l : List Int} {m : Nat} (h : m < l.length) : wordF (l.drop m) = wordF (l.drop (m + 1)) * 256 + l[m]?.getD 0 := by
  rw [drop_at h, wordF]; omega
theorem take_get {xs : List Int} {p size m : Nat} (h : m < size) : ((xs.drop p).take size)[m]?.getD 0 = xs[p + m]?.getD 0 := by
  rw [List.getElem?_take, if_pos h, List.getElem?_drop]
theorem drop_lt {l : List Int} (h : ∀ x ∈ l, 0 ≤ x ∧ x ≤ 255) (h8 : l.length ≤ 8) (m : Nat) : 0 ≤ wordF (l.drop (m + 1)) ∧ wordF (l.drop (m + 1)) < 72057594037927936 := by
  have hb := word_bd (l.drop (m + 1)) (fun x hx => h x (List.mem_of_mem_drop hx))
  have hn : (2 : Nat) ^ (8 * (l.drop (m + 1)).length) ≤ 2 ^ 56 := Nat.pow_le_pow_right (by decide) (by simp; omega)
  have e : (2 : Nat) ^ 56 = 72057594037927936 := by decide
  rw [e] at hn
  have e2 : ((2 ^ (8 * (l.drop (m + 1)).length) : Nat) : Int) = (2 : Int) ^ (8 * (l.drop (m + 1)).length) := Int.natCast_pow 2 _
  rw [← e2] at hb
  have := Int.ofNat_le.2 hn
  exact ⟨hb.1, Int.lt_of_lt_of_le hb.2 this⟩
theorem pw_succ (s : Nat) (n : Int) : pw (s + 1) n = pw s n ++ [n / 2 ^ (8 * s) % 256] := by simp [pw, List.range_succ]
theorem pw_length (s : Nat) (n : Int) : (pw s n).length = s := by simp [pw]
theorem pw_bd (s : Nat) (n : Int) : ∀ x ∈ pw s n, 0 ≤ x ∧ x ≤ 255 := by
  intro x hx
  simp [pw] at hx
  obtain ⟨i, _, rfl⟩ := hx
  omega
theorem pw_cut (n : Int) : pw 4 (n % 4294967296) = pw 4 n := by
  simp [pw, List.range_succ]
  omega

theorem gvF_next : ∀ (l : List Int) (k : Nat) (X p : Int), (gvF l k X p).2.2 = 0 → p + k + 1 ≤ (gvF l k X p).2.1 ∧ (gvF l k X p).2.1 ≤ p + k + l.length
  | [], _, _, _, h => by simp [gvF] at h
  | c :: r, k, X, p, h => by
    unfold gvF at h ⊢
    by_cases h9 : k = 9 ∧ 1 < c
    · rw [if_pos h9] at h; simp at h
    · rw [if_neg h9] at h ⊢
      by_cases hc1 : c < 128
      · rw [if_pos hc1]; simp; omega
      · rw [if_neg hc1] at h ⊢
        have := gvF_next r (k + 1) _ p h
        rw [List.length_cons]
        omega
theorem gv_next {xs : List Int} {p : Nat} (hp : p ≤ xs.length) (h : (gv xs p).2.2 = 0) : (p : Int) + 1 ≤ (gv xs p).2.1 ∧ (gv xs p).2.1 ≤ xs.length := by
  have := gvF_next _ _ _ _ h
  unfold gv
  simp at this
  omega
theorem gcF_err {xs : List Int} {g : Int × Int × Int} (h : (g.2.2 != 0) = true) : gcF xs g = ([], 0, g.2.2) := by unfold gcF; rw [if_pos (by simpa using h)]
theorem gcF_far {xs : List Int} {g : Int × Int × Int} (h : (g.2.2 != 0) = false) (h2 : (xs.length : Int) - g.2.1 < g.1) : gcF xs g = ([], 0, 3) := by unfold gcF; rw [if_neg (by simpa using h), if_pos h2]
theorem gcF_ok {xs : List Int} {g : Int × Int × Int} (h : (g.2.2 != 0) = false) (h2 : ¬ (xs.length : Int) - g.2.1 < g.1) : gcF xs g = ((xs.drop g.2.1.toNat).take g.1.toNat, g.2.1 + g.1, 0) := by unfold gcF; rw [if_neg (by simpa using h), if_neg h2]
end Go.Proofs.YtcenkalhklpajaaGreatDoor
namespace Go.Proofs.YtcenkalhklpajaaGreatDoor
open Go.RowKit
set_option maxRecDepth 1000000

theorem getWordOut (a : Option Addr) (len cap : Nat) (p size : Int) (w : World) (hl : len ≤ 9223372036854775807) (hp : p < 0 ∨ (len : Int) < p) :
    Calls Tryz.prog 109 #[.slice a len cap, .int .i64 p, .int .i64 size] w fun e w' => e = .returned (.tuple #[.int .u64 0, .int .i64 0, .int .i64 18]) ∧ w = w' := by
  have H := hid hp
  clear hp
  go_enter Tryz.func109, Tryz.ntmps109
  go_wp2_with (go_at_call 108; refine (outsideYes _ _ _ _ _ hl H.out).mono ?_; rintro e w' ⟨rfl, rfl⟩)
  go_ret3
  exact ⟨rfl, rfl⟩

theorem getWordShort (a : Option Addr) (len cap p size : Nat) (w : World) (hl : len ≤ 9223372036854775807) (hp : p ≤ len) (hs : size ≤ 8) (hs1 : len < p + size) :
    Calls Tryz.prog 109 #[.slice a len cap, .int .i64 p, .int .i64 size] w fun e w' => e = .returned (.tuple #[.int .u64 0, .int .i64 0, .int .i64 3]) ∧ w = w' := by
  go_enter Tryz.func109, Tryz.ntmps109
  go_wp2_with (go_at_call 108; refine (outsideNo _ _ _ _ _ hl (by omega) (by omega)).mono ?_; rintro e w' ⟨rfl, rfl⟩)
  go_ret3
  exact ⟨rfl, rfl⟩

set_option maxHeartbeats 400000 in
theorem getWordIn (b off len cap p size : Nat) (xs : List Int) (w : World) (hl : xs.length = len) (hlc : len ≤ cap) (hm : cap ≤ 9223372036854775807) (h8 : size ≤ 8) (h1 : 1 ≤ size) (hp : p + size ≤ len)
    (hc : ∀ i, i < len → w.cell? ⟨b, off + i, none⟩ = some (.int .u8 (xs.getD i 0))) (hr : ∀ i, 0 ≤ xs.getD i 0 ∧ xs.getD i 0 ≤ 255) :
    Calls Tryz.prog 109 #[.slice (some ⟨b, off, none⟩) len cap, .int .i64 p, .int .i64 size] w fun e w' =>
      e = .returned (.tuple #[.int .u64 (wordF ((xs.drop p).take size)), .int .i64 (p + size), .int .i64 0]) ∧ w = w' := by
  have hd : decide ((len : Int) - p < size) = false := by simp; omega
  have hbd : ∀ x ∈ xs, 0 ≤ x ∧ x ≤ 255 := bd_mem hr
  have HB := hid hbd
  clear hbd
  go_enter Tryz.func109, Tryz.ntmps109
  go_wp2_with (go_at_call 108; refine (outsideNo _ _ _ _ _ (by omega) (by omega) (by omega)).mono ?_; rintro e w' ⟨rfl, rfl⟩)
  go_loop [6, 28] (fun n r => ∃ (k : Nat) (X : Int), k ≤ size ∧ r = .int .i64 k ∧ n = .int .u64 X ∧ Hid (X = wordF ((xs.drop p).take k))) (fun _ r => size - (intOf r).toNat)
  case atStart => exact ⟨0, 0, by omega, rfl, rfl, by show _ = _; simp [wordF]⟩
  case round =>
    obtain ⟨k, X, hk, rfl, rfl, HX⟩ := hrel
    have hrk : 0 ≤ xs[p + k]?.getD 0 ∧ xs[p + k]?.getD 0 ≤ 255 := by have := hr (p + k); rwa [List.getD_eq_getElem?_getD] at this
    have hck : k < size → w.cell? ⟨b, off + p + k, none⟩ = some (.int .u8 (xs.getD (p + k) 0)) := fun h => by rw [Nat.add_assoc]; exact hc (p + k) (by omega)
    clear hr hc
    by_cases hlt : k < size
    · have hck := hck hlt
      go_wp2
      go_round
      case rel =>
        have hwb := word_bd ((xs.drop p).take k) (fun x hx => HB.out x (List.mem_of_mem_drop (List.mem_of_mem_take hx)))
        have hlen : ((xs.drop p).take k).length = k := by simp; omega
        rw [hlen, ← HX.out] at hwb
        have hsn : (xs.drop p).take (k + 1) = (xs.drop p).take k ++ [xs[p + k]?.getD 0] := by rw [take_snoc (by simp; omega), drop_get]
        refine ⟨k + 1, X + xs[p + k]?.getD 0 * 2 ^ (8 * k), by omega, by go_num, by rw [or_word k (by omega) X _ hwb.1 hwb.2 hrk.1 hrk.2], ?_⟩
        show _ = _
        rw [hsn, word_snoc, hlen, ← HX.out]
      case measure => simp [intOf]; omega
    · obtain rfl : k = size := by omega
      go_wp2
      go_ret3
      exact ⟨by rw [← HX.out]; rfl, rfl⟩

/-- getWord at a place of a slice that can be read. -/
theorem getWordW (a : Option Addr) (len cap p size : Nat) (xs : List Int) (w : World) (h : Reads w a len cap xs) (hp : p ≤ len) (h8 : size ≤ 8) (h1 : 1 ≤ size) :
    Calls Tryz.prog 109 #[.slice a len cap, .int .i64 p, .int .i64 size] w fun e w' =>
      e = .returned (.tuple #[.int .u64 (gw xs p size).1, .int .i64 (gw xs p size).2.1, .int .i64 (gw xs p size).2.2]) ∧ w = w' := by
  have hlen := h.length
  unfold gw
  by_cases hs : xs.length < p + size
  · rw [if_pos hs]
    exact getWordShort a len cap p size w (Nat.le_trans h.le h.max) hp h8 (by omega)
  · rw [if_neg hs]
    rcases h.cells with ⟨h0, _⟩ | ⟨b, off, rfl, hc⟩
    · omega
    · exact getWordIn b off len cap p size xs w h.length h.le h.max h8 h1 (by omega) hc h.bd

theorem gw_bd {xs : List Int} (h : ∀ x ∈ xs, 0 ≤ x ∧ x ≤ 255) (p : Nat) : 0 ≤ (gw xs p 4).1 ∧ (gw xs p 4).1 < 4294967296 := by
  unfold gw
  by_cases hs : xs.length < p + 4
  · rw [if_pos hs]; simp
  · rw [if_neg hs]
    have := word_bd ((xs.drop p).take 4) (fun x hx => h x (List.mem_of_mem_drop (List.mem_of_mem_take hx)))
    rw [show ((xs.drop p).take 4).length = 4 by simp; omega] at this
    exact this

theorem getFix64Out (a : Option Addr) (len cap : Nat) (p : Int) (w : World) (hl : len ≤ 9223372036854775807) (hp : p < 0 ∨ (len : Int) < p) :
    Calls Tryz.prog 90 #[.slice a len cap, .int .i64 p] w fun e w' => e = .returned (.tuple #[.int .u64 0, .int .i64 0, .int .i64 18]) ∧ w = w' := by
  have H := hid hp
  clear hp
  go_enter Tryz.func90, Tryz.ntmps90
  go_wp2_with (go_at_call 109; refine (getWordOut _ _ _ _ 8 _ hl H.out).mono ?_; rintro e w' ⟨rfl, rfl⟩)
  go_ret3
  exact ⟨rfl, rfl⟩
theorem getFix64W (a : Option Addr) (len cap p : Nat) (xs : List Int) (w : World) (h : Reads w a len cap xs) (hp : p ≤ len) :
    Calls Tryz.prog 90 #[.slice a len cap, .int .i64 p] w fun e w' =>
      e = .returned (.tuple #[.int .u64 (gw xs p 8).1, .int .i64 (gw xs p 8).2.1, .int .i64 (gw xs p 8).2.2]) ∧ w = w' := by
  have H : Hid (Calls Tryz.prog 109 #[.slice a len cap, .int .i64 p, .int .i64 8] w fun e w' => e = .returned (.tuple #[.int .u64 (gw xs p 8).1, .int .i64 (gw xs p 8).2.1, .int .i64 (gw xs p 8).2.2]) ∧ w = w') := getWordW a len cap p 8 xs w h hp (by decide) (by decide)
  clear h hp
  generalize gw xs p 8 = g at H
  go_enter Tryz.func90, Tryz.ntmps90
  go_wp2_with (go_at_call 109; refine H.out.mono ?_; rintro e w' ⟨rfl, rfl⟩)
  go_ret3
  exact ⟨rfl, rfl⟩
theorem getFix32Out (a : Option Addr) (len cap : Nat) (p : Int) (w : World) (hl : len ≤ 9223372036854775807) (hp : p < 0 ∨ (len : Int) < p) :
    Calls Tryz.prog 88 #[.slice a len cap, .int .i64 p] w fun e w' => e = .returned (.tuple #[.int .u32 0, .int .i64 0, .int .i64 18]) ∧ w = w' := by
  have H := hid hp
  clear hp
  go_enter Tryz.func88, Tryz.ntmps88
  go_wp2_with (go_at_call 109; refine (getWordOut _ _ _ _ 4 _ hl H.out).mono ?_; rintro e w' ⟨rfl, rfl⟩)
  go_ret3
  exact ⟨rfl, rfl⟩
theorem getFix32W (a : Option Addr) (len cap p : Nat) (xs : List Int) (w : World) (h : Reads w a len cap xs) (hp : p ≤ len) :
    Calls Tryz.prog 88 #[.slice a len cap, .int .i64 p] w fun e w' =>
      e = .returned (.tuple #[.int .u32 (gw xs p 4).1, .int .i64 (gw xs p 4).2.1, .int .i64 (gw xs p 4).2.2]) ∧ w = w' := by
  have H : Hid (Calls Tryz.prog 109 #[.slice a len cap, .int .i64 p, .int .i64 4] w fun e w' => e = .returned (.tuple #[.int .u64 (gw xs p 4).1, .int .i64 (gw xs p 4).2.1, .int .i64 (gw xs p 4).2.2]) ∧ w = w') := getWordW a len cap p 4 xs w h hp (by decide) (by decide)
  have hb := gw_bd (bd_mem h.bd) p
  clear h hp
  generalize gw xs p 4 = g at H hb
  obtain ⟨hb0, hb1⟩ := hb
  go_enter Tryz.func88, Tryz.ntmps88
  go_wp2_with (go_at_call 109; refine H.out.mono ?_; rintro e w' ⟨rfl, rfl⟩)
  go_ret3
  exact ⟨rfl, rfl⟩
end Go.Proofs.YtcenkalhklpajaaGreatDoor
namespace Go.Proofs.YtcenkalhklpajaaGreatDoor
open Go.RowKit
set_option maxRecDepth 1000000

set_option maxHeartbeats 400000 in
theorem addWordW (base : Nat) (v : Value) (m : Nat) (xs : List Value) (n : Int) (size : Nat) (w : World) (hown : w.ownsRow base 5 1 v m xs) (hb : base ≤ w.heap.size) (_h0 : 0 ≤ n) (_h1 : n < 18446744073709551616) (h8 : size ≤ 8) (hm : m + 8 ≤ 140737488355328) :
    Calls Tryz.prog 66 #[v, .int .u64 n, .int .i64 size] w fun e w' => ∃ v', e = .returned v' ∧ w'.ownsRow base 5 1 v' (m + (pw size n).length) (xs ++ (pw size n).map (Value.int .u8)) ∧ Below base w w' := by
  obtain ⟨i0, hi, hz0, hz1, hz2⟩ := info_parts Tryz.info5
  go_enter Tryz.func66, Tryz.ntmps66
  go_wp2
  go_loopw [0, 9] (fun o r wr => ∃ k : Nat, k ≤ size ∧ r = .int .i64 k ∧ wr.ownsRow base 5 1 o (m + k) (xs ++ (pw k n).map (Value.int .u8)) ∧ Below base w wr) (fun _ r _ => size - (intOf r).toNat)
  case atStart => exact ⟨0, by omega, rfl, by simpa [pw] using hown, Below.refl _ _⟩
  case round =>
    obtain ⟨k, hk, rfl, ho, hbw⟩ := hrel
    have hsz := hbw.size
    clear hown
    by_cases hlt : k < size
    · go_wp2_with (first | (at_builtin; refine wpList_append_own _ rfl _ _ 27 rfl base 5 i0 (.int .u8 0) 1 1 Tryz.underlying27 hi hz0 hz1 hz2 rfl (by decide) _ _ _ rfl (ho.alloc _) ⟨wr.heap.size, 0, none⟩ 1 1 [.int .u8 (IntKind.u8.wrap (n / 2 ^ (8 * k)))] rfl rfl (cell_one_new _ _ _) (fun x hx => by simp at hx; subst hx; rfl) (by unfold maxLen; omega) (by omega) (by simp; omega) ?_; intro v' w3 hown' hgrow3 hnil3))
      refine ⟨⟨k + 1, by omega, by go_num, ?_, Below.grown (hbw.alloc (by omega) _) hgrow3 (by simp; omega) (fun k hk => (ho.lt k hk).1)⟩, by simp [intOf]; omega⟩
      rw [pw_succ, ← byte_of]
      exact own_more hown'
    · obtain rfl : k = size := by omega
      go_wp2
      go_ret
      exact ⟨_, rfl, by rw [pw_length]; exact ho, hbw⟩

theorem putFix64W (n : Int) (w : World) (h0 : 0 ≤ n) (h1 : n < 18446744073709551616) :
    Calls Tryz.prog 29 #[.int .u64 n] w fun e w' => ∃ a cap, e = .returned (.slice a (pw 8 n).length cap) ∧ Reads w' a (pw 8 n).length cap (pw 8 n) ∧ Below w.heap.size w w' := by
  obtain ⟨i0, hi, hz0, hz1, hz2⟩ := info_parts Tryz.info5
  obtain ⟨w1, hrun, hown, hgr⟩ := run_makeSlice_owned (P := Tryz.prog) w w.heap.size 27 5 i0 (.int .u8 0) 1 Tryz.underlying27 hi hz0 hz1 .i64 .i64 8 (by omega) (by rw [hz2]; omega) (by unfold maxLen; omega) (Nat.le_refl _)
  have hsz := hgr.size
  have hbw : Below w.heap.size w w1 := Below.grown (Below.refl _ _) hgr (Nat.le_refl _) (fun k hk => by cases hk)
  have hrun8 : (Instr.makeSlice 27 (.int .i64 0) (.int .i64 8)).run Tryz.prog w = .ok (.slice (some ⟨w.heap.size, 0, none⟩) 0 8) w1 := hrun
  clear hrun
  go_enter Tryz.func29, Tryz.ntmps29
  go_wp2_with fail
  refine (addWordW w.heap.size _ 0 [] n 8 _ hown (by omega) h0 h1 (by omega) (by omega)).mono ?_
  rintro e w2 ⟨v', rfl, ho', hb'⟩
  go_wp2
  go_ret
  rw [List.nil_append, Nat.zero_add] at ho'
  obtain ⟨a, cap, rfl, hr⟩ := own_reads ho' (pw_bd 8 n)
  exact ⟨a, cap, rfl, hr, hbw.trans hb'⟩

theorem putFix32W (n : Int) (w : World) (h0 : 0 ≤ n) (h1 : n < 4294967296) :
    Calls Tryz.prog 28 #[.int .u32 n] w fun e w' => ∃ a cap, e = .returned (.slice a (pw 4 n).length cap) ∧ Reads w' a (pw 4 n).length cap (pw 4 n) ∧ Below w.heap.size w w' := by
  obtain ⟨i0, hi, hz0, hz1, hz2⟩ := info_parts Tryz.info5
  obtain ⟨w1, hrun, hown, hgr⟩ := run_makeSlice_owned (P := Tryz.prog) w w.heap.size 27 5 i0 (.int .u8 0) 1 Tryz.underlying27 hi hz0 hz1 .i64 .i64 4 (by omega) (by rw [hz2]; omega) (by unfold maxLen; omega) (Nat.le_refl _)
  have hsz := hgr.size
  have hbw : Below w.heap.size w w1 := Below.grown (Below.refl _ _) hgr (Nat.le_refl _) (fun k hk => by cases hk)
  have hrun4 : (Instr.makeSlice 27 (.int .i64 0) (.int .i64 4)).run Tryz.prog w = .ok (.slice (some ⟨w.heap.size, 0, none⟩) 0 4) w1 := hrun
  clear hrun
  go_enter Tryz.func28, Tryz.ntmps28
  go_wp2_with fail
  refine (addWordW w.heap.size _ 0 [] n 4 _ hown (by omega) h0 (by omega) (by omega) (by omega)).mono ?_
  rintro e w2 ⟨v', rfl, ho', hb'⟩
  go_wp2
  go_ret
  rw [List.nil_append, Nat.zero_add] at ho'
  obtain ⟨a, cap, rfl, hr⟩ := own_reads ho' (pw_bd 4 n)
  exact ⟨a, cap, rfl, hr, hbw.trans hb'⟩

set_option maxHeartbeats 400000 in
theorem putWordR (n : Int) (size : Nat) (w : World) (h8 : size ≤ 8) :
    Calls Tryz.prog 52 #[.int .u64 n, .int .i64 size] w fun e w' => ∃ v, e = .returned v ∧ w'.ownsRow w.heap.size 5 1 v (pw size n).length ((pw size n).map (Value.int .u8)) ∧ Below w.heap.size w w' := by
  obtain ⟨i0, hi, hz0, hz1, hz2⟩ := info_parts Tryz.info5
  go_enter Tryz.func52, Tryz.ntmps52
  go_wp2
  go_loopw [5, 6] (fun o r wr => ∃ k : Nat, k ≤ size ∧ r = .int .i64 k ∧ wr.ownsRow w.heap.size 5 1 o (0 + k) ([] ++ (pw k n).map (Value.int .u8)) ∧ Below w.heap.size w wr) (fun _ r _ => size - (intOf r).toNat)
  case atStart => exact ⟨0, by omega, rfl, by simpa [pw] using World.ownsRow_nil _ _ _ _, Below.refl _ _⟩
  case round =>
    obtain ⟨k, hk, rfl, ho, hbw⟩ := hrel
    have hsz := hbw.size
    by_cases hlt : k < size
    · go_wp2_with (first | (at_builtin; refine wpList_append_own _ rfl _ _ 27 rfl w.heap.size 5 i0 (.int .u8 0) 1 1 Tryz.underlying27 hi hz0 hz1 hz2 rfl (by decide) _ _ _ rfl (ho.alloc _) ⟨wr.heap.size, 0, none⟩ 1 1 [.int .u8 (IntKind.u8.wrap (n / 2 ^ (8 * k)))] rfl rfl (cell_one_new _ _ _) (fun x hx => by simp at hx; subst hx; rfl) (by unfold maxLen; omega) (by omega) (by simp; omega) ?_; intro v' w3 hown' hgrow3 hnil3))
      refine ⟨⟨k + 1, by omega, by go_num, ?_, Below.grown (hbw.alloc (by omega) _) hgrow3 (by simp; omega) (fun k hk => (ho.lt k hk).1)⟩, by simp [intOf]; omega⟩
      rw [pw_succ, ← byte_of]
      exact own_more hown'
    · obtain rfl : k = size := by omega
      go_wp2
      go_ret
      rw [List.nil_append, Nat.zero_add] at ho
      exact ⟨_, rfl, by rw [pw_length]; exact ho, hbw⟩
theorem putWordRr (n : Int) (size : Nat) (w : World) (h8 : size ≤ 8) :
    Calls Tryz.prog 52 #[.int .u64 n, .int .i64 size] w fun e w' => ∃ a cap, e = .returned (.slice a (pw size n).length cap) ∧ Reads w' a (pw size n).length cap (pw size n) ∧ Below w.heap.size w w' := by
  refine (putWordR n size w h8).mono ?_
  rintro e w' ⟨v, rfl, ho, hb⟩
  obtain ⟨a, cap, rfl, hr⟩ := own_reads ho (pw_bd size n)
  exact ⟨a, cap, rfl, hr, hb⟩
end Go.Proofs.YtcenkalhklpajaaGreatDoor
namespace Go.Proofs.YtcenkalhklpajaaGreatDoor
open Go.RowKit
set_option maxRecDepth 1000000

theorem own_cat {w : World} {base m n l : Nat} {v : Value} {xs : List Value} {ps ys : List Int} (h : w.ownsRow base 5 1 v (m + n + l) (xs ++ ps.map (Value.int .u8) ++ ys.map (Value.int .u8))) (hn : ps.length = n) (hl : ys.length = l) :
    w.ownsRow base 5 1 v (m + (ps ++ ys).length) (xs ++ (ps ++ ys).map (Value.int .u8)) := by
  subst hn hl
  simpa [Nat.add_assoc] using h

set_option maxHeartbeats 400000 in
theorem addChunkW (base : Nat) (v : Value) (m : Nat) (xs : List Value) (a : Option Addr) (len cap : Nat) (ys : List Int) (w : World) (hown : w.ownsRow base 5 1 v m xs) (hb : base ≤ w.heap.size) (hsrc : ∀ w', Below base w w' → Reads w' a len cap ys) (hm : m + 10 + len ≤ 140737488355328) :
    Calls Tryz.prog 67 #[v, .slice a len cap] w fun e w' => ∃ v', e = .returned v' ∧ w'.ownsRow base 5 1 v' (m + (pc ys).length) (xs ++ (pc ys).map (Value.int .u8)) ∧ Below base w w' := by
  obtain ⟨i0, hi, hz0, hz1, hz2⟩ := info_parts Tryz.info5
  have hlen := (hsrc w (Below.refl _ _)).length
  have hpl := (pv_len (len : Int)).2
  have HP : Hid (pc ys = pv (len : Int) ++ ys) := by show _ = _; rw [pc, hlen]
  have HL := hid hlen
  have HS := hid hsrc
  have HO := hid hown
  clear hsrc hown hlen
  go_enter Tryz.func67, Tryz.ntmps67
  go_wp2_with fail
  refine (addvW base v m xs (len : Int) _ HO.out hb (by omega) (by omega) (by omega)).mono ?_
  rintro e w1 ⟨v1, rfl, ho1, hb1⟩
  have hr1 := HS.out w1 hb1
  have hsz := hb1.size
  cases a with
  | none =>
    obtain ⟨rfl, rfl, rfl⟩ := reads_none hr1
    clear hr1
    go_wp2_with (first | (at_builtin; refine wpList_append_own_none rfl _ _ 27 rfl base 5 i0 1 Tryz.underlying27 hi _ _ _ rfl ho1 rfl ?_))
    go_ret
    exact ⟨v1, rfl, by rw [HP.out, List.append_nil]; exact ho1, hb1⟩
  | some x =>
    have hc1 := hid (reads_src hr1)
    clear hr1
    go_wp2_with (first | (at_builtin; refine wpList_append_own _ rfl _ _ 27 rfl base 5 i0 (.int .u8 0) 1 1 Tryz.underlying27 hi hz0 hz1 hz2 rfl (by decide) _ _ _ rfl ho1 x len cap (ys.map (Value.int .u8)) rfl (by rw [List.length_map, HL.out, Nat.mul_one]) hc1.out (one_u8 ys) (by unfold maxLen; omega) (by omega) (by omega) ?_; intro v' w3 hown' hgrow3 hnil3))
    go_ret
    exact ⟨v', rfl, by rw [HP.out]; exact own_cat hown' rfl HL.out, Below.grown hb1 hgrow3 (by omega) (fun k hk => (ho1.lt k hk).1)⟩

set_option maxHeartbeats 400000 in
theorem putChunkW (a : Option Addr) (len cap : Nat) (ys : List Int) (w : World) (hr : Reads w a len cap ys) (hm : 10 + len ≤ 140737488355328) :
    Calls Tryz.prog 30 #[.slice a len cap] w fun e w' => ∃ b c, e = .returned (.slice b (pc ys).length c) ∧ Reads w' b (pc ys).length c (pc ys) ∧ Below w.heap.size w w' := by
  obtain ⟨i0, hi, hz0, hz1, hz2⟩ := info_parts Tryz.info5
  have hpl := (pv_len (len : Int)).2
  obtain ⟨w1, hrun, hown, hgr⟩ := run_make_own (P := Tryz.prog) w w.heap.size 27 5 i0 (.int .u8 0) 1 Tryz.underlying27 hi hz0 hz1 .i64 .i64 ((pv (len : Int)).length + len) (by rw [hz2]; omega) (by unfold maxLen; omega) (Nat.le_refl _)
  have hsz := hgr.size
  have hbw : Below w.heap.size w w1 := Below.grown (Below.refl _ _) hgr (Nat.le_refl _) (fun k hk => by cases hk)
  rw [Int.natCast_add] at hrun
  have HR := hid hr
  have hlen := hr.length
  have HB := hid (show ∀ x ∈ pc ys, 0 ≤ x ∧ x ≤ 255 by
    intro x hx
    rcases List.mem_append.1 hx with h | h
    · exact pv_bd (by omega) (by omega) x h
    · exact bd_mem hr.bd x h)
  clear hr hlen
  go_enter Tryz.func30, Tryz.ntmps30
  go_wp2_with fail
  refine (sizeW _ _ (by omega) (by omega)).mono ?_
  rintro e w' ⟨rfl, rfl⟩
  go_wp2_with fail
  refine (addChunkW w.heap.size _ 0 [] a len cap ys _ hown (by omega) (fun w' h => reads_kept HR.out (hbw.trans h)) (by omega)).mono ?_
  rintro e w2 ⟨v', rfl, ho', hb'⟩
  go_wp2
  go_ret
  rw [List.nil_append, Nat.zero_add] at ho'
  obtain ⟨b, c, rfl, hr2⟩ := own_reads ho' HB.out
  exact ⟨b, c, rfl, hr2, hbw.trans hb'⟩

set_option maxHeartbeats 400000 in
theorem putChunkR (a : Option Addr) (len cap : Nat) (ys : List Int) (w : World) (hr : Reads w a len cap ys) (hm : 10 + len ≤ 140737488355328) :
    Calls Tryz.prog 53 #[.slice a len cap] w fun e w' => ∃ v', e = .returned v' ∧ w'.ownsRow w.heap.size 5 1 v' (pc ys).length ((pc ys).map (Value.int .u8)) ∧ Below w.heap.size w w' := by
  obtain ⟨i0, hi, hz0, hz1, hz2⟩ := info_parts Tryz.info5
  have hlen := hr.length
  have hpl := (pv_len (len : Int)).2
  have HP : Hid (pc ys = pv (len : Int) ++ ys) := by show _ = _; rw [pc, hlen]
  have HL := hid hlen
  have HR := hid hr
  clear hr hlen
  go_enter Tryz.func53, Tryz.ntmps53
  go_wp2_with fail
  refine (putvR (len : Int) _ (by omega) (by omega)).mono ?_
  rintro e w1 ⟨v1, rfl, ho1, hb1⟩
  have hr1 := reads_kept HR.out hb1
  have hsz := hb1.size
  cases a with
  | none =>
    obtain ⟨rfl, rfl, rfl⟩ := reads_none hr1
    clear hr1
    go_wp2_with (first | (at_builtin; refine wpList_append_own_none rfl _ _ 27 rfl w.heap.size 5 i0 1 Tryz.underlying27 hi _ _ _ rfl ho1 rfl ?_))
    go_ret
    exact ⟨v1, rfl, by rw [HP.out, List.append_nil]; exact ho1, hb1⟩
  | some x =>
    have hc1 := hid (reads_src hr1)
    clear hr1
    go_wp2_with (first | (at_builtin; refine wpList_append_own _ rfl _ _ 27 rfl w.heap.size 5 i0 (.int .u8 0) 1 1 Tryz.underlying27 hi hz0 hz1 hz2 rfl (by decide) _ _ _ rfl ho1 x len cap (ys.map (Value.int .u8)) rfl (by rw [List.length_map, HL.out, Nat.mul_one]) hc1.out (one_u8 ys) (by unfold maxLen; omega) (by omega) (by omega) ?_; intro v' w3 hown' hgrow3 hnil3))
    go_ret
    refine ⟨v', rfl, ?_, Below.grown hb1 hgrow3 (by omega) (fun k hk => (ho1.lt k hk).1)⟩
    have h4 := own_cat (m := 0) (xs := []) (ps := pv (len : Int)) (ys := ys) (by simpa using hown') rfl HL.out
    rw [HP.out]
    simpa using h4
end Go.Proofs.YtcenkalhklpajaaGreatDoor
namespace Go.Proofs.YtcenkalhklpajaaGreatDoor
open Go.RowKit
set_option maxRecDepth 1000000

theorem getChunkOut (a : Option Addr) (len cap : Nat) (p : Int) (w : World) (hl : len ≤ 9223372036854775807) (hp : p < 0 ∨ (len : Int) < p) :
    Calls Tryz.prog 61 #[.slice a len cap, .int .i64 p] w fun e w' => e = .returned (.tuple #[.slice none 0 0, .int .i64 0, .int .i64 18]) ∧ w = w' := by
  have H := hid hp
  clear hp
  go_enter Tryz.func61, Tryz.ntmps61
  go_wp2_with (go_at_call 86; refine (getvOut _ _ _ _ _ hl H.out).mono ?_; rintro e w' ⟨rfl, rfl⟩)
  go_ret3
  exact ⟨rfl, rfl⟩

set_option maxHeartbeats 400000 in
theorem getChunkErr (a : Option Addr) (len cap p : Nat) (N nx er : Int) (w : World) (HV : Hid (Calls Tryz.prog 86 #[.slice a len cap, .int .i64 p] w fun e w' => e = .returned (.tuple #[.int .u64 N, .int .i64 nx, .int .i64 er]) ∧ w = w')) (he : (er != 0) = true) :
    Calls Tryz.prog 61 #[.slice a len cap, .int .i64 p] w fun e w' => e = .returned (.tuple #[.slice none 0 0, .int .i64 0, .int .i64 er]) ∧ w = w' := by
  go_enter Tryz.func61, Tryz.ntmps61
  go_wp2_with (go_at_call 86; refine HV.out.mono ?_; rintro e w' ⟨rfl, rfl⟩)
  go_ret3
  exact ⟨rfl, rfl⟩

set_option maxHeartbeats 400000 in
theorem getChunkFar (a : Option Addr) (len cap p : Nat) (N nx : Int) (w : World) (HV : Hid (Calls Tryz.prog 86 #[.slice a len cap, .int .i64 p] w fun e w' => e = .returned (.tuple #[.int .u64 N, .int .i64 nx, .int .i64 0]) ∧ w = w')) (hl : len ≤ 9223372036854775807) (h0 : 0 ≤ nx) (h1 : nx ≤ len) (hf : (len : Int) - nx < N) :
    Calls Tryz.prog 61 #[.slice a len cap, .int .i64 p] w fun e w' => e = .returned (.tuple #[.slice none 0 0, .int .i64 0, .int .i64 3]) ∧ w = w' := by
  go_enter Tryz.func61, Tryz.ntmps61
  go_wp2_with (go_at_call 86; refine HV.out.mono ?_; rintro e w' ⟨rfl, rfl⟩)
  go_ret3
  exact ⟨rfl, rfl⟩

set_option maxHeartbeats 400000 in
theorem getChunkIn (b off len cap p n f : Nat) (w : World) (HV : Hid (Calls Tryz.prog 86 #[.slice (some ⟨b, off, none⟩) len cap, .int .i64 p] w fun e w' => e = .returned (.tuple #[.int .u64 n, .int .i64 f, .int .i64 0]) ∧ w = w')) (hlc : len ≤ cap) (_hm : cap ≤ 9223372036854775807) (hn : 1 ≤ n) (hf : f + n ≤ len) (hreach : len ≤ 140737488355328) (xs : List Int) (hl : xs.length = len)
    (hc : ∀ i, i < len → w.cell? ⟨b, off + i, none⟩ = some (.int .u8 (xs.getD i 0))) :
    Calls Tryz.prog 61 #[.slice (some ⟨b, off, none⟩) len cap, .int .i64 p] w fun e w' => ∃ v, e = .returned (.tuple #[v, .int .i64 (f + n), .int .i64 0]) ∧ w'.ownsRow w.heap.size 5 1 v n (((xs.drop f).take n).map (Value.int .u8)) ∧ Below w.heap.size w w' := by
  obtain ⟨i0, hi, hz0, hz1, hz2⟩ := info_parts Tryz.info5
  obtain ⟨w1, hrun, hown, hgr⟩ := run_make_full (P := Tryz.prog) w w.heap.size 27 5 i0 (.int .u8 0) 1 Tryz.underlying27 hi hz0 hz1 .u64 .u64 n (by rw [hz2]; omega) (by unfold maxLen; omega) (Nat.le_refl _)
  have hsz := hgr.size
  have hbw : Below w.heap.size w w1 := Below.grown (Below.refl _ _) hgr (Nat.le_refl _) (fun k hk => by cases hk)
  obtain ⟨cur, hg, hcs⟩ : ∃ cur, w1.heap[w.heap.size]? = some (.cells cur 5 (0, 0)) ∧ cur.size = n := by
    rcases hown.2 with ⟨h, _⟩ | ⟨g, c2, cur, hv, hbg, hg, hnc, hcm, hcs, htake⟩
    · cases h
    · simp only [Value.slice.injEq, Option.some.injEq, Addr.mk.injEq] at hv
      obtain ⟨⟨rfl, _⟩, _, rfl⟩ := hv
      exact ⟨cur, hg, by omega⟩
  have hcl : ((xs.drop f).take n).length = n := by simp; omega
  have HC : Hid (∀ j v, (((xs.drop f).take n).map (Value.int .u8))[j]? = some v → w1.cell? ((⟨b, off + f, none⟩ : Addr).add j) = some v) := by
    intro j v hv
    have hj : j < n := by
      rcases Nat.lt_or_ge j n with h' | h'
      · exact h'
      · rw [List.getElem?_eq_none (by simp; omega)] at hv; cases hv
    have hadd : (⟨b, off + f, none⟩ : Addr).add j = ⟨b, off + (f + j), none⟩ := by unfold Addr.add; split <;> simp_all [Nat.add_assoc]
    have hcj := hc (f + j) (by omega)
    rw [hadd, hbw.cell (p := ⟨b, off + (f + j), none⟩) (World.block_lt_of_cell? _ _ hcj), hcj]
    rw [← hv, List.getElem?_map, List.getElem?_take, if_pos hj, List.getElem?_drop, List.getElem?_eq_getElem (by omega)]
    simp [show f + j < xs.length by omega]
  have HG := hid hg
  have HI : Hid ((Tryz.prog.info? 5).map (·.size) = some 1) := by show _ = _; rw [hi]; simp [hz1]
  have HCL := hid hcl
  have HCS := hid hcs
  have HBW := hid hbw
  clear hc hg hown hgr hcl hcs hbw
  go_enter Tryz.func61, Tryz.ntmps61
  go_wp2_with fail
  refine HV.out.mono ?_
  rintro e w' ⟨rfl, rfl⟩
  go_wp2_with (refine wpList_copy_own rfl _ _ 27 27 rfl 5 Tryz.underlying27 HI.out w.heap.size 0 n n ⟨b, off + f, none⟩ (f + n - f) (cap - f) rfl rfl cur 5 HG.out (((xs.drop f).take n).map (Value.int .u8)) (by rw [List.length_map, HCL.out]; simp) HC.out (by rw [List.length_map, HCL.out, HCS.out]; omega) (one_u8 _) ?_)
  go_ret3
  refine ⟨_, rfl, ⟨by rw [List.length_map, HCL.out]; omega, .inr ⟨w.heap.size, n, _, rfl, Nat.le_refl _, setRow_heap _ _ _ _ _ _ HG.out, Nat.le_refl _, by unfold maxLen; omega, ?_, ?_⟩⟩, below_setRow HBW.out (Nat.le_refl _) _⟩
  · simp [HCS.out]; omega
  · rw [Nat.mul_one]
    have e1 : (((xs.drop f).take n).map (Value.int .u8)).length = n := by rw [List.length_map, HCL.out]
    rw [← List.map_drop, ← List.map_take]
    exact List.take_left' e1

set_option maxHeartbeats 400000 in
theorem getChunkNone (a : Option Addr) (len cap p f : Nat) (w : World) (HV : Hid (Calls Tryz.prog 86 #[.slice a len cap, .int .i64 p] w fun e w' => e = .returned (.tuple #[.int .u64 0, .int .i64 f, .int .i64 0]) ∧ w = w')) (ha : a = none → cap = 0) (hlc : len ≤ cap) (hm : cap ≤ 9223372036854775807) (hf : f ≤ len) :
    Calls Tryz.prog 61 #[.slice a len cap, .int .i64 p] w fun e w' => ∃ v, e = .returned (.tuple #[v, .int .i64 f, .int .i64 0]) ∧ w'.ownsRow w.heap.size 5 1 v 0 [] ∧ Below w.heap.size w w' := by
  obtain ⟨i0, hi, hz0, hz1, hz2⟩ := info_parts Tryz.info5
  obtain ⟨w1, hrun, hown, hgr⟩ := run_make_full (P := Tryz.prog) w w.heap.size 27 5 i0 (.int .u8 0) 1 Tryz.underlying27 hi hz0 hz1 .u64 .u64 0 (by rw [hz2]; omega) (by unfold maxLen; omega) (Nat.le_refl _)
  have hrun0 : (Instr.makeSlice 27 (.int .u64 0) (.int .u64 0)).run Tryz.prog w = .ok (.slice (some ⟨w.heap.size, 0, none⟩) 0 0) w1 := hrun
  have hown0 : w1.ownsRow w.heap.size 5 1 (.slice (some ⟨w.heap.size, 0, none⟩) 0 0) 0 [] := by simpa [madeCells] using hown
  have HO := hid hown0
  have HBW : Hid (Below w.heap.size w w1) := Below.grown (Below.refl _ _) hgr (Nat.le_refl _) (fun k hk => by cases hk)
  have HI : Hid ((Tryz.prog.info? 5).map (·.size) = some 1) := by show _ = _; rw [hi]; simp [hz1]
  clear hrun hown hown0 hgr
  cases a with
  | none =>
    have := ha rfl
    subst this
    obtain rfl : len = 0 := by omega
    obtain rfl : f = 0 := by omega
    clear ha
    go_enter Tryz.func61, Tryz.ntmps61
    go_wp2_with fail
    refine HV.out.mono ?_
    rintro e w' ⟨rfl, rfl⟩
    go_wp2_with (refine wpList_copy_nothing rfl _ _ 27 27 rfl 5 Tryz.underlying27 HI.out _ _ _ _ _ _ rfl rfl rfl ?_)
    go_ret3
    exact ⟨_, rfl, HO.out, HBW.out⟩
  | some x =>
    clear ha
    obtain ⟨b, off, spot⟩ := x
    go_enter Tryz.func61, Tryz.ntmps61
    go_wp2_with fail
    refine HV.out.mono ?_
    rintro e w' ⟨rfl, rfl⟩
    go_wp2_with (refine wpList_copy_nothing rfl _ _ 27 27 rfl 5 Tryz.underlying27 HI.out _ _ _ _ _ _ rfl rfl (by simp) ?_)
    all_goals
      go_ret3
      exact ⟨_, rfl, HO.out, HBW.out⟩

/-- GetChunk at a place of a slice that can be read. -/
theorem getChunkW (a : Option Addr) (len cap p : Nat) (xs : List Int) (w : World) (h : Reads w a len cap xs) (hp : p ≤ len) (hreach : len ≤ 140737488355328) :
    Calls Tryz.prog 61 #[.slice a len cap, .int .i64 p] w fun e w' => ∃ v, e = .returned (.tuple #[v, .int .i64 (gc xs p).2.1, .int .i64 (gc xs p).2.2]) ∧ w'.ownsRow w.heap.size 5 1 v (gc xs p).1.length ((gc xs p).1.map (Value.int .u8)) ∧ Below w.heap.size w w' := by
  have hv := getvW a len cap p xs w h hp
  have hb := gv_bd (bd_mem h.bd) p
  have hlen := h.length
  have hnx := gv_next (xs := xs) (p := p) (by omega)
  unfold gc
  generalize gv xs p = g at hv hb hnx
  obtain ⟨N, nx, er⟩ := g
  simp only [] at hb hv hnx
  cases he : (er != 0) with
  | true =>
    rw [gcF_err (by exact he)]
    refine (getChunkErr a len cap p N nx er w hv he).mono ?_
    rintro e w' ⟨rfl, rfl⟩
    exact ⟨_, rfl, World.ownsRow_nil _ _ _ _, Below.refl _ _⟩
  | false =>
    have he0 : er = 0 := by simpa using he
    subst he0
    have hnx := hnx rfl
    by_cases hfar : (xs.length : Int) - nx < N
    · rw [gcF_far (by rfl) hfar]
      refine (getChunkFar a len cap p N nx w hv (Nat.le_trans h.le h.max) (by omega) (by omega) (by omega)).mono ?_
      rintro e w' ⟨rfl, rfl⟩
      exact ⟨_, rfl, World.ownsRow_nil _ _ _ _, Below.refl _ _⟩
    · rw [gcF_ok (by rfl) hfar]
      obtain ⟨n, rfl⟩ := Int.eq_ofNat_of_zero_le hb.1
      obtain ⟨f, rfl⟩ := Int.eq_ofNat_of_zero_le (show 0 ≤ nx by omega)
      simp only [Int.toNat_natCast]
      by_cases hn : n = 0
      · subst hn
        refine (getChunkNone a len cap p f w hv (fun e => ?_) h.le h.max (by omega)).mono ?_
        · rcases h.cells with ⟨_, h2⟩ | ⟨b, off, rfl, _⟩
          · exact h2 e
          · cases e
        · rintro e w' ⟨v, rfl, ho, hb'⟩
          exact ⟨v, by simp, by simpa using ho, hb'⟩
      · rcases h.cells with ⟨h0, _⟩ | ⟨b, off, rfl, hc⟩
        · omega
        · refine (getChunkIn b off len cap p n f w hv h.le h.max (by omega) (by omega) hreach xs h.length hc).mono ?_
          rintro e w' ⟨v, rfl, ho, hb'⟩
          have hl2 : ((xs.drop f).take n).length = n := by simp; omega
          exact ⟨v, rfl, by rw [hl2]; exact ho, hb'⟩

theorem gc_bd {xs : List Int} (h : ∀ x ∈ xs, 0 ≤ x ∧ x ≤ 255) (p : Nat) : ∀ x ∈ (gc xs p).1, 0 ≤ x ∧ x ≤ 255 := by
  unfold gc gcF
  intro x hx
  split at hx
  · simp at hx
  · split at hx
    · simp at hx
    · exact h x (List.mem_of_mem_drop (List.mem_of_mem_take hx))
theorem getChunkWr (a : Option Addr) (len cap p : Nat) (xs : List Int) (w : World) (h : Reads w a len cap xs) (hp : p ≤ len) (hreach : len ≤ 140737488355328) :
    Calls Tryz.prog 61 #[.slice a len cap, .int .i64 p] w fun e w' => ∃ b c, e = .returned (.tuple #[.slice b (gc xs p).1.length c, .int .i64 (gc xs p).2.1, .int .i64 (gc xs p).2.2]) ∧ Reads w' b (gc xs p).1.length c (gc xs p).1 ∧ Below w.heap.size w w' := by
  refine (getChunkW a len cap p xs w h hp hreach).mono ?_
  rintro e w' ⟨v, rfl, ho, hb⟩
  obtain ⟨b, c, rfl, hr⟩ := own_reads ho (gc_bd (bd_mem h.bd) p)
  exact ⟨b, c, rfl, hr, hb⟩
end Go.Proofs.YtcenkalhklpajaaGreatDoor
namespace Go.Proofs.YtcenkalhklpajaaGreatDoor
open Go.RowKit
set_option maxRecDepth 1000000

theorem reads_eq {w : World} {a : Option Addr} {l c : Nat} {xs ys : List Int} (h : Reads w a l c xs) (e : xs = ys) : Reads w a l c ys := by subst e; exact h

theorem putChunkRr (a : Option Addr) (len cap : Nat) (ys : List Int) (w : World) (hr : Reads w a len cap ys) (hm : 10 + len ≤ 140737488355328) :
    Calls Tryz.prog 53 #[.slice a len cap] w fun e w' => ∃ b c, e = .returned (.slice b (pc ys).length c) ∧ Reads w' b (pc ys).length c (pc ys) ∧ Below w.heap.size w w' := by
  have hlen := hr.length
  refine (putChunkR a len cap ys w hr hm).mono ?_
  rintro e w' ⟨v, rfl, ho, hb⟩
  obtain ⟨b, c, rfl, hr2⟩ := own_reads ho (by
    intro x hx
    rcases List.mem_append.1 hx with h | h
    · exact pv_bd (by omega) (by omega) x h
    · exact bd_mem hr.bd x h)
  exact ⟨b, c, rfl, hr2, hb⟩

end Go.Proofs.YtcenkalhklpajaaGreatDoor
namespace Go.Proofs.YtcenkalhklpajaaGreatDoor
open Go.RowKit
set_option maxRecDepth 1000000

/-- Do an entry's parts fit its kind? Its fault. Its bytes. -/
def fit (kind n : Int) (len : Nat) : Bool := if kind = 2 then decide (n = 0) else decide (len = 0) && (decide (kind ≠ 5) || decide (n ≤ 4294967295))
def ef (num kind n : Int) (len : Nat) : Int := if tf num kind ≠ 0 then tf num kind else if fit kind n len = true then 0 else 7
def body (kind n : Int) (ys : List Int) : List Int := if kind = 1 then pw 8 n else if kind = 5 then pw 4 n else if kind = 2 then pc ys else pv n
def pe (num kind n : Int) (ys : List Int) : List Int := pv (num * 8 + kind) ++ body kind n ys

theorem okK_cases {k : Int} (h : okK k = true) : k = 0 ∨ k = 1 ∨ k = 2 ∨ k = 5 := by simpa [okK] using h
theorem ef_tf {num kind n : Int} {len : Nat} (h : tf num kind ≠ 0) : ef num kind n len = tf num kind := by unfold ef; rw [if_pos h]
theorem ef_fit {num kind n : Int} {len : Nat} (h : tf num kind = 0) : ef num kind n len = if fit kind n len = true then 0 else 7 := by unfold ef; rw [if_neg (by simp [h])]
theorem ef_ok {num kind n : Int} {len : Nat} (h : ef num kind n len = 0) : tf num kind = 0 ∧ fit kind n len = true := by
  unfold ef at h
  split at h
  · rename_i h1; exact absurd h h1
  · rename_i h1
    split at h
    · exact ⟨by simpa using h1, by assumption⟩
    · cases h
theorem body_bd {kind n : Int} {ys : List Int} (h0 : 0 ≤ n) (h1 : n < 18446744073709551616) (hy : ∀ x ∈ ys, 0 ≤ x ∧ x ≤ 255) (hl : ys.length < 18446744073709551616) : ∀ x ∈ body kind n ys, 0 ≤ x ∧ x ≤ 255 := by
  unfold body
  split
  · exact pw_bd 8 n
  · split
    · exact pw_bd 4 n
    · split
      · intro x hx
        rcases List.mem_append.1 hx with h | h
        · exact pv_bd (by omega) (by omega) x h
        · exact hy x h
      · exact pv_bd h0 h1
theorem pe_bd {num kind n : Int} {ys : List Int} (ht : tf num kind = 0) (h0 : 0 ≤ n) (h1 : n < 18446744073709551616) (hy : ∀ x ∈ ys, 0 ≤ x ∧ x ≤ 255) (hl : ys.length < 18446744073709551616) : ∀ x ∈ pe num kind n ys, 0 ≤ x ∧ x ≤ 255 := by
  obtain ⟨a, b, c⟩ := tf_ok ht
  have := okK_bd c
  intro x hx
  rcases List.mem_append.1 hx with h | h
  · exact pv_bd (by omega) (by omega) x h
  · exact body_bd h0 h1 hy hl x h
theorem body_len {kind n : Int} {ys : List Int} : (body kind n ys).length ≤ 10 + ys.length := by
  unfold body
  split
  · rw [pw_length]; omega
  · split
    · rw [pw_length]; omega
    · split
      · have := (pv_len (ys.length : Int)).2; simp [pc]; omega
      · have := (pv_len n).2; omega
theorem pe_len {num kind n : Int} {ys : List Int} : (pe num kind n ys).length ≤ 20 + ys.length := by
  have h1 := (pv_len (num * 8 + kind)).2
  have h2 := body_len (kind := kind) (n := n) (ys := ys)
  simp [pe]; omega
end Go.Proofs.YtcenkalhklpajaaGreatDoor
namespace Go.Proofs.YtcenkalhklpajaaGreatDoor
open Go.RowKit
set_option maxRecDepth 1000000

/-- What reading an entry gives: its parts, the place behind it, the fault. -/
structure Got where
  num : Int
  kind : Int
  n : Int
  b : List Int
  next : Int
  err : Int

def Got.none (e : Int) : Got := ⟨0, 0, 0, [], 0, e⟩
/-- The number behind a tag of a kind but Chunk. -/
def numF (xs : List Int) (kind : Int) (p : Nat) : Int × Int × Int := if kind = 0 then gv xs p else if kind = 1 then gw xs p 8 else gw xs p 4
def ofNum (num kind : Int) (g : Int × Int × Int) : Got := if g.2.2 ≠ 0 then Got.none g.2.2 else ⟨num, kind, g.1, [], g.2.1, 0⟩
def ofChunk (num kind : Int) (c : List Int × Int × Int) : Got := if c.2.2 ≠ 0 then Got.none c.2.2 else ⟨num, kind, 0, c.1, c.2.1, 0⟩
def restF (xs : List Int) (num kind : Int) (p : Nat) : Got := if kind = 2 then ofChunk num kind (gc xs p) else ofNum num kind (numF xs kind p)
def geF (xs : List Int) (t : Int × Int × Int × Int) : Got := if t.2.2.2 ≠ 0 then Got.none t.2.2.2 else restF xs t.1 t.2.1 t.2.2.1.toNat
def ge (xs : List Int) (p : Nat) : Got := geF xs (gt xs p)

theorem ofNum_err {num kind : Int} {g : Int × Int × Int} (h : (g.2.2 != 0) = true) : ofNum num kind g = Got.none g.2.2 := by unfold ofNum; rw [if_pos (by simpa using h)]
theorem ofNum_ok {num kind : Int} {g : Int × Int × Int} (h : (g.2.2 != 0) = false) : ofNum num kind g = ⟨num, kind, g.1, [], g.2.1, 0⟩ := by unfold ofNum; rw [if_neg (by simpa using h)]
theorem ofChunk_err {num kind : Int} {c : List Int × Int × Int} (h : (c.2.2 != 0) = true) : ofChunk num kind c = Got.none c.2.2 := by unfold ofChunk; rw [if_pos (by simpa using h)]
theorem ofChunk_ok {num kind : Int} {c : List Int × Int × Int} (h : (c.2.2 != 0) = false) : ofChunk num kind c = ⟨num, kind, 0, c.1, c.2.1, 0⟩ := by unfold ofChunk; rw [if_neg (by simpa using h)]
theorem geF_err {xs : List Int} {t : Int × Int × Int × Int} (h : (t.2.2.2 != 0) = true) : geF xs t = Got.none t.2.2.2 := by unfold geF; rw [if_pos (by simpa using h)]
theorem geF_ok {xs : List Int} {t : Int × Int × Int × Int} (h : (t.2.2.2 != 0) = false) : geF xs t = restF xs t.1 t.2.1 t.2.2.1.toNat := by unfold geF; rw [if_neg (by simpa using h)]

/-- A tag that is read ends within the bytes, and is of a kind. -/
theorem gt_facts {xs : List Int} {p : Nat} (hp : p ≤ xs.length) (h : (gt xs p).2.2.2 = 0) : tf (gt xs p).1 (gt xs p).2.1 = 0 ∧ (p : Int) + 1 ≤ (gt xs p).2.2.1 ∧ (gt xs p).2.2.1 ≤ xs.length := by
  unfold gt gtF at h ⊢
  by_cases he : (gv xs p).2.2 ≠ 0
  · rw [if_pos he] at h; exact absurd h he
  · rw [if_neg he] at h ⊢
    by_cases ht : tf ((gv xs p).1 / 8) ((gv xs p).1 % 8) ≠ 0
    · rw [if_pos ht] at h; exact absurd h ht
    · rw [if_neg ht]
      have := gv_next hp (by simpa using he)
      exact ⟨by simpa using ht, this.1, this.2⟩
/-- Reading goes on, and stays within the bytes. -/
theorem gw_next {xs : List Int} {p size : Nat} (h : (gw xs p size).2.2 = 0) : (gw xs p size).2.1 = p + size ∧ p + size ≤ xs.length := by
  unfold gw at h ⊢
  by_cases hs : xs.length < p + size
  · rw [if_pos hs] at h; cases h
  · rw [if_neg hs]; exact ⟨rfl, by omega⟩
theorem gc_next {xs : List Int} {p : Nat} (hb : ∀ x ∈ xs, 0 ≤ x ∧ x ≤ 255) (hp : p ≤ xs.length) (h : (gc xs p).2.2 = 0) : (p : Int) + 1 ≤ (gc xs p).2.1 ∧ (gc xs p).2.1 ≤ xs.length := by
  have hv := gv_bd hb p
  have hn := gv_next hp
  unfold gc gcF at h ⊢
  by_cases he : (gv xs p).2.2 ≠ 0
  · rw [if_pos he] at h; exact absurd h he
  · rw [if_neg he] at h ⊢
    have hn := hn (by simpa using he)
    by_cases hf : (xs.length : Int) - (gv xs p).2.1 < (gv xs p).1
    · rw [if_pos hf] at h; cases h
    · rw [if_neg hf]
      exact ⟨by simp only []; omega, by simp only []; omega⟩
theorem ge_next {xs : List Int} {p : Nat} (hb : ∀ x ∈ xs, 0 ≤ x ∧ x ≤ 255) (hp : p ≤ xs.length) (h : (ge xs p).err = 0) : (p : Int) + 2 ≤ (ge xs p).next ∧ (ge xs p).next ≤ xs.length := by
  unfold ge at h ⊢
  cases he : ((gt xs p).2.2.2 != 0) with
  | true =>
    rw [geF_err he] at h
    have : (gt xs p).2.2.2 = 0 := h
    rw [this] at he; cases he
  | false =>
    rw [geF_ok he] at h ⊢
    obtain ⟨ht, h1, h2⟩ := gt_facts hp (by simpa using he)
    have hq : ((gt xs p).2.2.1.toNat : Int) = (gt xs p).2.2.1 := Int.toNat_of_nonneg (by omega)
    generalize (gt xs p).2.2.1.toNat = q at h hq ⊢
    unfold restF at h ⊢
    by_cases hk : (gt xs p).2.1 = 2
    · rw [if_pos hk] at h ⊢
      cases hc : ((gc xs q).2.2 != 0) with
      | true =>
        rw [ofChunk_err hc] at h
        have : (gc xs q).2.2 = 0 := h
        rw [this] at hc; cases hc
      | false =>
        rw [ofChunk_ok hc]
        have := gc_next hb (p := q) (by omega) (by simpa using hc)
        exact ⟨by simp only []; omega, by simp only []; omega⟩
    · rw [if_neg hk] at h ⊢
      cases hc : ((numF xs (gt xs p).2.1 q).2.2 != 0) with
      | true =>
        rw [ofNum_err hc] at h
        have : (numF xs (gt xs p).2.1 q).2.2 = 0 := h
        rw [this] at hc; cases hc
      | false =>
        rw [ofNum_ok hc]
        have hc0 : (numF xs (gt xs p).2.1 q).2.2 = 0 := by simpa using hc
        unfold numF at hc0 ⊢
        split at hc0
        · rename_i hk0
          rw [if_pos hk0]
          have := gv_next (xs := xs) (p := q) (by omega) hc0
          exact ⟨by simp only []; omega, by simp only []; omega⟩
        · rename_i hk0
          rw [if_neg hk0]
          split at hc0
          · rename_i hk1
            rw [if_pos hk1]
            have := gw_next hc0
            exact ⟨by simp only []; omega, by simp only []; omega⟩
          · rename_i hk1
            rw [if_neg hk1]
            have := gw_next hc0
            exact ⟨by simp only []; omega, by simp only []; omega⟩
end Go.Proofs.YtcenkalhklpajaaGreatDoor
namespace Go.Proofs.YtcenkalhklpajaaGreatDoor
open Go.RowKit
set_option maxRecDepth 1000000

structure Ent where
  num : Int
  kind : Int
  n : Int
  b : List Int

def Got.ent (g : Got) : Ent := ⟨g.num, g.kind, g.n, g.b⟩

/-- All entries from a place on, behind those that were read. -/
def spF : Nat → List Int → Nat → List Ent → List Ent × Int
  | 0, _, _, acc => (acc, 0)
  | f + 1, xs, p, acc => if xs.length ≤ p then (acc, 0) else if (ge xs p).err ≠ 0 then ([], (ge xs p).err) else spF f xs (ge xs p).next.toNat (acc ++ [(ge xs p).ent])
def sp (xs : List Int) : List Ent × Int := spF (xs.length + 1) xs 0 []

theorem spF_end {f p : Nat} {xs : List Int} {acc : List Ent} (h : xs.length ≤ p) : spF f xs p acc = (acc, 0) := by
  cases f with
  | zero => rfl
  | succ f => rw [spF, if_pos h]
theorem spF_err {f p : Nat} {xs : List Int} {acc : List Ent} (h : p < xs.length) (hf : xs.length < p + f) (he : ((ge xs p).err != 0) = true) : spF f xs p acc = ([], (ge xs p).err) := by
  cases f with
  | zero => omega
  | succ f => rw [spF, if_neg (by omega), if_pos (by simpa using he)]
theorem spF_more {f p : Nat} {xs : List Int} {acc : List Ent} (h : p < xs.length) (hf : xs.length < p + f) (he : ((ge xs p).err != 0) = false) : spF f xs p acc = spF (f - 1) xs (ge xs p).next.toNat (acc ++ [(ge xs p).ent]) := by
  cases f with
  | zero => omega
  | succ f => rw [spF, if_neg (by omega), if_neg (by simpa using he)]; rfl

/-- All entries' bytes, behind those that were written. -/
def jnF : List Ent → List Int → List Int × Int
  | [], acc => (acc, 0)
  | x :: r, acc => if ef x.num x.kind x.n x.b.length ≠ 0 then ([], ef x.num x.kind x.n x.b.length) else jnF r (acc ++ pe x.num x.kind x.n x.b)
def jn (l : List Ent) : List Int × Int := jnF l []
theorem jnF_err {x : Ent} {r : List Ent} {acc : List Int} (h : (ef x.num x.kind x.n x.b.length != 0) = true) : jnF (x :: r) acc = ([], ef x.num x.kind x.n x.b.length) := by rw [jnF, if_pos (by simpa using h)]
theorem jnF_more {x : Ent} {r : List Ent} {acc : List Int} (h : (ef x.num x.kind x.n x.b.length != 0) = false) : jnF (x :: r) acc = jnF r (acc ++ pe x.num x.kind x.n x.b) := by rw [jnF, if_neg (by simpa using h)]

/-- How many bytes all entries' own bytes are. -/
def bulk : List Ent → Nat
  | [] => 0
  | x :: r => 20 + x.b.length + bulk r
theorem jnF_len : ∀ (l : List Ent) (acc : List Int), (jnF l acc).1.length ≤ acc.length + bulk l
  | [], acc => by simp [jnF]
  | x :: r, acc => by
    cases h : (ef x.num x.kind x.n x.b.length != 0) with
    | true => rw [jnF_err h]; simp
    | false =>
      rw [jnF_more h]
      have := jnF_len r (acc ++ pe x.num x.kind x.n x.b)
      have := pe_len (num := x.num) (kind := x.kind) (n := x.n) (ys := x.b)
      simp [bulk] at *
      omega
theorem bulk_drop (l : List Ent) (k : Nat) : bulk (l.drop k) ≤ bulk l := by
  induction l generalizing k with
  | nil => simp [bulk]
  | cons x r ih =>
    cases k with
    | zero => simp
    | succ k => simp [bulk]; have := ih k; omega
end Go.Proofs.YtcenkalhklpajaaGreatDoor
namespace Go.Proofs.YtcenkalhklpajaaGreatDoor
open Go.RowKit
set_option maxRecDepth 1000000

theorem zag_zig (m : Int) : zagF (zigF m) = m := by
  unfold zigF zagF
  split <;> split <;> omega
theorem zig_bd (m : Int) (h0 : -9223372036854775808 ≤ m) (h1 : m ≤ 9223372036854775807) : 0 ≤ zigF m ∧ zigF m < 18446744073709551616 := by
  unfold zigF
  split <;> omega

theorem pow7 (k : Nat) : (2 : Int) ^ (7 * (k + 1)) = 128 * 2 ^ (7 * k) := by rw [show 7 * (k + 1) = 7 * k + 7 by omega, Int.pow_add]; omega

theorem gvF_pvF : ∀ (f k : Nat) (n X p : Int) (rest : List Int), f + k = 9 → 0 ≤ n → n * 2 ^ (7 * k) < 18446744073709551616 →
    gvF (pvF f n ++ rest) k X p = (X + n * 2 ^ (7 * k), p + k + (pvF f n).length, 0)
  | 0, k, n, X, p, rest, hk, h0, h1 => by
    obtain rfl : k = 9 := by omega
    have e2 : (2 : Int) ^ (7 * 9) = 9223372036854775808 := by decide
    rw [e2] at h1
    rw [pvF, List.cons_append, gvF, if_neg (by omega), if_pos (by omega)]
    rfl
  | f + 1, k, n, X, p, rest, hk, h0, h1 => by
    have hp : (0 : Int) < 2 ^ (7 * k) := Int.pow_pos (by decide)
    by_cases h : n < 128
    · rw [pvF_small _ h, List.cons_append, gvF, if_neg (by omega), if_pos h]; rfl
    · have hd : n = 128 * (n / 128) + n % 128 := by omega
      have hmul : n * 2 ^ (7 * k) = n / 128 * (128 * 2 ^ (7 * k)) + n % 128 * 2 ^ (7 * k) := by
        conv => lhs; rw [hd]
        rw [Int.add_mul, Int.mul_comm 128 (n / 128), Int.mul_assoc]
      have hm0 : 0 ≤ n % 128 * 2 ^ (7 * k) := Int.mul_nonneg (by omega) (Int.le_of_lt hp)
      rw [pvF_big _ h, List.cons_append, gvF, if_neg (by omega), if_neg (by omega), gvF_pvF f (k + 1) (n / 128) _ p rest (by omega) (by omega) (by rw [pow7]; omega), pow7]
      rw [show n % 128 + 128 - 128 = n % 128 by omega, List.length_cons]
      simp only [Prod.mk.injEq, and_true]
      constructor <;> omega
theorem gv_put (ahead rest : List Int) (n : Int) (h0 : 0 ≤ n) (h1 : n < 18446744073709551616) : gv (ahead ++ (pv n ++ rest)) ahead.length = (n, (ahead.length : Int) + (pv n).length, 0) := by
  unfold gv pv
  rw [List.drop_left, gvF_pvF 9 0 n 0 _ rest (by omega) h0 (by simpa using h1)]
  simp
theorem gc_put (ahead rest ys : List Int) (h : ys.length < 18446744073709551616) : gc (ahead ++ (pc ys ++ rest)) ahead.length = (ys, (ahead.length : Int) + (pc ys).length, 0) := by
  unfold gc
  have hg := gv_put ahead (ys ++ rest) (ys.length : Int) (by omega) (by omega)
  rw [show ahead ++ (pv (ys.length : Int) ++ (ys ++ rest)) = ahead ++ (pc ys ++ rest) by simp [pc]] at hg
  rw [hg, gcF_ok (by rfl) (by simp [pc]; omega)]
  have e1 : ((ahead.length : Int) + (pv (ys.length : Int)).length).toNat = (ahead ++ pv (ys.length : Int)).length := by simp; omega
  simp only [Int.toNat_natCast]
  rw [e1, show ahead ++ (pc ys ++ rest) = (ahead ++ pv (ys.length : Int)) ++ (ys ++ rest) by simp [pc], List.drop_left, List.take_left]
  simp only [Prod.mk.injEq, and_true, true_and]
  simp [pc]
  omega
theorem word_pw : ∀ (s : Nat) (n : Int), 0 ≤ n → wordF (pw s n) = n % 2 ^ (8 * s)
  | 0, n, _ => by simp [pw, wordF]
  | s + 1, n, h0 => by
    rw [pw_succ, word_snoc, word_pw s n h0, pw_length, pow8, Int.mul_comm 256 (2 ^ (8 * s)), Int.mul_comm (n / 2 ^ (8 * s) % 256)]
    obtain ⟨m, rfl⟩ := Int.eq_ofNat_of_zero_le h0
    have h := Nat.mod_mul (x := m) (a := 2 ^ (8 * s)) (b := 256)
    have e : ((2 ^ (8 * s) : Nat) : Int) = (2 : Int) ^ (8 * s) := Int.natCast_pow 2 _
    rw [← e]
    generalize (2 : Nat) ^ (8 * s) = a at h ⊢
    have h2 : ((m % (a * 256) : Nat) : Int) = ((m % a + a * (m / a % 256) : Nat) : Int) := by rw [h]
    rw [Int.natCast_add, Int.natCast_mul, Int.natCast_emod, Int.natCast_emod, Int.natCast_emod, Int.natCast_ediv, Int.natCast_mul] at h2
    exact h2.symm
theorem gw_put (ahead rest : List Int) (s : Nat) (n : Int) (h0 : 0 ≤ n) (h1 : n < 2 ^ (8 * s)) : gw (ahead ++ (pw s n ++ rest)) ahead.length s = (n, (ahead.length : Int) + (pw s n).length, 0) := by
  unfold gw
  rw [if_neg (by simp [pw_length]), List.drop_left, List.take_left' (pw_length s n), word_pw s n h0, Int.emod_eq_of_lt h0 h1, pw_length]
theorem gt_put (ahead rest : List Int) (num kind : Int) (ht : tf num kind = 0) : gt (ahead ++ (pv (num * 8 + kind) ++ rest)) ahead.length = (num, kind, (ahead.length : Int) + (pv (num * 8 + kind)).length, 0) := by
  obtain ⟨a, b, c⟩ := tf_ok ht
  have hk := okK_bd c
  unfold gt
  rw [gv_put ahead rest _ (by omega) (by omega)]
  have e1 : (num * 8 + kind) / 8 = num := by omega
  have e2 : (num * 8 + kind) % 8 = kind := by omega
  rw [gtF_ok (by rfl) (by simp only []; rw [e1, e2]; exact ht)]
  simp only [e1, e2]
theorem got_eq {a b c e e' f : Int} {d : List Int} (h : e = e') : (⟨a, b, c, d, e, f⟩ : Got) = ⟨a, b, c, d, e', f⟩ := by rw [h]
theorem ge_put (ahead rest : List Int) (num kind n : Int) (ys : List Int) (he : ef num kind n ys.length = 0) (h0 : 0 ≤ n) (h1 : n < 18446744073709551616) (hl : ys.length < 18446744073709551616) :
    ge (ahead ++ (pe num kind n ys ++ rest)) ahead.length = ⟨num, kind, n, ys, (ahead.length : Int) + (pe num kind n ys).length, 0⟩ := by
  obtain ⟨ht, hf⟩ := ef_ok he
  unfold ge pe
  rw [List.append_assoc, gt_put ahead _ num kind ht, geF_ok (by rfl)]
  have e1 : ((ahead.length : Int) + (pv (num * 8 + kind)).length).toNat = (ahead ++ pv (num * 8 + kind)).length := by simp; omega
  simp only []
  rw [e1, ← List.append_assoc]
  generalize hA : ahead ++ pv (num * 8 + kind) = A
  have hAl : (A.length : Int) = (ahead.length : Int) + (pv (num * 8 + kind)).length := by rw [← hA]; simp
  unfold restF
  rcases okK_cases (tf_ok ht).2.2 with rfl | rfl | rfl | rfl
  · have hy : ys = [] := by simpa [fit] using hf
    subst hy
    rw [if_neg (by decide), numF, if_pos rfl]
    have : body 0 n [] = pv n := rfl
    rw [this, gv_put A rest n h0 h1, ofNum_ok (by rfl)]
    exact got_eq (by dsimp only; rw [List.length_append, hAl]; omega)
  · have hy : ys = [] := by simpa [fit] using hf
    subst hy
    rw [if_neg (by decide), numF, if_neg (by decide), if_pos rfl]
    have : body 1 n [] = pw 8 n := rfl
    rw [this, gw_put A rest 8 n h0 (by simpa using h1), ofNum_ok (by rfl)]
    exact got_eq (by dsimp only; rw [List.length_append, hAl]; omega)
  · have hn : n = 0 := by simpa [fit] using hf
    subst hn
    rw [if_pos rfl]
    have : body 2 0 ys = pc ys := rfl
    rw [this, gc_put A rest ys hl, ofChunk_ok (by rfl)]
    exact got_eq (by dsimp only; rw [List.length_append, hAl]; omega)
  · have hy : ys = [] ∧ n ≤ 4294967295 := by simpa [fit] using hf
    obtain ⟨rfl, hn⟩ := hy
    rw [if_neg (by decide), numF, if_neg (by decide), if_neg (by decide)]
    have : body 5 n [] = pw 4 n := rfl
    rw [this, gw_put A rest 4 n h0 (by simp; omega), ofNum_ok (by rfl)]
    exact got_eq (by dsimp only; rw [List.length_append, hAl]; omega)
end Go.Proofs.YtcenkalhklpajaaGreatDoor
