/-
  Plain mathematics for the layer wire: the digits of a varint, reading them, zigzag; nothing of the program.
  Walks over the functions of the layer wire that only compute: zigzag, the places, the number of a varint's bytes.
  Walks over the functions that read a varint, the program's and the document's.
  Walks over 'same' and over the functions that write a varint, the program's and the document's.
  What is owned can be read, and stays; 'awake' returns true.
  A slice that came in can be read; the walk of the law WireVarints.
  Plain mathematics for tags; nothing of the program.
  Walks over tags, the program's and the document's.
  Walks over reading tags, the program's and the document's.
  The walk of the law WireTags.
  Plain mathematics for words and chunks; nothing of the program.
  Walks over fixed words, the program's and the document's.
  Walks over writing fixed words, the program's and the document's.
  Walks over writing chunks, the program's and the document's.
  Walks over reading chunks, the program's and the document's.
  The walk of the law WireWords.
  Appending with a frame that is told block by block: all old blocks but the slice's own stay.
  Plain mathematics for entries; nothing of the program.
  Walks over writing entries: their faults and their bytes, the program's and the document's.
  Walks over PutEntry, the program's and the document's.
  Entries that can be written; what a typed message holds.
  Whether a message is typed, with all messages within.
  What stays of a typed message.
-/
import Derived.Lib.VarintBits
import Derived.Lib.Zigzag
import Derived.RowKit
import Derived.Laws.BytesArg
import Derived.Test.YtnfdlnelfnigdaaGreatDoorCAK
import Derived.Test.YtnfdlnelfnigdaaGreatDoorRows
import Derived.Laws.MakeOwn
import Derived.OwnWalk
import Derived.Laws.AppendOwnNone
import Derived.Test.YtnfdlnelfnigdaaGreatDoorCAQ
import Derived.Test.YtnfdlnelfnigdaaGreatDoorCTY0
namespace Go.Proofs.YtnfdlnelfnigdaaGreatDoor.W
open Go.RowKit
set_option maxRecDepth 1000000
/-- The digits of a number, at most f + 1 of them. -/
def pvF : Nat → Int → List Int
  | 0, n => [n]
  | f + 1, n => if n < 128 then [n] else (n % 128 + 128) :: pvF f (n / 128)
def pv (n : Int) : List Int := pvF 9 n
theorem pvF_small (f : Nat) {n : Int} (h : n < 128) : pvF f n = [n] := by cases f <;> simp [pvF, h]
theorem pvF_big (f : Nat) {n : Int} (h : ¬ n < 128) : pvF (f + 1) n = (n % 128 + 128) :: pvF f (n / 128) := by simp [pvF, h]
theorem div_lt (f : Nat) {n : Int} (h : n < 128 ^ (f + 1)) : n / 128 < 128 ^ f := Int.ediv_lt_of_lt_mul (by decide) (by rwa [← Int.pow_succ])
theorem lt_ten {n : Int} (h : n < 18446744073709551616) : n < 128 ^ (9 + 1) := by
  have e : (128 : Int) ^ (9 + 1) = 1180591620717411303424 := by decide
  rw [e]; omega
theorem pvF_bd : ∀ (f : Nat) (n : Int), 0 ≤ n → n < 128 ^ (f + 1) → ∀ x ∈ pvF f n, 0 ≤ x ∧ x ≤ 255
  | 0, n, h0, h1, x, hx => by simp [pvF] at hx; subst hx; simp at h1; omega
  | f + 1, n, h0, h1, x, hx => by
    by_cases h : n < 128
    · rw [pvF_small _ h] at hx; simp at hx; subst hx; omega
    · rw [pvF_big _ h] at hx
      rcases List.mem_cons.1 hx with rfl | hx
      · omega
      · exact pvF_bd f _ (by omega) (div_lt _ h1) x hx
theorem pvF_len : ∀ (f : Nat) (n : Int), 1 ≤ (pvF f n).length ∧ (pvF f n).length ≤ f + 1
  | 0, n => by simp [pvF]
  | f + 1, n => by
    by_cases h : n < 128
    · rw [pvF_small _ h]; simp
    · rw [pvF_big _ h]; have := pvF_len f (n / 128); simp; omega
theorem pv_bd {n : Int} (h0 : 0 ≤ n) (h1 : n < 18446744073709551616) : ∀ x ∈ pv n, 0 ≤ x ∧ x ≤ 255 := pvF_bd 9 n h0 (lt_ten h1)
theorem pv_len (n : Int) : 1 ≤ (pv n).length ∧ (pv n).length ≤ 10 := pvF_len 9 n
theorem and127 (n : Int) (h₀ : 0 ≤ n) (h₁ : n < 18446744073709551616) : bits .and .u64 n 127 = n % 128 := bits_mask .u64 64 (by decide) wraps_u64 7 (by decide) n h₀ (by omega)
theorem or128 (n : Int) (h₀ : 0 ≤ n) (h₁ : n < 128) : bits .or .u64 n 128 = n + 128 := u64_orv7 n 128 h₀ h₁ (by decide) (by decide) (by decide)
theorem digit (n : Int) (h₀ : 0 ≤ n) (h₁ : n < 18446744073709551616) : bits .or .u64 (bits .and .u64 n 127) 128 = n % 128 + 128 := by
  rw [and127 n h₀ h₁, or128 _ (by omega) (by omega)]
section
variable {xs : List Int} {p k : Nat} {X : Int}
end
end Go.Proofs.YtnfdlnelfnigdaaGreatDoor.W
namespace Go.Proofs.YtnfdlnelfnigdaaGreatDoor.W
open Go.RowKit
set_option maxRecDepth 1000000
theorem own_last {w : World} {base m j : Nat} {v : Value} {xs : List Value} {pre all : List Int} {N : Int} (h : w.ownsRow base 5 1 v (m + j + 1) (xs ++ pre.map (Value.int .u8) ++ [.int .u8 N])) (hj : pre.length = j) (e : all = pre ++ [N]) :
    w.ownsRow base 5 1 v (m + all.length) (xs ++ all.map (Value.int .u8)) := by
  subst hj e
  simpa [Nat.add_assoc] using h
theorem own_more {w : World} {base m j : Nat} {v : Value} {xs : List Value} {pre : List Int} {N : Int} (h : w.ownsRow base 5 1 v (m + j + 1) (xs ++ pre.map (Value.int .u8) ++ [.int .u8 N])) :
    w.ownsRow base 5 1 v (m + (j + 1)) (xs ++ (pre ++ [N]).map (Value.int .u8)) := by
  simpa [Nat.add_assoc] using h
theorem pv_more {f : Nat} {N : Int} (h : N < 128 ^ (f + 1)) (hge : ¬ N < 128) : ∃ g, f = g + 1 ∧ N / 128 < 128 ^ (g + 1) ∧ pvF f N = (N % 128 + 128) :: pvF g (N / 128) := by
  cases f with
  | zero => simp at h; omega
  | succ g => exact ⟨g, rfl, div_lt _ h, pvF_big g hge⟩
end Go.Proofs.YtnfdlnelfnigdaaGreatDoor.W
namespace Go.Proofs.YtnfdlnelfnigdaaGreatDoor.W
open Go.RowKit
set_option maxRecDepth 1000000
/-- The wire kinds. -/
def okK (k : Int) : Bool := decide (k = 0 ∨ k = 1 ∨ k = 2 ∨ k = 5)
/-- The fault of a tag. -/
def tf (n k : Int) : Int := if n < 1 ∨ 536870911 < n then 5 else if okK k = true then 0 else 6
theorem okK_bd {k : Int} (h : okK k = true) : 0 ≤ k ∧ k ≤ 5 := by simp [okK] at h; omega
theorem tf_ok {n k : Int} (h : tf n k = 0) : 1 ≤ n ∧ n ≤ 536870911 ∧ okK k = true := by
  unfold tf at h
  split at h
  · cases h
  · split at h
    · exact ⟨by omega, by omega, by assumption⟩
    · cases h
theorem tag_or (n k : Int) (h0 : 0 ≤ n) (h1 : n ≤ 536870911) (k0 : 0 ≤ k) (k1 : k ≤ 7) : bits .or .u64 (n * 8) k = n * 8 + k :=
  bits_join .u64 64 (by decide) wraps_u64 3 (n * 8) k (by omega) (by omega) (by omega) k0 (by omega) (by omega)
end Go.Proofs.YtnfdlnelfnigdaaGreatDoor.W
namespace Go.Proofs.YtnfdlnelfnigdaaGreatDoor.W
open Go.RowKit
set_option maxRecDepth 1000000
theorem isKindW (k : Int) (w : World) : Calls Tryz.prog 219 #[.int .i64 k] w fun e w' => e = .returned (.bool (okK k)) ∧ w = w' := by
  by_cases h0 : k = 0
  · subst h0
    go_enter Tryz.func219, Tryz.ntmps219
    go_wp2
    go_ret
    exact ⟨rfl, rfl⟩
  by_cases h1 : k = 1
  · subst h1
    go_enter Tryz.func219, Tryz.ntmps219
    go_wp2
    go_ret
    exact ⟨rfl, rfl⟩
  by_cases h2 : k = 2
  · subst h2
    go_enter Tryz.func219, Tryz.ntmps219
    go_wp2
    go_ret
    exact ⟨rfl, rfl⟩
  by_cases h5 : k = 5
  · subst h5
    go_enter Tryz.func219, Tryz.ntmps219
    go_wp2
    go_ret
    exact ⟨rfl, rfl⟩
  have e0 : (k == 0) = false := by simp [h0]
  have e1 : (k == 1) = false := by simp [h1]
  have e2 : (k == 2) = false := by simp [h2]
  have e5 : (k == 5) = false := by simp [h5]
  have H : Hid (okK k = false) := by show _ = _; simp [okK, h0, h1, h2, h5]
  clear h0 h1 h2 h5
  go_enter Tryz.func219, Tryz.ntmps219
  go_wp2
  go_ret
  exact ⟨ret_bool H.out.symm, rfl⟩
theorem tagFaultW (n k : Int) (w : World) : Calls Tryz.prog 203 #[.int .i64 n, .int .i64 k] w fun e w' => e = .returned (.int .i64 (tf n k)) ∧ w = w' := by
  by_cases h1 : n < 1
  · have H : Hid (tf n k = 5) := by show _ = _; simp [tf, h1]
    have d1 : decide (n < 1) = true := by simpa using h1
    go_enter Tryz.func203, Tryz.ntmps203
    go_wp2
    go_ret
    exact ⟨ret_int H.out.symm, rfl⟩
  by_cases h2 : 536870911 < n
  · have H : Hid (tf n k = 5) := by show _ = _; simp [tf, h2]
    have d1 : decide (n < 1) = false := by simpa using h1
    have d2 : decide (536870911 < n) = true := by simpa using h2
    go_enter Tryz.func203, Tryz.ntmps203
    go_wp2
    go_ret
    exact ⟨ret_int H.out.symm, rfl⟩
  have d1 : decide (n < 1) = false := by simpa using h1
  have d2 : decide (536870911 < n) = false := by simpa using h2
  cases hk : okK k with
  | true =>
    have H : Hid (tf n k = 0) := by show _ = _; simp [tf, h1, h2, hk]
    have HK : Hid (okK k = true) := hk
    clear hk
    go_enter Tryz.func203, Tryz.ntmps203
    go_wp2_with (go_at_call 219; refine (isKindW _ _).mono ?_; rw [HK.out]; rintro e w' ⟨rfl, rfl⟩)
    go_ret
    exact ⟨ret_int H.out.symm, rfl⟩
  | false =>
    have H : Hid (tf n k = 6) := by show _ = _; simp [tf, h1, h2, hk]
    have HK : Hid (okK k = false) := hk
    clear hk
    go_enter Tryz.func203, Tryz.ntmps203
    go_wp2_with (go_at_call 219; refine (isKindW _ _).mono ?_; rw [HK.out]; rintro e w' ⟨rfl, rfl⟩)
    go_ret
    exact ⟨ret_int H.out.symm, rfl⟩
theorem tagW (n k : Int) (w : World) (h : tf n k = 0) : Calls Tryz.prog 205 #[.int .i64 n, .int .i64 k] w fun e w' => e = .returned (.int .u64 (n * 8 + k)) ∧ w = w' := by
  obtain ⟨h0, h1, hk⟩ := tf_ok h
  obtain ⟨k0, k1⟩ := okK_bd hk
  have H : Hid (bits .or .u64 (n * 8) k = n * 8 + k) := tag_or n k (by omega) h1 k0 (by omega)
  clear h hk
  go_enter Tryz.func205, Tryz.ntmps205
  go_wp2
  go_ret
  exact ⟨ret_int H.out, rfl⟩
end Go.Proofs.YtnfdlnelfnigdaaGreatDoor.W
namespace Go.Proofs.YtnfdlnelfnigdaaGreatDoor.W
open Go.RowKit
set_option maxRecDepth 1000000
def pw (size : Nat) (n : Int) : List Int := (List.range size).map fun i => n / 2 ^ (8 * i) % 256
/-- A chunk's bytes; reading one. -/
def pc (xs : List Int) : List Int := pv xs.length ++ xs
theorem pw_succ (s : Nat) (n : Int) : pw (s + 1) n = pw s n ++ [n / 2 ^ (8 * s) % 256] := by simp [pw, List.range_succ]
theorem pw_length (s : Nat) (n : Int) : (pw s n).length = s := by simp [pw]
theorem pw_bd (s : Nat) (n : Int) : ∀ x ∈ pw s n, 0 ≤ x ∧ x ≤ 255 := by
  intro x hx
  simp [pw] at hx
  obtain ⟨i, _, rfl⟩ := hx
  omega
end Go.Proofs.YtnfdlnelfnigdaaGreatDoor.W
namespace Go.Proofs.YtnfdlnelfnigdaaGreatDoor.W
open Go.RowKit
set_option maxRecDepth 1000000
theorem own_cat {w : World} {base m n l : Nat} {v : Value} {xs : List Value} {ps ys : List Int} (h : w.ownsRow base 5 1 v (m + n + l) (xs ++ ps.map (Value.int .u8) ++ ys.map (Value.int .u8))) (hn : ps.length = n) (hl : ys.length = l) :
    w.ownsRow base 5 1 v (m + (ps ++ ys).length) (xs ++ (ps ++ ys).map (Value.int .u8)) := by
  subst hn hl
  simpa [Nat.add_assoc] using h
end Go.Proofs.YtnfdlnelfnigdaaGreatDoor.W
namespace Go.Proofs.YtnfdlnelfnigdaaGreatDoor.W
open Go.RowKit
set_option maxRecDepth 1000000
set_option maxHeartbeats 400000 in
theorem addvG (base : Nat) (v : Value) (m : Nat) (xs : List Value) (n : Int) (w : World) (hown : w.ownsRow base 5 1 v m xs) (hb : base ≤ w.heap.size) (h0 : 0 ≤ n) (h1 : n < 18446744073709551616) (hm : m + 10 ≤ 140737488355328) :
    Calls Tryz.prog 204 #[v, .int .u64 n] w fun e w' => ∃ v', e = .returned v' ∧ w'.ownsRow base 5 1 v' (m + (pv n).length) (xs ++ (pv n).map (Value.int .u8)) ∧ Grow w w' v v' := by
  have H9 : Hid (n < 128 ^ (9 + 1)) := lt_ten h1
  go_enter Tryz.func204, Tryz.ntmps204
  go_wp2
  go_loopw [0, 1] (fun o nn wr => ∃ (f j : Nat) (N : Int) (pre : List Int), 0 ≤ N ∧ N < 18446744073709551616 ∧ Hid (N < 128 ^ (f + 1)) ∧ pre.length = j ∧ j + f ≤ 9 ∧ nn = .int .u64 N ∧ wr.ownsRow base 5 1 o (m + j) (xs ++ pre.map (Value.int .u8)) ∧ Grow w wr v o ∧ Hid (pv n = pre ++ pvF f N)) (fun _ nn _ => (intOf nn).toNat)
  case atStart => exact ⟨9, 0, n, [], h0, h1, H9, rfl, by omega, rfl, by simpa using hown, Grow.refl _ _, rfl⟩
  case round =>
    obtain ⟨f, j, N, pre, hN0, hN, HN, hj, hjf, rfl, ho, hgw, HP⟩ := hrel
    have hsz := hgw.size
    have hd := digit N hN0 hN
    clear hown
    by_cases hlt : N < 128
    · obtain ⟨v', w3, hr, hown', hg'⟩ := append_byte base _ _ _ wr N ho (by omega) (by omega)
      have HR := hid hr
      clear hr
      go_wp2_with (first | (at_builtin; refine wpList_append_ran rfl _ _ 23 23 rfl rfl _ _ v' w3 rfl rfl HR.out ?_))
      go_ret
      exact ⟨v', rfl, own_last hown' hj (by rw [HP.out, pvF_small _ hlt]), hgw.trans hg'⟩
    · obtain ⟨v', w3, hr, hown', hg'⟩ := append_byte base _ _ _ wr (N % 128 + 128) ho (by omega) (by omega)
      have HR := hid hr
      clear hr
      go_wp2_with (first | (at_builtin; refine wpList_append_ran rfl _ _ 23 23 rfl rfl _ _ v' w3 rfl rfl HR.out ?_))
      obtain ⟨g, rfl, hg, e⟩ := pv_more HN.out hlt
      exact ⟨⟨g, j + 1, N / 128, pre ++ [N % 128 + 128], by omega, by omega, hg, by simp [hj], by omega, rfl, own_more hown', hgw.trans hg', by show _ = _; rw [HP.out, e]; simp⟩, by simp [intOf]; omega⟩
set_option maxHeartbeats 400000 in
theorem addWordG (base : Nat) (v : Value) (m : Nat) (xs : List Value) (n : Int) (size : Nat) (w : World) (hown : w.ownsRow base 5 1 v m xs) (hb : base ≤ w.heap.size) (h8 : size ≤ 8) (hm : m + 8 ≤ 140737488355328) :
    Calls Tryz.prog 206 #[v, .int .u64 n, .int .i64 size] w fun e w' => ∃ v', e = .returned v' ∧ w'.ownsRow base 5 1 v' (m + (pw size n).length) (xs ++ (pw size n).map (Value.int .u8)) ∧ Grow w w' v v' := by
  go_enter Tryz.func206, Tryz.ntmps206
  go_wp2
  go_loopw [0, 9] (fun o r wr => ∃ k : Nat, k ≤ size ∧ r = .int .i64 k ∧ wr.ownsRow base 5 1 o (m + k) (xs ++ (pw k n).map (Value.int .u8)) ∧ Grow w wr v o) (fun _ r _ => size - (intOf r).toNat)
  case atStart => exact ⟨0, by omega, rfl, by simpa [pw] using hown, Grow.refl _ _⟩
  case round =>
    obtain ⟨k, hk, rfl, ho, hgw⟩ := hrel
    have hsz := hgw.size
    clear hown
    by_cases hlt : k < size
    · obtain ⟨v', w3, hr, hown', hg'⟩ := append_byte base _ _ _ wr (IntKind.u8.wrap (n / 2 ^ (8 * k))) ho (by omega) (by omega)
      have HR := hid hr
      clear hr
      go_wp2_with (first | (at_builtin; refine wpList_append_ran rfl _ _ 23 23 rfl rfl _ _ v' w3 rfl rfl HR.out ?_))
      refine ⟨⟨k + 1, by omega, by go_num, ?_, hgw.trans hg'⟩, by simp [intOf]; omega⟩
      rw [pw_succ, ← byte_of]
      exact own_more hown'
    · obtain rfl : k = size := by omega
      go_wp2
      go_ret
      exact ⟨_, rfl, by rw [pw_length]; exact ho, hgw⟩
set_option maxHeartbeats 400000 in
theorem addChunkG (base : Nat) (v : Value) (m : Nat) (xs : List Value) (a : Option Addr) (len cap : Nat) (ys : List Int) (w : World) (hown : w.ownsRow base 5 1 v m xs) (hb : base ≤ w.heap.size) (hsrc : ∀ w', Below base w w' → Reads w' a len cap ys) (hm : m + 10 + len ≤ 140737488355328) :
    Calls Tryz.prog 207 #[v, .slice a len cap] w fun e w' => ∃ v', e = .returned v' ∧ w'.ownsRow base 5 1 v' (m + (pc ys).length) (xs ++ (pc ys).map (Value.int .u8)) ∧ Grow w w' v v' := by
  have hlen := (hsrc w (Below.refl _ _)).length
  have hpl := (pv_len (len : Int)).2
  have HP : Hid (pc ys = pv (len : Int) ++ ys) := by show _ = _; rw [pc, hlen]
  have HL := hid hlen
  have HS := hid hsrc
  have HO := hid hown
  clear hsrc hown hlen
  go_enter Tryz.func207, Tryz.ntmps207
  go_wp2_with fail
  refine (addvG base v m xs (len : Int) _ HO.out hb (by omega) (by omega) (by omega)).mono ?_
  rintro e w1 ⟨v1, rfl, ho1, hg1⟩
  have hb1 := hg1.below hb (fun k hk => (HO.out.lt k hk).1)
  obtain ⟨v', w3, hr, hown', hg'⟩ := append_bytes base v1 _ _ w1 a len cap ys ho1 (Nat.le_trans hb hg1.size) (HS.out w1 hb1) (by omega)
  have HR := hid hr
  clear hr
  go_wp2_with (first | (at_builtin; refine wpList_append_ran rfl _ _ 23 23 rfl rfl _ _ v' w3 rfl rfl HR.out ?_))
  go_ret
  exact ⟨v', rfl, by rw [HP.out]; exact own_cat hown' rfl HL.out, hg1.trans hg'⟩
end Go.Proofs.YtnfdlnelfnigdaaGreatDoor.W
namespace Go.Proofs.YtnfdlnelfnigdaaGreatDoor.W
open Go.RowKit
set_option maxRecDepth 1000000
/-- Do an entry's parts fit its kind? Its fault. Its bytes. -/
def fit (kind n : Int) (len : Nat) : Bool := if kind = 2 then decide (n = 0) else decide (len = 0) && (decide (kind ≠ 5) || decide (n ≤ 4294967295))
def ef (num kind n : Int) (len : Nat) : Int := if tf num kind ≠ 0 then tf num kind else if fit kind n len = true then 0 else 7
def body (kind n : Int) (ys : List Int) : List Int := if kind = 1 then pw 8 n else if kind = 5 then pw 4 n else if kind = 2 then pc ys else pv n
def pe (num kind n : Int) (ys : List Int) : List Int := pv (num * 8 + kind) ++ body kind n ys
theorem okK_cases {k : Int} (h : okK k = true) : k = 0 ∨ k = 1 ∨ k = 2 ∨ k = 5 := by simpa [okK] using h
theorem ef_tf {num kind n : Int} {len : Nat} (h : tf num kind ≠ 0) : ef num kind n len = tf num kind := by unfold ef; rw [if_pos h]
theorem ef_fit {num kind n : Int} {len : Nat} (h : tf num kind = 0) : ef num kind n len = if fit kind n len = true then 0 else 7 := by unfold ef; rw [if_neg (by simp [h])]
theorem ef_ok {num kind n : Int} {len : Nat} (h : ef num kind n len = 0) : tf num kind = 0 ∧ fit kind n len = true := by
  unfold ef at h
  split at h
  · rename_i h1; exact absurd h h1
  · rename_i h1
    split at h
    · exact ⟨by simpa using h1, by assumption⟩
    · cases h
theorem body_bd {kind n : Int} {ys : List Int} (h0 : 0 ≤ n) (h1 : n < 18446744073709551616) (hy : ∀ x ∈ ys, 0 ≤ x ∧ x ≤ 255) (hl : ys.length < 18446744073709551616) : ∀ x ∈ body kind n ys, 0 ≤ x ∧ x ≤ 255 := by
  unfold body
  split
  · exact pw_bd 8 n
  · split
    · exact pw_bd 4 n
    · split
      · intro x hx
        rcases List.mem_append.1 hx with h | h
        · exact pv_bd (by omega) (by omega) x h
        · exact hy x h
      · exact pv_bd h0 h1
theorem pe_bd {num kind n : Int} {ys : List Int} (ht : tf num kind = 0) (h0 : 0 ≤ n) (h1 : n < 18446744073709551616) (hy : ∀ x ∈ ys, 0 ≤ x ∧ x ≤ 255) (hl : ys.length < 18446744073709551616) : ∀ x ∈ pe num kind n ys, 0 ≤ x ∧ x ≤ 255 := by
  obtain ⟨a, b, c⟩ := tf_ok ht
  have := okK_bd c
  intro x hx
  rcases List.mem_append.1 hx with h | h
  · exact pv_bd (by omega) (by omega) x h
  · exact body_bd h0 h1 hy hl x h
end Go.Proofs.YtnfdlnelfnigdaaGreatDoor.W
namespace Go.Proofs.YtnfdlnelfnigdaaGreatDoor.W
open Go.RowKit
set_option maxRecDepth 1000000
set_option maxHeartbeats 400000 in
theorem entryFaultW (num kind n : Int) (a : Option Addr) (len cap : Nat) (w : World) (hl : len ≤ 9223372036854775807) :
    Calls Tryz.prog 178 #[.agg #[.int .i64 num, .int .i64 kind, .int .u64 n, .slice a len cap]] w fun e w' => e = .returned (.int .i64 (ef num kind n len)) ∧ Below w.heap.size w w' := by
  by_cases ht : tf num kind ≠ 0
  · have hne : (tf num kind != 0) = true := by simp [ht]
    rw [ef_tf ht]
    clear ht
    go_enter Tryz.func178, Tryz.ntmps178
    go_wp2_with (go_at_call 203; refine (tagFaultW _ _ _).mono ?_; rintro e w' ⟨rfl, rfl⟩)
    go_ret
    exact ⟨rfl, below_alloc _⟩
  · have ht : tf num kind = 0 := by simpa using ht
    rw [ef_fit ht]
    obtain ⟨_, _, hk⟩ := tf_ok ht
    have HT := hid ht
    clear ht
    have hk2 := okK_cases hk
    clear hk
    rcases hk2 with rfl | rfl | rfl | rfl
    · by_cases hz : len = 0
      · subst hz
        have HF : (if fit 0 n 0 = true then (0 : Int) else 7) = 0 := by simp [fit]
        rw [HF]
        clear HF
        go_enter Tryz.func178, Tryz.ntmps178
        go_wp2_with (go_at_call 203; refine (tagFaultW _ _ _).mono ?_; rw [HT.out]; rintro e w' ⟨rfl, rfl⟩)
        go_ret
        exact ⟨rfl, below_alloc _⟩
      · have hzb : ((len : Int) == 0) = false := by simp [hz]
        have HF : (if fit 0 n len = true then (0 : Int) else 7) = 7 := by simp [fit, hz]
        rw [HF]
        clear HF
        clear hz
        go_enter Tryz.func178, Tryz.ntmps178
        go_wp2_with (go_at_call 203; refine (tagFaultW _ _ _).mono ?_; rw [HT.out]; rintro e w' ⟨rfl, rfl⟩)
        go_ret
        exact ⟨rfl, below_alloc _⟩
    · by_cases hz : len = 0
      · subst hz
        have HF : (if fit 1 n 0 = true then (0 : Int) else 7) = 0 := by simp [fit]
        rw [HF]
        clear HF
        go_enter Tryz.func178, Tryz.ntmps178
        go_wp2_with (go_at_call 203; refine (tagFaultW _ _ _).mono ?_; rw [HT.out]; rintro e w' ⟨rfl, rfl⟩)
        go_ret
        exact ⟨rfl, below_alloc _⟩
      · have hzb : ((len : Int) == 0) = false := by simp [hz]
        have HF : (if fit 1 n len = true then (0 : Int) else 7) = 7 := by simp [fit, hz]
        rw [HF]
        clear HF
        clear hz
        go_enter Tryz.func178, Tryz.ntmps178
        go_wp2_with (go_at_call 203; refine (tagFaultW _ _ _).mono ?_; rw [HT.out]; rintro e w' ⟨rfl, rfl⟩)
        go_ret
        exact ⟨rfl, below_alloc _⟩
    · by_cases hz : n = 0
      · subst hz
        have HF : (if fit 2 0 len = true then (0 : Int) else 7) = 0 := by simp [fit]
        rw [HF]
        clear HF
        go_enter Tryz.func178, Tryz.ntmps178
        go_wp2_with (go_at_call 203; refine (tagFaultW _ _ _).mono ?_; rw [HT.out]; rintro e w' ⟨rfl, rfl⟩)
        go_ret
        exact ⟨rfl, below_alloc _⟩
      · have hzb : (n == 0) = false := by simp [hz]
        have HF : (if fit 2 n len = true then (0 : Int) else 7) = 7 := by simp [fit, hz]
        rw [HF]
        clear HF
        clear hz
        go_enter Tryz.func178, Tryz.ntmps178
        go_wp2_with (go_at_call 203; refine (tagFaultW _ _ _).mono ?_; rw [HT.out]; rintro e w' ⟨rfl, rfl⟩)
        go_ret
        exact ⟨rfl, below_alloc _⟩
    · by_cases hz : len = 0
      · subst hz
        by_cases hn : n ≤ 4294967295
        · have HF : (if fit 5 n 0 = true then (0 : Int) else 7) = 0 := by simp [fit, hn]
          rw [HF]
          clear HF
          have hd : decide (n ≤ 4294967295) = true := by simpa using hn
          go_enter Tryz.func178, Tryz.ntmps178
          go_wp2_with (go_at_call 203; refine (tagFaultW _ _ _).mono ?_; rw [HT.out]; rintro e w' ⟨rfl, rfl⟩)
          go_ret
          exact ⟨rfl, below_alloc _⟩
        · have HF : (if fit 5 n 0 = true then (0 : Int) else 7) = 7 := by simp [fit, hn]
          rw [HF]
          clear HF
          have hd : decide (n ≤ 4294967295) = false := by simpa using hn
          go_enter Tryz.func178, Tryz.ntmps178
          go_wp2_with (go_at_call 203; refine (tagFaultW _ _ _).mono ?_; rw [HT.out]; rintro e w' ⟨rfl, rfl⟩)
          go_ret
          exact ⟨rfl, below_alloc _⟩
      · have hzb : ((len : Int) == 0) = false := by simp [hz]
        have HF : (if fit 5 n len = true then (0 : Int) else 7) = 7 := by simp [fit, hz]
        rw [HF]
        clear HF
        clear hz
        go_enter Tryz.func178, Tryz.ntmps178
        go_wp2_with (go_at_call 203; refine (tagFaultW _ _ _).mono ?_; rw [HT.out]; rintro e w' ⟨rfl, rfl⟩)
        go_ret
        exact ⟨rfl, below_alloc _⟩
theorem own_cat2 {w : World} {base m : Nat} {v : Value} {xs : List Value} {ps ys zs : List Int} (h : w.ownsRow base 5 1 v (m + ps.length + ys.length) (xs ++ ps.map (Value.int .u8) ++ ys.map (Value.int .u8))) (e : zs = ps ++ ys) :
    w.ownsRow base 5 1 v (m + zs.length) (xs ++ zs.map (Value.int .u8)) := by
  subst e
  exact own_cat h rfl rfl
set_option maxHeartbeats 1000000 in
theorem addEntryW (base : Nat) (v : Value) (m : Nat) (xs : List Value) (num kind n : Int) (a : Option Addr) (len cap : Nat) (ys : List Int) (w : World) (hown : w.ownsRow base 5 1 v m xs) (hb : base ≤ w.heap.size) (hsrc : ∀ w', Below base w w' → Reads w' a len cap ys)
    (ht : tf num kind = 0) (hn0 : 0 ≤ n) (hn1 : n < 18446744073709551616) (hm : m + 20 + len ≤ 140737488355328) :
    Calls Tryz.prog 179 #[v, .agg #[.int .i64 num, .int .i64 kind, .int .u64 n, .slice a len cap]] w fun e w' => ∃ v', e = .returned v' ∧ w'.ownsRow base 5 1 v' (m + (pe num kind n ys).length) (xs ++ (pe num kind n ys).map (Value.int .u8)) ∧ Grow w w' v v' := by
  obtain ⟨h1, h2, hk⟩ := tf_ok ht
  have hkb := okK_bd hk
  have hlv : ∀ k, v.ownBlock = some k → base ≤ k ∧ k < w.heap.size := hown.lt
  have HLV := hid hlv
  have HT := hid ht
  have HS := hid hsrc
  have HO := hid hown
  have hpl := (pv_len (num * 8 + kind)).2
  clear hsrc hown ht hlv
  go_enter Tryz.func179, Tryz.ntmps179
  go_wp2_with fail
  refine (tagW _ _ _ HT.out).mono ?_
  rintro e w' ⟨rfl, rfl⟩
  go_wp2_with fail
  refine (addvG base v m xs (num * 8 + kind) _ (HO.out.alloc _) (by simp; omega) (by omega) (by omega) (by omega)).mono ?_
  rintro e w2 ⟨v2, rfl, ho2, hg2⟩
  have hg0 : Grow w (w.alloc (.cells #[.int .i64 num, .int .i64 kind, .int .u64 n, .slice a len cap] 40)) v v := (Grow.refl w v).alloc _
  have hbx : ∀ o, w2.cell? ⟨w.heap.size, o, none⟩ = (w.alloc (.cells #[.int .i64 num, .int .i64 kind, .int .u64 n, .slice a len cap] 40)).cell? ⟨w.heap.size, o, none⟩ := fun o => World.cell?_of_block (hg2.block w.heap.size (by simp) (fun e => by have := (HLV.out _ e).2; omega))
  have c1 : w2.cell? ⟨w.heap.size, 1, none⟩ = some (.int .i64 kind) := by rw [hbx, World.cell?_alloc_at _ _ _ _ rfl]; rfl
  have c2 : w2.cell? ⟨w.heap.size, 2, none⟩ = some (.int .u64 n) := by rw [hbx, World.cell?_alloc_at _ _ _ _ rfl]; rfl
  have c3 : w2.cell? ⟨w.heap.size, 3, none⟩ = some (.slice a len cap) := by rw [hbx, World.cell?_alloc_at _ _ _ _ rfl]; rfl
  have hsz2 : w.heap.size + 1 ≤ w2.heap.size := by have := hg2.size; simpa using this
  have hb2 : Below base w w2 := (hg0.trans hg2).below hb (fun k hk => (HLV.out k hk).1)
  have HB2 := hid hb2
  have HO2 := hid ho2
  have HG2 := hid hg2
  have HG0 := hid hg0
  clear hbx hb2 ho2 hg2 hg0
  have hk2 := okK_cases hk
  clear hk
  rcases hk2 with rfl | rfl | rfl | rfl
  · go_wp2_with fail
    refine (addvG base v2 _ _ n _ HO2.out (by omega) hn0 hn1 (by omega)).mono ?_
    rintro e w3 ⟨v3, rfl, ho3, hg3⟩
    go_wp2
    go_ret
    exact ⟨v3, rfl, own_cat2 ho3 rfl, (HG0.out.trans HG2.out).trans hg3⟩
  · go_wp2_with fail
    refine (addWordG base v2 _ _ n 8 _ HO2.out (by omega) (by omega) (by omega)).mono ?_
    rintro e w3 ⟨v3, rfl, ho3, hg3⟩
    go_wp2
    go_ret
    exact ⟨v3, rfl, own_cat2 ho3 rfl, (HG0.out.trans HG2.out).trans hg3⟩
  · go_wp2_with fail
    refine (addChunkG base v2 _ _ a len cap ys _ HO2.out (by omega) (fun w' h => HS.out w' (HB2.out.trans h)) (by omega)).mono ?_
    rintro e w3 ⟨v3, rfl, ho3, hg3⟩
    go_wp2
    go_ret
    exact ⟨v3, rfl, own_cat2 ho3 rfl, (HG0.out.trans HG2.out).trans hg3⟩
  · go_wp2_with fail
    refine (addWordG base v2 _ _ n 4 _ HO2.out (by omega) (by omega) (by omega)).mono ?_
    rintro e w3 ⟨v3, rfl, ho3, hg3⟩
    go_wp2
    go_ret
    exact ⟨v3, rfl, own_cat2 ho3 rfl, (HG0.out.trans HG2.out).trans hg3⟩
end Go.Proofs.YtnfdlnelfnigdaaGreatDoor.W
namespace Go.Proofs.YtnfdlnelfnigdaaGreatDoor.W
open Go.RowKit
set_option maxRecDepth 1000000
/-- The bytes of an entry; none where it has a fault. -/
def pp (num kind n : Int) (ys : List Int) : List Int := if ef num kind n ys.length = 0 then pe num kind n ys else []
set_option maxHeartbeats 400000 in
theorem putEntryNo (num kind n : Int) (a : Option Addr) (len cap : Nat) (w : World) (hl : len ≤ 9223372036854775807) (he : ef num kind n len ≠ 0) :
    Calls Tryz.prog 148 #[.agg #[.int .i64 num, .int .i64 kind, .int .u64 n, .slice a len cap]] w fun e w' => e = .returned (.tuple #[.slice none 0 0, .int .i64 (ef num kind n len)]) ∧ Below w.heap.size w w' := by
  have hne : (ef num kind n len != 0) = true := by simp [he]
  clear he
  go_enter Tryz.func148, Tryz.ntmps148
  go_wp2_with fail
  refine (entryFaultW _ _ _ _ _ _ _ hl).mono ?_
  rintro e w1 ⟨rfl, hb1⟩
  go_wp2
  go_ret2
  exact ⟨rfl, below_trans (below_alloc _) hb1⟩
set_option maxHeartbeats 400000 in
theorem putEntryYes (num kind n : Int) (a : Option Addr) (len cap : Nat) (ys : List Int) (w : World) (hr : Reads w a len cap ys) (he : ef num kind n len = 0) (hn0 : 0 ≤ n) (hn1 : n < 18446744073709551616) (hm : 20 + len ≤ 140737488355328) :
    Calls Tryz.prog 148 #[.agg #[.int .i64 num, .int .i64 kind, .int .u64 n, .slice a len cap]] w fun e w' => ∃ v, e = .returned (.tuple #[v, .int .i64 0]) ∧ w'.ownsRow w.heap.size 5 1 v (pe num kind n ys).length ((pe num kind n ys).map (Value.int .u8)) ∧ Below w.heap.size w w' := by
  have HE := hid he
  have HT := hid (ef_ok he).1
  have HR := hid hr
  have hl : len ≤ 9223372036854775807 := Nat.le_trans hr.le hr.max
  clear he hr
  go_enter Tryz.func148, Tryz.ntmps148
  go_wp2_with fail
  refine (entryFaultW _ _ _ _ _ _ _ hl).mono ?_
  rw [HE.out]
  rintro e w1 ⟨rfl, hb1⟩
  have hb := below_trans (below_alloc (.cells #[.int .i64 num, .int .i64 kind, .int .u64 n, .slice a len cap] 40)) hb1
  have c0 : w1.cell? ⟨w.heap.size, 0, none⟩ = some (.int .i64 num) := by rw [hb1.cell (p := ⟨w.heap.size, 0, none⟩) (by simp), World.cell?_alloc_at _ _ _ _ rfl]; rfl
  have c1 : w1.cell? ⟨w.heap.size, 1, none⟩ = some (.int .i64 kind) := by rw [hb1.cell (p := ⟨w.heap.size, 1, none⟩) (by simp), World.cell?_alloc_at _ _ _ _ rfl]; rfl
  have c2 : w1.cell? ⟨w.heap.size, 2, none⟩ = some (.int .u64 n) := by rw [hb1.cell (p := ⟨w.heap.size, 2, none⟩) (by simp), World.cell?_alloc_at _ _ _ _ rfl]; rfl
  have c3 : w1.cell? ⟨w.heap.size, 3, none⟩ = some (.slice a len cap) := by rw [hb1.cell (p := ⟨w.heap.size, 3, none⟩) (by simp), World.cell?_alloc_at _ _ _ _ rfl]; rfl
  have hsz : w.heap.size ≤ w1.heap.size := hb.size
  have HB := hid hb
  clear hb hb1
  go_wp2_with fail
  refine (addEntryW w.heap.size _ 0 [] num kind n a len cap ys _ (World.ownsRow_nil _ _ _ _) hsz (fun w' h => reads_kept HR.out (HB.out.trans h)) HT.out hn0 hn1 (by omega)).mono ?_
  rintro e w3 ⟨v3, rfl, ho3, hg3⟩
  go_wp2
  go_ret2
  refine ⟨v3, rfl, by simpa using ho3, HB.out.trans (hg3.below hsz (fun k hk => by cases hk))⟩
/-- PutEntry's answer as a slice that can be read. -/
theorem putEntryAny (num kind n : Int) (a : Option Addr) (len cap : Nat) (ys : List Int) (w : World) (hr : Reads w a len cap ys) (hn0 : 0 ≤ n) (hn1 : n < 18446744073709551616) (hm : 20 + len ≤ 140737488355328) :
    Calls Tryz.prog 148 #[.agg #[.int .i64 num, .int .i64 kind, .int .u64 n, .slice a len cap]] w fun e w' => ∃ b c, e = .returned (.tuple #[.slice b (pp num kind n ys).length c, .int .i64 (ef num kind n len)]) ∧ Reads w' b (pp num kind n ys).length c (pp num kind n ys) ∧ Below w.heap.size w w' := by
  have hlen := hr.length
  by_cases he : ef num kind n len = 0
  · refine (putEntryYes num kind n a len cap ys w hr he hn0 hn1 hm).mono ?_
    rintro e w' ⟨v, rfl, ho, hb⟩
    obtain ⟨b, c, rfl, hr2⟩ := own_reads ho (pe_bd (ef_ok he).1 hn0 hn1 (bd_mem hr.bd) (by omega))
    have e1 : pp num kind n ys = pe num kind n ys := by rw [pp, hlen, if_pos he]
    rw [e1, he]
    exact ⟨b, c, rfl, hr2, hb⟩
  · refine (putEntryNo num kind n a len cap w (Nat.le_trans hr.le hr.max) he).mono ?_
    rintro e w' ⟨rfl, hb⟩
    have e1 : pp num kind n ys = [] := by rw [pp, hlen, if_neg he]
    rw [e1]
    exact ⟨none, 0, rfl, reads_nil _, hb⟩
end Go.Proofs.YtnfdlnelfnigdaaGreatDoor.W
namespace Go.Proofs.YtnfdlnelfnigdaaGreatDoor
open Go.RowKit
set_option maxRecDepth 1000000
set_option linter.unusedVariables false
set_option linter.unusedSimpArgs false
set_option maxHeartbeats 1000000
/-- An entry that can be written. -/
def entB (x : CE) : Bool := W.ef x.num x.kind x.n x.b.length == 0
theorem Reads.old {w : World} {a : Option Addr} {len cap : Nat} {xs : List Int} (h : Reads w a len cap xs) : W.Reads w a len cap xs := ⟨h.length, h.le, h.max, h.bd, h.cells⟩
theorem isEntryM (w : World) (Z : Nat → Prop) (cs : List Value) (x : CE) (h : EntE w Z cs x) : Calls Tryz.prog 117 #[.agg cs.toArray] w fun e w' => e = .returned (.bool (entB x)) ∧ Below w.heap.size w w' := by
  obtain ⟨ba, bc, rfl, g1, l1, -, -, hu⟩ := ent_open h
  have HP := hid fun W1 (hW : Below w.heap.size w W1) => W.putEntryAny x.num x.kind x.n ba x.b.length bc x.b W1 (g1.kept hW).reads.old hu.1 hu.2 (by omega)
  have HX : Hid (entB x = (W.ef x.num x.kind x.n x.b.length == 0)) := hid rfl
  clear h g1 hu
  generalize entB x = res at *
  generalize W.ef x.num x.kind x.n x.b.length = er at *
  go_enter Tryz.func117, Tryz.ntmps117
  go_wp2_with fail
  refine (HP.out _ (by exact blBy)).mono ?_
  rintro e w1 ⟨b, c, rfl, -, hb1⟩
  have hbz : Hid (Below w.heap.size w w1) := hid (bl_then (by exact blBy) hb1)
  clear hb1
  go_wp2
  go_ret
  exact ⟨ret_bool HX.out.symm, hbz.out⟩
/-- What hold asks of a message, by the entries' own rule. -/
theorem holdT (w : World) (l : List TV) (ta : Option Addr) (tc : Nat) (h : TbR w (.slice ta l.length tc) l) (hg : goodB l = true) (x : TV) (hx : x ∈ l) (Z : Nat → Prop) (d : Nat) (cs : List Value) (m : CM) (hm : MsgE w Z (d + 1) cs m) : Calls Tryz.prog 77 #[.agg #[.slice ta l.length tc], .agg (cTV x).toArray, .agg cs.toArray] w fun e w' => e = .returned (.bool (holdB l entB x m)) ∧ Below w.heap.size w w' :=
  holdM w l ta tc h hg x hx (good_ones hg hx) entB Z (fun W hW cs y hy => isEntryM W Z cs y hy) d cs m hm
end Go.Proofs.YtnfdlnelfnigdaaGreatDoor
namespace Go.Proofs.YtnfdlnelfnigdaaGreatDoor
open Go.RowKit
set_option maxRecDepth 1000000
set_option linter.unusedVariables false
set_option linter.unusedSimpArgs false
set_option maxHeartbeats 1000000
/-- The type of the messages in a field. -/
def blwB (l : List TV) (x : TV) (f : CF CM) : TV := (l[(ownF x.t.fs f.num).ref.toNat]?).getD x
/-- Whether a message, so deep at most, is typed. -/
def keptB (l : List TV) (d : Nat) (x : TV) (m : CM) : Bool := walkB (holdB l entB) (blwB l) d x m
theorem ownF_hasF {fs : List FT} {n : Int} (h : hasF fs n = true) : ownF fs n ∈ fs ∧ (ownF fs n).num = n := by
  unfold hasF at h
  unfold ownF
  cases hq : fs.find? (fun o => o.num == n) with
  | none => rw [hq] at h; cases h
  | some o => exact ⟨List.mem_of_find?_eq_some hq, by have := List.find?_some hq; simpa using this⟩
theorem holdB_has {l : List TV} {ent : CE → Bool} {x : TV} {m : CM} (h : holdB l ent x m = true) {f : CF CM} (hf : f ∈ m.fs) : hasF x.t.fs f.num = true := by
  unfold holdB at h
  simp only [Bool.and_eq_true, List.all_eq_true] at h
  have := h.2.1 f hf
  unfold typB8 at this
  simp only [Bool.and_eq_true] at this
  exact this.1
theorem blwB_at {l : List TV} (hg : goodB l = true) {x : TV} (hx : x ∈ l) {f : CF CM} (hf : hasF x.t.fs f.num = true) : l[(ownF x.t.fs f.num).ref.toNat]? = some (blwB l x f) := by
  obtain ⟨h1, h2⟩ := ownF_hasF hf
  obtain ⟨r0, r1⟩ := good_refs hg hx h1
  unfold blwB
  rw [List.getElem?_eq_getElem r1]
  rfl
theorem blwB_in {l : List TV} (hg : goodB l = true) {x : TV} (hx : x ∈ l) {f : CF CM} (hf : hasF x.t.fs f.num = true) : blwB l x f ∈ l := List.mem_of_getElem? (blwB_at hg hx hf)
theorem cfHold (args : Array Value) (W : World) : (callFunc 77 args).run Tryz.prog W = .ok (.enter 77 args) W := cf_enter Tryz.func77 (by kernel_rfl) (by kernel_rfl) args W
theorem cfBelow (args : Array Value) (W : World) : (callFunc 31 args).run Tryz.prog W = .ok (.enter 31 args) W := cf_enter Tryz.func31 (by kernel_rfl) (by kernel_rfl) args W
theorem wkHold (l : List TV) (ta : Option Addr) (tc : Nat) (hg : goodB l = true) (hsh : ∀ x ∈ l, ShT x) (Z : Nat → Prop) : WkH Z (fun W => TbR W (.slice ta l.length tc) l) (· ∈ l) (fun _ _ _ => True) (holdB l entB) (blwB l) 77 31 #[.agg #[.slice ta l.length tc]] #[.agg #[.slice ta l.length tc]] where
  kept h hb := h.kept hb
  sh := hsh
  eh := cfHold
  eb := cfBelow
  h W x d cs m hW hx _ hm := by
    cases d with
    | zero => exact hm.elim
    | succ d => exact holdT W l ta tc hW hg x hx Z d cs m hm
  b W x d cs m f hW hx _ hh hf hfe := by
    have h1 := holdB_has hh hf
    exact belowT W l ta tc hW hg x hx Z d cs f hfe _ (ownF_hasF h1).1 (ownF_hasF h1).2 _ (blwB_at hg hx h1)
  i x d m f hx _ hh hf := blwB_in hg hx (holdB_has hh hf)
  q _ _ _ _ _ _ _ _ _ _ := trivial
theorem areKeptT (w : World) (l : List TV) (ta : Option Addr) (tc : Nat) (h : TbR w (.slice ta l.length tc) l) (hg : goodB l = true) (x : TV) (hx : x ∈ l) (Z : Nat → Prop) (d : Nat) (cs : List Value) (m : CM) (hm : MsgE w Z d cs m) : Calls Tryz.prog 36 #[.agg #[.slice ta l.length tc], .agg (cTV x).toArray, .agg cs.toArray] w fun e w' => e = .returned (.bool (keptB l d x m)) ∧ Below w.heap.size w w' := by
  have HW := hid fun W (hW : Below w.heap.size w W) => walkT (wkHold l ta tc hg (fun x hx => shT_of (h.ty x hx)) Z) d W x cs m (h.kept hW) hx trivial (hm.kept hW)
  obtain ⟨ta1, tc1, ta2, tc2, ta3, tc3, ta4, tc4, e1, e2, e3, e4⟩ := shT_of (h.ty x hx)
  have ec : cTV x = [.string (strOfNums x.t.name), .bool x.t.enum, .slice ta1 x.t.fs.length tc1, .slice ta2 x.t.os.length tc2, .slice ta3 x.t.ss.length tc3, .slice ta4 x.t.rs.length tc4] := by unfold cTV; rw [e1, e2, e3, e4]
  obtain ⟨fa, fc, ua, uc, rfl, -⟩ := msg_openD hm
  have HX : Hid (walkB (holdB l entB) (blwB l) d x m = keptB l d x m) := hid rfl
  rw [ec] at HW ⊢
  clear h hg hx hm e1 e2 e3 e4 ec
  generalize keptB l d x m = res at *
  go_enter Tryz.func36, Tryz.ntmps36
  go_wp2_with fail
  refine (HW.out _ (by exact blBy)).mono ?_
  rintro e w1 ⟨rfl, hb1⟩
  have HB1 : Hid (Below w.heap.size w w1) := hid (bl_then (by exact blBy) hb1)
  clear hb1 HW
  go_wp2
  go_ret
  exact ⟨ret_bool HX.out, HB1.out⟩
theorem typedT (w : World) (l : List TV) (ta : Option Addr) (tc : Nat) (h : TbR w (.slice ta l.length tc) l) (hk : ∀ x ∈ l, OkV x) (mx : Int) (hm0 : w.cell? ⟨0, 0, none⟩ = some (.int .i64 mx)) (k : Nat) (hkl : k < l.length) (hg : goodB l = true) (he : l[k].t.enum = false) (Z : Nat → Prop) (d : Nat) (cs : List Value) (m : CM) (hm : MsgE w Z d cs m) : Calls Tryz.prog 17 #[.agg #[.slice ta l.length tc], .int .i64 (k : Int), .agg cs.toArray] w fun e w' => e = .returned (.tuple #[.bool (keptB l d l[k] m), .int .i64 0]) ∧ Below w.heap.size w w' := by
  have HA := hid fun W (hW : Below w.heap.size w W) => msgAtOk W l ta tc (h.kept hW) hk mx (cell_below hm0 hW) k hkl hg he
  have HK := hid fun W (hW : Below w.heap.size w W) => areKeptT W l ta tc (h.kept hW) hg l[k] (List.getElem_mem hkl) Z d cs m (hm.kept hW)
  obtain ⟨ta1, tc1, ta2, tc2, ta3, tc3, ta4, tc4, e1, e2, e3, e4⟩ := shT_of (h.ty l[k] (List.getElem_mem hkl))
  have ec : cTV l[k] = [.string (strOfNums l[k].t.name), .bool false, .slice ta1 l[k].t.fs.length tc1, .slice ta2 l[k].t.os.length tc2, .slice ta3 l[k].t.ss.length tc3, .slice ta4 l[k].t.rs.length tc4] := by unfold cTV; rw [e1, e2, e3, e4, he]
  obtain ⟨fa, fc, ua, uc, rfl, -⟩ := msg_openD hm
  rw [ec] at HK
  rw [e1, e2, e3, e4] at HA
  clear h hg hm e1 e2 e3 e4 ec hm0 hk he
  generalize keptB l d l[k] m = res at *
  generalize l[k] = x at *
  go_enter Tryz.func17, Tryz.ntmps17
  go_wp2_with fail
  refine (HA.out _ (by exact blBy)).mono ?_
  rintro e w1 ⟨rfl, hb1⟩
  have HB1 : Hid (Below w.heap.size w w1) := hid (bl_then (by exact blBy) hb1)
  have Bt : Blk w1 w.heap.size 46 #[.slice ta l.length tc] := ((Blk.new _ _ _).kept (below_alloc _)).kept hb1
  have Bm : Blk w1 (w.heap.size + 1) 35 #[.slice fa m.fs.length fc, .slice ua m.us.length uc] := (Blk.newAt (by simp)).kept hb1
  have xt := Bt.cellF
  have zt := Bt.lt
  have xm := Bm.cellF
  have zm := Bm.lt
  clear hb1 HA
  go_wp2_with fail
  refine (HK.out _ (by have := HB1.out; exact blBy)).mono ?_
  rintro e w2 ⟨rfl, hb2⟩
  have HB2 : Hid (Below w.heap.size w w2) := hid (bl_then (by have := HB1.out; exact blBy) hb2)
  clear hb2 HK
  go_wp2
  exact bodyPost_ret (v := .tuple #[.bool res, .int .i64 0]) (by simp [results, Tryz.results17, go_sem]) rfl ⟨rfl, by have := HB2.out; exact blBy⟩
end Go.Proofs.YtnfdlnelfnigdaaGreatDoor
namespace Go.Proofs.YtnfdlnelfnigdaaGreatDoor
open Go.RowKit
set_option maxRecDepth 1000000
set_option linter.unusedVariables false
set_option linter.unusedSimpArgs false
set_option maxHeartbeats 1000000
def defV (v : CV CM) : Bool := (v.n == 0) && ((v.b.length : Int) == 0)
/-- Whether a typed field is more than if it were not there. -/
def toldO (o : FT) (f : CF CM) : Bool := if o.lab = 0 then (match f.vs with | v :: _ => !(defV v) | [] => true) else if o.lab = 2 ∨ o.lab = 3 ∨ o.lab = 5 then decide (0 < f.vs.length) else true
def toldB (fs : List FT) (f : CF CM) : Bool := toldO (ownF fs f.num) f
def takenO (o : FT) (ok : Bool) (k : Int) : Bool := ok && (tvF o k || trF o k)
def takenB (fs : List FT) (e : CE) : Bool := takenO (ownF fs e.num) (hasF fs e.num) e.kind
theorem told_zero {o : FT} {f : CF CM} (h0 : o.lab = 0) (h : 0 < f.vs.length) : toldO o f = !((f.vs[0].n == 0) && ((f.vs[0].b.length : Int) == 0)) := by
  obtain ⟨num, ks, vs⟩ := f
  cases vs with
  | nil => simp at h
  | cons v r => simp only [toldO, h0, if_pos, defV, List.getElem_cons_zero]
theorem isDefM (w : World) (n : Int) (ba ma : Option Addr) (bn bc mn mc : Nat) (l1 : bn ≤ 4000000) : Calls Tryz.prog 103 #[.agg #[.int .u64 n, .slice ba bn bc, .slice ma mn mc]] w fun e w' => e = .returned (.bool ((n == 0) && ((bn : Int) == 0))) ∧ Below w.heap.size w w' := by
  have m1 : (bn : Int) ≤ 9223372036854775807 := by omega
  go_enter Tryz.func103, Tryz.ntmps103
  go_wp2
  all_goals (go_ret; exact ⟨ret_bool (by simp [*]), by exact blBy⟩)
theorem isToldM (w : World) (x : TV) (hx : TyR w x) (hr : Rise x.t.fs) (hl : x.t.fs.length ≤ 128) (Z : Nat → Prop) (d : Nat) (cs : List Value) (f : CF CM) (hf : FldE w Z (MsgE w Z d) cs f) (hv : (ownF x.t.fs f.num).lab = 0 → 0 < f.vs.length) : Calls Tryz.prog 69 #[.agg (cTV x).toArray, .agg cs.toArray] w fun e w' => e = .returned (.bool (toldB x.t.fs f)) ∧ Below w.heap.size w w' := by
  obtain ⟨ta1, tc1, ta2, tc2, ta3, tc3, ta4, tc4, e1, e2, e3, e4⟩ := shT_of hx
  have ecx : cTV x = [.string (strOfNums x.t.name), .bool x.t.enum, .slice ta1 x.t.fs.length tc1, .slice ta2 x.t.os.length tc2, .slice ta3 x.t.ss.length tc3, .slice ta4 x.t.rs.length tc4] := by unfold cTV; rw [e1, e2, e3, e4]
  rw [ecx]
  have HFO := hid fun W (hW : Below w.heap.size w W) => findT x.t.fs f.num W ta1 tc1 (by rw [← e1]; exact (hx.kept hW).f) hr hl
  obtain ⟨ka, kc, va, vc, rfl, -, g2, l1, l2, -⟩ := fld_open hf
  have G := hid g2
  have m2 : (f.vs.length : Int) ≤ 9223372036854775807 := by omega
  have HX0 : Hid (toldB x.t.fs f = toldO (ownF x.t.fs f.num) f) := hid rfl
  generalize toldB x.t.fs f = res at *
  generalize ownF x.t.fs f.num = o at *
  generalize hasF x.t.fs f.num = ok at *
  clear hx hf g2 hr hl e1 e2 e3 e4 ecx
  by_cases h0 : o.lab = 0
  · have hvl := hv h0
    obtain ⟨b1, o1, ba1, bc1, ma1, mc1, rfl, -, hb1, c0, c1, c2, he⟩ := vls_at G.out (i := 0) hvl
    obtain ⟨_, _, _, _, e5, -, -, bl1, -, -⟩ := val_open he
    clear e5 he
    have HX : Hid (res = !((f.vs[0].n == 0) && ((f.vs[0].b.length : Int) == 0))) := hid (by rw [HX0.out]; exact told_zero h0 hvl)
    have k0 : (o.lab == 0) = true := by simp [h0]
    have k1 : (0 : Int) < (f.vs.length : Int) := by omega
    have hvl' := hid hvl
    clear HX0 h0 hv
    generalize f.vs[0] = v at *
    simp only [Nat.zero_mul, Nat.add_zero] at c0 c1 c2
    go_enter Tryz.func69, Tryz.ntmps69
    go_wp2_with fail
    refine (HFO.out _ (by exact blBy)).mono ?_
    rintro e w1 ⟨rfl, hbx⟩
    unfold tFT
    have HB1 : Hid (Below w.heap.size w w1) := hid (bl_then (by exact blBy) hbx)
    have Bf : Blk w1 (w.heap.size + 1) 29 #[.int .i64 f.num, .slice ka f.ks.length kc, .slice (some ⟨b1, o1, none⟩) f.vs.length vc] := (Blk.newAt (by simp)).kept hbx
    have xf := Bf.cellF
    have zf := Bf.lt
    replace c0 := cell_below c0 HB1.out
    replace c1 := cell_below c1 HB1.out
    replace c2 := cell_below c2 HB1.out
    replace hb1 : b1 < w1.heap.size := World.block_lt_of_cell? _ _ c0
    clear hbx HFO Bf
    go_wp2_with fail
    refine (isDefM _ v.n ba1 ma1 v.b.length bc1 v.ms.length mc1 bl1).mono ?_
    rintro e w2 ⟨rfl, hb2⟩
    have HB2 : Hid (Below w.heap.size w w2) := hid (bl_then (by have := HB1.out; exact blBy) hb2)
    clear hb2
    go_wp2
    go_ret
    exact ⟨ret_bool (by rw [HX.out]; simp), HB2.out⟩
  have k0 : (o.lab == 0) = false := by simpa using h0
  by_cases h2 : o.lab = 2
  · have k2 : (o.lab == 2) = true := by simp [h2]
    have HX : Hid (res = decide (0 < f.vs.length)) := hid (by rw [HX0.out]; unfold toldO; rw [if_neg h0, if_pos (by omega)])
    clear HX0 h0  h2 hv
    by_cases hn : 0 < f.vs.length
    · have k1 : (0 < (f.vs.length : Int)) = True := eq_true (by omega)
      have k9 : (0 < f.vs.length) = True := eq_true hn
      have HX2 : Hid (res = true) := hid (by rw [HX.out]; simpa using hn)
      clear hn HX
      go_enter Tryz.func69, Tryz.ntmps69
      go_wp2_with fail
      refine (HFO.out _ (by exact blBy)).mono ?_
      rintro e w1 ⟨rfl, hbx⟩
      unfold tFT
      have HB1 : Hid (Below w.heap.size w w1) := hid (bl_then (by exact blBy) hbx)
      have Bf : Blk w1 (w.heap.size + 1) 29 #[.int .i64 f.num, .slice ka f.ks.length kc, .slice va f.vs.length vc] := (Blk.newAt (by simp)).kept hbx
      have xf := Bf.cellF
      have zf := Bf.lt
      clear hbx HFO Bf
      go_wp2
      go_ret
      exact ⟨ret_bool HX2.out.symm, by have := HB1.out; exact blBy⟩
    · have k1 : (0 < (f.vs.length : Int)) = False := eq_false (by omega)
      have k9 : (0 < f.vs.length) = False := eq_false hn
      have HX2 : Hid (res = false) := hid (by rw [HX.out]; simpa using hn)
      clear hn HX
      go_enter Tryz.func69, Tryz.ntmps69
      go_wp2_with fail
      refine (HFO.out _ (by exact blBy)).mono ?_
      rintro e w1 ⟨rfl, hbx⟩
      unfold tFT
      have HB1 : Hid (Below w.heap.size w w1) := hid (bl_then (by exact blBy) hbx)
      have Bf : Blk w1 (w.heap.size + 1) 29 #[.int .i64 f.num, .slice ka f.ks.length kc, .slice va f.vs.length vc] := (Blk.newAt (by simp)).kept hbx
      have xf := Bf.cellF
      have zf := Bf.lt
      clear hbx HFO Bf
      go_wp2
      go_ret
      exact ⟨ret_bool HX2.out.symm, by have := HB1.out; exact blBy⟩
  by_cases h3 : o.lab = 3
  · have k3 : (o.lab == 3) = true := by simp [h3]
    have k2 : (o.lab == 2) = false := by simpa using h2
    have HX : Hid (res = decide (0 < f.vs.length)) := hid (by rw [HX0.out]; unfold toldO; rw [if_neg h0, if_pos (by omega)])
    clear HX0 h0 h2 h3 hv
    by_cases hn : 0 < f.vs.length
    · have k1 : (0 < (f.vs.length : Int)) = True := eq_true (by omega)
      have k9 : (0 < f.vs.length) = True := eq_true hn
      have HX2 : Hid (res = true) := hid (by rw [HX.out]; simpa using hn)
      clear hn HX
      go_enter Tryz.func69, Tryz.ntmps69
      go_wp2_with fail
      refine (HFO.out _ (by exact blBy)).mono ?_
      rintro e w1 ⟨rfl, hbx⟩
      unfold tFT
      have HB1 : Hid (Below w.heap.size w w1) := hid (bl_then (by exact blBy) hbx)
      have Bf : Blk w1 (w.heap.size + 1) 29 #[.int .i64 f.num, .slice ka f.ks.length kc, .slice va f.vs.length vc] := (Blk.newAt (by simp)).kept hbx
      have xf := Bf.cellF
      have zf := Bf.lt
      clear hbx HFO Bf
      go_wp2
      go_ret
      exact ⟨ret_bool HX2.out.symm, by have := HB1.out; exact blBy⟩
    · have k1 : (0 < (f.vs.length : Int)) = False := eq_false (by omega)
      have k9 : (0 < f.vs.length) = False := eq_false hn
      have HX2 : Hid (res = false) := hid (by rw [HX.out]; simpa using hn)
      clear hn HX
      go_enter Tryz.func69, Tryz.ntmps69
      go_wp2_with fail
      refine (HFO.out _ (by exact blBy)).mono ?_
      rintro e w1 ⟨rfl, hbx⟩
      unfold tFT
      have HB1 : Hid (Below w.heap.size w w1) := hid (bl_then (by exact blBy) hbx)
      have Bf : Blk w1 (w.heap.size + 1) 29 #[.int .i64 f.num, .slice ka f.ks.length kc, .slice va f.vs.length vc] := (Blk.newAt (by simp)).kept hbx
      have xf := Bf.cellF
      have zf := Bf.lt
      clear hbx HFO Bf
      go_wp2
      go_ret
      exact ⟨ret_bool HX2.out.symm, by have := HB1.out; exact blBy⟩
  by_cases h5 : o.lab = 5
  · have k5 : (o.lab == 5) = true := by simp [h5]
    have k2 : (o.lab == 2) = false := by simpa using h2
    have k3 : (o.lab == 3) = false := by simpa using h3
    have HX : Hid (res = decide (0 < f.vs.length)) := hid (by rw [HX0.out]; unfold toldO; rw [if_neg h0, if_pos (by omega)])
    clear HX0 h0 h2 h3 h5 hv
    by_cases hn : 0 < f.vs.length
    · have k1 : (0 < (f.vs.length : Int)) = True := eq_true (by omega)
      have k9 : (0 < f.vs.length) = True := eq_true hn
      have HX2 : Hid (res = true) := hid (by rw [HX.out]; simpa using hn)
      clear hn HX
      go_enter Tryz.func69, Tryz.ntmps69
      go_wp2_with fail
      refine (HFO.out _ (by exact blBy)).mono ?_
      rintro e w1 ⟨rfl, hbx⟩
      unfold tFT
      have HB1 : Hid (Below w.heap.size w w1) := hid (bl_then (by exact blBy) hbx)
      have Bf : Blk w1 (w.heap.size + 1) 29 #[.int .i64 f.num, .slice ka f.ks.length kc, .slice va f.vs.length vc] := (Blk.newAt (by simp)).kept hbx
      have xf := Bf.cellF
      have zf := Bf.lt
      clear hbx HFO Bf
      go_wp2
      go_ret
      exact ⟨ret_bool HX2.out.symm, by have := HB1.out; exact blBy⟩
    · have k1 : (0 < (f.vs.length : Int)) = False := eq_false (by omega)
      have k9 : (0 < f.vs.length) = False := eq_false hn
      have HX2 : Hid (res = false) := hid (by rw [HX.out]; simpa using hn)
      clear hn HX
      go_enter Tryz.func69, Tryz.ntmps69
      go_wp2_with fail
      refine (HFO.out _ (by exact blBy)).mono ?_
      rintro e w1 ⟨rfl, hbx⟩
      unfold tFT
      have HB1 : Hid (Below w.heap.size w w1) := hid (bl_then (by exact blBy) hbx)
      have Bf : Blk w1 (w.heap.size + 1) 29 #[.int .i64 f.num, .slice ka f.ks.length kc, .slice va f.vs.length vc] := (Blk.newAt (by simp)).kept hbx
      have xf := Bf.cellF
      have zf := Bf.lt
      clear hbx HFO Bf
      go_wp2
      go_ret
      exact ⟨ret_bool HX2.out.symm, by have := HB1.out; exact blBy⟩
  · have k2 : (o.lab == 2) = false := by simpa using h2
    have k3 : (o.lab == 3) = false := by simpa using h3
    have k5 : (o.lab == 5) = false := by simpa using h5
    have HX : Hid (res = true) := hid (by rw [HX0.out]; unfold toldO; rw [if_neg h0, if_neg (by omega)])
    clear HX0 h0 h2 h3 h5 hv
    go_enter Tryz.func69, Tryz.ntmps69
    go_wp2_with fail
    refine (HFO.out _ (by exact blBy)).mono ?_
    rintro e w1 ⟨rfl, hbx⟩
    unfold tFT
    have HB1 : Hid (Below w.heap.size w w1) := hid (bl_then (by exact blBy) hbx)
    have Bf : Blk w1 (w.heap.size + 1) 29 #[.int .i64 f.num, .slice ka f.ks.length kc, .slice va f.vs.length vc] := (Blk.newAt (by simp)).kept hbx
    have xf := Bf.cellF
    have zf := Bf.lt
    clear hbx HFO Bf
    go_wp2
    go_ret
    exact ⟨ret_bool HX.out.symm, by have := HB1.out; exact blBy⟩
theorem isTakenM (w : World) (x : TV) (hx : TyR w x) (hr : Rise x.t.fs) (hl : x.t.fs.length ≤ 128) (Z : Nat → Prop) (cs : List Value) (y : CE) (hy : EntE w Z cs y) : Calls Tryz.prog 71 #[.agg (cTV x).toArray, .agg cs.toArray] w fun e w' => e = .returned (.bool (takenB x.t.fs y)) ∧ Below w.heap.size w w' := by
  obtain ⟨ta1, tc1, ta2, tc2, ta3, tc3, ta4, tc4, e1, e2, e3, e4⟩ := shT_of hx
  have ecx : cTV x = [.string (strOfNums x.t.name), .bool x.t.enum, .slice ta1 x.t.fs.length tc1, .slice ta2 x.t.os.length tc2, .slice ta3 x.t.ss.length tc3, .slice ta4 x.t.rs.length tc4] := by unfold cTV; rw [e1, e2, e3, e4]
  rw [ecx]
  have HFO := hid fun W (hW : Below w.heap.size w W) => findT x.t.fs y.num W ta1 tc1 (by rw [← e1]; exact (hx.kept hW).f) hr hl
  obtain ⟨ba, bc, rfl, -⟩ := ent_open hy
  have HX0 : Hid (takenB x.t.fs y = takenO (ownF x.t.fs y.num) (hasF x.t.fs y.num) y.kind) := hid rfl
  generalize takenB x.t.fs y = res at *
  generalize ownF x.t.fs y.num = o at *
  generalize hasF x.t.fs y.num = ok at *
  clear hx hy hr hl e1 e2 e3 e4 ecx
  cases ok with
  | false =>
    have HX : Hid (res = false) := hid (by rw [HX0.out]; rfl)
    go_enter Tryz.func71, Tryz.ntmps71
    go_wp2_with fail
    refine (HFO.out _ (by exact blBy)).mono ?_
    rintro e w1 ⟨rfl, hbx⟩
    unfold tFT
    have HB1 : Hid (Below w.heap.size w w1) := hid (bl_then (by exact blBy) hbx)
    have Be : Blk w1 (w.heap.size + 1) 40 #[.int .i64 y.num, .int .i64 y.kind, .int .u64 y.n, .slice ba y.b.length bc] := (Blk.newAt (by simp)).kept hbx
    have xe := Be.cellF
    have ze := Be.lt
    clear hbx HFO
    go_wp2
    go_ret
    exact ⟨ret_bool HX.out.symm, by have := HB1.out; exact blBy⟩
  | true =>
    have HX1 : Hid (res = (tvF o y.kind || trF o y.kind)) := hid (by rw [HX0.out]; simp [takenO])
    have HTV := hid fun W => takesValueT o W y.kind
    have HTR := hid fun W => takesRowT o W y.kind
    cases hq : tvF o y.kind with
    | true =>
      rw [hq, Bool.true_or] at HX1
      rw [hq] at HTV
      go_enter Tryz.func71, Tryz.ntmps71
      go_wp2_with fail
      refine (HFO.out _ (by exact blBy)).mono ?_
      rintro e w1 ⟨rfl, hbx⟩
      unfold tFT
      have HB1 : Hid (Below w.heap.size w w1) := hid (bl_then (by exact blBy) hbx)
      have Be : Blk w1 (w.heap.size + 1) 40 #[.int .i64 y.num, .int .i64 y.kind, .int .u64 y.n, .slice ba y.b.length bc] := (Blk.newAt (by simp)).kept hbx
      have xe := Be.cellF
      have ze := Be.lt
      clear hbx HFO
      go_wp2_with fail
      refine (HTV.out _).mono ?_
      rintro e w2 ⟨rfl, hb2⟩
      have HB2 : Hid (Below w.heap.size w w2) := hid (bl_then (by have := HB1.out; exact blBy) hb2)
      clear hb2
      go_wp2
      go_ret
      exact ⟨ret_bool HX1.out.symm, HB2.out⟩
    | false =>
      rw [hq, Bool.false_or] at HX1
      rw [hq] at HTV
      go_enter Tryz.func71, Tryz.ntmps71
      go_wp2_with fail
      refine (HFO.out _ (by exact blBy)).mono ?_
      rintro e w1 ⟨rfl, hbx⟩
      unfold tFT
      have HB1 : Hid (Below w.heap.size w w1) := hid (bl_then (by exact blBy) hbx)
      have Be : Blk w1 (w.heap.size + 1) 40 #[.int .i64 y.num, .int .i64 y.kind, .int .u64 y.n, .slice ba y.b.length bc] := (Blk.newAt (by simp)).kept hbx
      have xe := Be.cellF
      have ze := Be.lt
      clear hbx HFO
      go_wp2_with fail
      refine (HTV.out _).mono ?_
      rintro e w2 ⟨rfl, hb2⟩
      have HB2 : Hid (Below w.heap.size w w2) := hid (bl_then (by have := HB1.out; exact blBy) hb2)
      have Be2 : Blk w2 (w.heap.size + 1) 40 #[.int .i64 y.num, .int .i64 y.kind, .int .u64 y.n, .slice ba y.b.length bc] := by first | exact Be.kept hb2 | exact (Be.kept (below_alloc _)).kept hb2
      have xe2 := Be2.cellF
      have Bo2 : Blk w2 w1.heap.size 77 #[.string (strOfNums o.name), .int .i64 o.num, .int .i64 o.kind, .int .i64 o.ref, .int .i64 o.lab, .int .i64 o.one, .int .i64 o.key] := (Blk.new _ _ _).kept hb2
      have xo2 := Bo2.cellF
      have zo2 := Bo2.lt
      have ze2 := Be2.lt
      clear hb2
      go_wp2_with fail
      refine (HTR.out _).mono ?_
      rintro e w3 ⟨rfl, hb3⟩
      have HB3 : Hid (Below w.heap.size w w3) := hid (bl_then (by have := HB2.out; exact blBy) hb3)
      clear hb3
      go_wp2
      go_ret
      exact ⟨ret_bool HX1.out.symm, HB3.out⟩
end Go.Proofs.YtnfdlnelfnigdaaGreatDoor
