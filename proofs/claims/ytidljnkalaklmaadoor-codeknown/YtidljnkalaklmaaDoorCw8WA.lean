/-
  Walks over the functions of the layer wire that only compute: zigzag, the places, the number of a varint's bytes.
  Walks over the functions that read a varint, the program's and the document's.
  Walks over 'same' and over the functions that write a varint, the program's and the document's.
  What is owned can be read, and stays; 'awake' returns true.
  code: numbers behind bytes.
  Operations of a region taken one after the other, in few words.
  code: steps behind bytes.
  code: the first numbers, behind bytes that are not one's own yet.
-/
import Derived.Test.YtidljnkalaklmaaDoorRows
import Derived.Test.YtidljnkalaklmaaDoorCKC
import Derived.WalkKit
import Derived.WalkSpells
import Derived.WalkLawsBesides
import Derived.Outline
import Derived.Below
import Derived.WalkMore
import Derived.Laws.BytesArg
import Derived.Laws.MakeOwn
import Derived.OwnWalk
import Derived.Test.YtidljnkalaklmaaDoorCTA
import Derived.Lib.SlBytesConst
namespace Go.Proofs.YtidljnkalaklmaaDoor.W
open Go.RowKit
set_option maxRecDepth 1000000
theorem outsideW (a : Option Addr) (len cap : Nat) (p : Int) (w : World) (_hl : len ≤ 9223372036854775807) :
    Calls Tryd.prog 59 #[.slice a len cap, .int .i64 p] w fun e w' => e = .returned (.bool (decide (p < 0 ∨ (len : Int) < p))) ∧ w = w' := by
  by_cases h : p < 0
  · have ht : decide (p < 0 ∨ (len : Int) < p) = true := by simp [h]
    rw [ht]
    go_enter Tryd.func59, Tryd.ntmps59
    go_wp2
    go_ret
    exact ⟨rfl, rfl⟩
  · have h2 : decide (p < 0) = false := by simpa using h
    have ht : decide (p < 0 ∨ (len : Int) < p) = decide ((len : Int) < p) := by simp [h]
    rw [ht]
    clear ht
    go_enter Tryd.func59, Tryd.ntmps59
    go_wp2
    go_ret
    exact ⟨rfl, rfl⟩
theorem outsideNo (a : Option Addr) (len cap : Nat) (p : Int) (w : World) (hl : len ≤ 9223372036854775807) (h0 : 0 ≤ p) (h1 : p ≤ len) :
    Calls Tryd.prog 59 #[.slice a len cap, .int .i64 p] w fun e w' => e = .returned (.bool false) ∧ w = w' := by
  refine (outsideW a len cap p w hl).mono ?_
  rintro e w' ⟨rfl, rfl⟩
  have ht : decide (p < 0 ∨ (len : Int) < p) = false := by simp; omega
  exact ⟨by rw [ht], rfl⟩
set_option maxHeartbeats 400000 in
theorem sizeW (n : Int) (w : World) (h0 : 0 ≤ n) (h1 : n < 18446744073709551616) :
    Calls Tryd.prog 58 #[.int .u64 n] w fun e w' => e = .returned (.int .i64 (pv n).length) ∧ w = w' := by
  have HS : Hid (1 + cntF 8 (n / 128) = ((pv n).length : Int)) := cnt_start n h0
  have hb : n / 128 < 128 ^ (8 + 1) := div_lt 9 (lt_ten h1)
  have HL := pv_len n
  go_enter Tryd.func58, Tryd.ntmps58
  go_wp2
  go_loop [0, 3] (fun nn s => ∃ (f : Nat) (N S : Int), 0 ≤ N ∧ N < 128 ^ (f + 1) ∧ N < 18446744073709551616 ∧ 0 ≤ S ∧ S ≤ 10 ∧ nn = .int .u64 N ∧ s = .int .i64 S ∧ S + cntF f N = ((pv n).length : Int)) (fun nn _ => (intOf nn).toNat)
  case atStart => exact ⟨8, n / 128, 1, by omega, hb, by omega, by omega, by omega, rfl, rfl, HS.out⟩
  case round =>
    obtain ⟨f, N, S, hN0, hN, hN64, hS0, hS, rfl, rfl, hc⟩ := hrel
    have HC : Hid (S + cntF f N = ((pv n).length : Int)) := hc
    have HL' : Hid ((pv n).length ≤ 10) := HL.2
    clear hc HL HS hb
    by_cases hz : 0 < N
    · have H2 : Hid (∃ g, N / 128 < 128 ^ (g + 1) ∧ 1 + cntF g (N / 128) = cntF f N) := cnt_step f N hz hN
      clear hN
      go_wp2
      go_round
      case rel =>
        obtain ⟨g, hg, e⟩ := H2.out
        have := HC.out
        have := HL'.out
        have := cnt_nonneg g (N / 128)
        exact ⟨g, N / 128, S + 1, by omega, hg, by omega, by omega, by omega, rfl, rfl, by omega⟩
      case measure => simp [intOf]; omega
    · have hN : N = 0 := by omega
      subst hN
      go_wp2
      go_ret
      have := HC.out
      rw [cnt_zero] at this
      exact ⟨ret_int (by omega), rfl⟩
end Go.Proofs.YtidljnkalaklmaaDoor.W
namespace Go.Proofs.YtidljnkalaklmaaDoor.W
open Go.RowKit
set_option maxRecDepth 1000000
theorem ret_gv {g : Int × Int × Int} {a b c : Int} (h : g = (a, b, c)) : Ending.returned (.tuple #[.int .u64 a, .int .i64 b, .int .i64 c]) = .returned (.tuple #[.int .u64 g.1, .int .i64 g.2.1, .int .i64 g.2.2]) := by rw [h]
theorem getvEnd (a : Option Addr) (len cap : Nat) (w : World) (ha : a = none → cap = 0) (hlc : len ≤ cap) (hm : cap ≤ 9223372036854775807) :
    Calls Tryd.prog 42 #[.slice a len cap, .int .i64 len] w fun e w' => e = .returned (.tuple #[.int .u64 0, .int .i64 0, .int .i64 3]) ∧ w' = w := by
  have h0 : len - len = 0 := by omega
  cases a with
  | none =>
    have := ha rfl
    subst this
    obtain rfl : len = 0 := by omega
    clear ha
    go_enter Tryd.func42, Tryd.ntmps42
    go_wp2; go_step3; go_wp2_with (go_at_call 59; refine (outsideNo _ _ _ _ _ (by omega) (by omega) (by omega)).mono ?_; rintro e w' ⟨rfl, rfl⟩); go_step3; go_wp2
    refine wp_loop_rounds 1 ?_
    rw [rounds_succ]
    go_wp2
    try rw [Exit.noGoto_ret]
    go_ret3
    exact ⟨rfl, rfl⟩
  | some x =>
    clear ha
    obtain ⟨b, off, spot⟩ := x
    go_enter Tryd.func42, Tryd.ntmps42
    go_wp2; go_step3; go_wp2_with (go_at_call 59; refine (outsideNo _ _ _ _ _ (by omega) (by omega) (by omega)).mono ?_; rintro e w' ⟨rfl, rfl⟩); go_step3; go_wp2
    all_goals
      refine wp_loop_rounds 1 ?_
      rw [rounds_succ]
      go_wp2
      try rw [Exit.noGoto_ret]
      go_ret3
      exact ⟨rfl, rfl⟩
set_option maxHeartbeats 400000 in
theorem getvIn (b off len cap p : Nat) (xs : List Int) (w : World) (hl : xs.length = len) (hlc : len ≤ cap) (hm : cap ≤ 9223372036854775807) (hp : p < len)
    (hc : ∀ i, i < len → w.cell? ⟨b, off + i, none⟩ = some (.int .u8 (xs.getD i 0))) (hr : ∀ i, 0 ≤ xs.getD i 0 ∧ xs.getD i 0 ≤ 255) :
    Calls Tryd.prog 42 #[.slice (some ⟨b, off, none⟩) len cap, .int .i64 p] w fun e w' =>
      e = .returned (.tuple #[.int .u64 (gv xs p).1, .int .i64 (gv xs p).2.1, .int .i64 (gv xs p).2.2]) ∧ w' = w := by
  go_enter Tryd.func42, Tryd.ntmps42
  go_wp2; go_step3; go_wp2_with (go_at_call 59; refine (outsideNo _ _ _ _ _ (by omega) (by omega) (by omega)).mono ?_; rintro e w' ⟨rfl, rfl⟩); go_step3; go_wp2
  go_loop [4, 5, 6, 7, 8, 16] (fun n nx e i c r => ∃ (k : Nat) (X : Int), k ≤ 9 ∧ k ≤ len - p ∧ 0 ≤ X ∧ X < 2 ^ (7 * k) ∧ r = .int .i64 k ∧ n = .int .u64 X ∧ nx = .int .i64 0 ∧ e = .int .i64 3 ∧ gv xs p = gvF (xs.drop (p + k)) k X p) (fun _ _ _ _ _ r => len - p - (intOf r).toNat)
  case atStart => exact ⟨0, 0, by omega, by omega, by omega, by simp, rfl, rfl, rfl, rfl, by simp [gv]⟩
  case round =>
    obtain ⟨k, X, hk9, hk, hX0, hX, rfl, rfl, rfl, rfl, hg⟩ := hrel
    have HG : Hid (gv xs p = gvF (xs.drop (p + k)) k X p) := hg
    clear hg
    have hrk : 0 ≤ xs[p + k]?.getD 0 ∧ xs[p + k]?.getD 0 ≤ 255 := by have := hr (p + k); rwa [List.getD_eq_getElem?_getD] at this
    have hck : k < len - p → w.cell? ⟨b, off + p + k, none⟩ = some (.int .u8 (xs.getD (p + k) 0)) := fun h => by rw [Nat.add_assoc]; exact hc (p + k) (by omega)
    clear hr hc
    go_wp2
    · -- the tenth byte is too great
      have hlt : k < len - p := by assumption
      try rw [Exit.noGoto_ret]
      go_ret3
      exact ⟨ret_gv (by rw [HG.out, g_bad (by omega) ‹_› ‹_›]), rfl⟩
    · -- the tenth byte
      have hlt : k < len - p := by assumption
      have h9 : (k : Int) = 9 := by assumption
      have hc1 : xs[p + k]?.getD 0 ≤ 1 := by assumption
      try rw [Exit.noGoto_ret]
      go_ret3
      refine ⟨ret_gv ?_, rfl⟩
      rw [HG.out, g_last (by omega) (fun _ => hc1) hrk.1 (by omega), step_val k hk9 X _ hX0 hX hrk.1 hrk.2 (fun _ => hc1)]
      have : k = 9 := by omega
      subst this
      rfl
    · -- a last byte
      have hlt : k < len - p := by assumption
      have h9 : ¬ (k : Int) = 9 := by assumption
      have hc1 : xs[p + k]?.getD 0 < 128 := by assumption
      try rw [Exit.noGoto_ret]
      go_ret3
      refine ⟨ret_gv ?_, rfl⟩
      rw [HG.out, g_last (by omega) (fun h => absurd h h9) hrk.1 (by omega), step_val k hk9 X _ hX0 hX hrk.1 hrk.2 (fun h => by omega)]
    · -- one that goes on
      have hlt : k < len - p := by assumption
      have h9 : ¬ (k : Int) = 9 := by assumption
      have hc1 : 128 ≤ xs[p + k]?.getD 0 := by assumption
      have hp2 : (0 : Int) < 2 ^ (7 * k) := Int.pow_pos (by decide)
      have hs := step_val k hk9 X _ hX0 hX hrk.1 hrk.2 (fun h => by omega)
      have hm0 : 0 ≤ xs[p + k]?.getD 0 % 128 * 2 ^ (7 * k) := Int.mul_nonneg (by omega) (Int.le_of_lt hp2)
      have HS : Hid (bits .or .u64 X (IntKind.u64.wrap (IntKind.u64.wrap (bits .and .u8 (xs[p + k]?.getD 0) 127) * 2 ^ (7 * k))) = X + xs[p + k]?.getD 0 % 128 * 2 ^ (7 * k)) := hs
      clear hs
      refine ⟨⟨k + 1, X + xs[p + k]?.getD 0 % 128 * 2 ^ (7 * k), by omega, by omega, by omega, step_lt k X _ hX (by omega), by go_num, by rw [HS.out], rfl, rfl, by rw [HG.out, g_more (by omega) h9 hc1 hrk.2]⟩, by simp [intOf]; omega⟩
    · -- the end
      have hge : ¬ k < len - p := by assumption
      try rw [Exit.noGoto_ret]
      go_ret3
      exact ⟨ret_gv (by rw [HG.out, g_end (by omega)]), rfl⟩
/-- The program's GetVarint at a place of a slice that can be read. -/
theorem getvW (a : Option Addr) (len cap p : Nat) (xs : List Int) (w : World) (h : Reads w a len cap xs) (hp : p ≤ len) :
    Calls Tryd.prog 42 #[.slice a len cap, .int .i64 p] w fun e w' =>
      e = .returned (.tuple #[.int .u64 (gv xs p).1, .int .i64 (gv xs p).2.1, .int .i64 (gv xs p).2.2]) ∧ w = w' := by
  by_cases hpl : p = len
  · subst hpl
    rw [gv_end xs p (by rw [h.length]; exact Nat.le_refl _)]
    refine (getvEnd a p cap w (fun e => ?_) h.le h.max).mono fun e w' h => ⟨h.1, h.2.symm⟩
    rcases h.cells with ⟨_, h2⟩ | ⟨b, off, rfl, _⟩
    · exact h2 e
    · cases e
  · rcases h.cells with ⟨h0, _⟩ | ⟨b, off, rfl, hc⟩
    · omega
    · exact (getvIn b off len cap p xs w h.length h.le h.max (by omega) hc h.bd).mono fun e w' h => ⟨h.1, h.2.symm⟩
end Go.Proofs.YtidljnkalaklmaaDoor.W
namespace Go.Proofs.YtidljnkalaklmaaDoor.W
open Go.RowKit
set_option maxRecDepth 1000000
theorem own_last {w : World} {base m j : Nat} {v : Value} {xs : List Value} {pre all : List Int} {N : Int} (h : w.ownsRow base 5 1 v (m + j + 1) (xs ++ pre.map (Value.int .u8) ++ [.int .u8 N])) (hj : pre.length = j) (e : all = pre ++ [N]) :
    w.ownsRow base 5 1 v (m + all.length) (xs ++ all.map (Value.int .u8)) := by
  subst hj e
  simpa [Nat.add_assoc] using h
theorem own_more {w : World} {base m j : Nat} {v : Value} {xs : List Value} {pre : List Int} {N : Int} (h : w.ownsRow base 5 1 v (m + j + 1) (xs ++ pre.map (Value.int .u8) ++ [.int .u8 N])) :
    w.ownsRow base 5 1 v (m + (j + 1)) (xs ++ (pre ++ [N]).map (Value.int .u8)) := by
  simpa [Nat.add_assoc] using h
theorem pv_more {f : Nat} {N : Int} (h : N < 128 ^ (f + 1)) (hge : ¬ N < 128) : ∃ g, f = g + 1 ∧ N / 128 < 128 ^ (g + 1) ∧ pvF f N = (N % 128 + 128) :: pvF g (N / 128) := by
  cases f with
  | zero => simp at h; omega
  | succ g => exact ⟨g, rfl, div_lt _ h, pvF_big g hge⟩
set_option maxHeartbeats 400000 in
theorem addvW (base : Nat) (v : Value) (m : Nat) (xs : List Value) (n : Int) (w : World) (hown : w.ownsRow base 5 1 v m xs) (hb : base ≤ w.heap.size) (h0 : 0 ≤ n) (h1 : n < 18446744073709551616) (hm : m + 10 ≤ 140737488355328) :
    Calls Tryd.prog 57 #[v, .int .u64 n] w fun e w' => ∃ v', e = .returned v' ∧ w'.ownsRow base 5 1 v' (m + (pv n).length) (xs ++ (pv n).map (Value.int .u8)) ∧ Below base w w' := by
  obtain ⟨i0, hi, hz0, hz1, hz2⟩ := info_parts Tryd.info5
  have H9 : Hid (n < 128 ^ (9 + 1)) := lt_ten h1
  go_enter Tryd.func57, Tryd.ntmps57
  go_wp2
  go_loopw [0, 1] (fun o nn wr => ∃ (f j : Nat) (N : Int) (pre : List Int), 0 ≤ N ∧ N < 18446744073709551616 ∧ Hid (N < 128 ^ (f + 1)) ∧ pre.length = j ∧ j + f ≤ 9 ∧ nn = .int .u64 N ∧ wr.ownsRow base 5 1 o (m + j) (xs ++ pre.map (Value.int .u8)) ∧ Below base w wr ∧ Hid (pv n = pre ++ pvF f N)) (fun _ nn _ => (intOf nn).toNat)
  case atStart => exact ⟨9, 0, n, [], h0, h1, H9, rfl, by omega, rfl, by simpa using hown, Below.refl _ _, rfl⟩
  case round =>
    obtain ⟨f, j, N, pre, hN0, hN, HN, hj, hjf, rfl, ho, hbw, HP⟩ := hrel
    have hsz := hbw.size
    have hd := digit N hN0 hN
    clear hown
    by_cases hlt : N < 128
    · go_wp2_with (first
        | (at_builtin; refine wpList_append_own _ rfl _ _ 22 rfl base 5 i0 (.int .u8 0) 1 1 Tryd.underlying22 hi hz0 hz1 hz2 rfl (by decide) _ _ _ rfl (ho.alloc _) ⟨wr.heap.size, 0, none⟩ 1 1 [.int .u8 N] rfl rfl (cell_one_new _ _ _) (fun x hx => by simp at hx; subst hx; rfl) (by unfold maxLen; omega) (by omega) (by simp; omega) ?_; intro v' w3 hown' hgrow3 hnil3))
      go_ret
      exact ⟨v', rfl, own_last hown' hj (by rw [HP.out, pvF_small _ hlt]), Below.grown (hbw.alloc (by omega) _) hgrow3 (by simp; omega) (fun k hk => (ho.lt k hk).1)⟩
    · go_wp2_with (first
        | (at_builtin; refine wpList_append_own _ rfl _ _ 22 rfl base 5 i0 (.int .u8 0) 1 1 Tryd.underlying22 hi hz0 hz1 hz2 rfl (by decide) _ _ _ rfl (ho.alloc _) ⟨wr.heap.size, 0, none⟩ 1 1 [.int .u8 (N % 128 + 128)] rfl rfl (cell_one_new _ _ _) (fun x hx => by simp at hx; subst hx; rfl) (by unfold maxLen; omega) (by omega) (by simp; omega) ?_; intro v' w3 hown' hgrow3 hnil3))
      obtain ⟨g, rfl, hg, e⟩ := pv_more HN.out hlt
      exact ⟨⟨g, j + 1, N / 128, pre ++ [N % 128 + 128], by omega, by omega, hg, by simp [hj], by omega, rfl, own_more hown', Below.grown (hbw.alloc (by omega) _) hgrow3 (by simp; omega) (fun k hk => (ho.lt k hk).1), by show _ = _; rw [HP.out, e]; simp⟩, by simp [intOf]; omega⟩
set_option maxHeartbeats 400000 in
theorem putvW (n : Int) (w : World) (h0 : 0 ≤ n) (h1 : n < 18446744073709551616) :
    Calls Tryd.prog 38 #[.int .u64 n] w fun e w' => ∃ v', e = .returned v' ∧ w'.ownsRow w.heap.size 5 1 v' (pv n).length ((pv n).map (Value.int .u8)) ∧ Below w.heap.size w w' := by
  obtain ⟨i0, hi, hz0, hz1, hz2⟩ := info_parts Tryd.info5
  have hl := (pv_len n).2
  obtain ⟨w1, hrun, hown, hgr⟩ := run_makeSlice_owned (P := Tryd.prog) w w.heap.size 22 5 i0 (.int .u8 0) 1 Tryd.underlying22 hi hz0 hz1 .i64 .i64 (pv n).length (by omega) (by rw [hz2]; omega) (by unfold maxLen; omega) (Nat.le_refl _)
  have hsz := hgr.size
  have hbw : Below w.heap.size w w1 := Below.grown (Below.refl _ _) hgr (Nat.le_refl _) (fun k hk => by cases hk)
  go_enter Tryd.func38, Tryd.ntmps38
  go_wp2_with (first
    | (go_at_call 58; refine (sizeW _ _ h0 h1).mono ?_; rintro e w' ⟨rfl, rfl⟩)
    | (go_at_call 57; go_must (refine (addvW w.heap.size _ 0 [] _ _ hown (by omega) h0 h1 (by omega)).mono ?_); rintro e w' ⟨v', rfl, ho', hb'⟩))
  go_ret
  exact ⟨v', rfl, by simpa using ho', hbw.trans hb'⟩
end Go.Proofs.YtidljnkalaklmaaDoor.W
namespace Go.Proofs.YtidljnkalaklmaaDoor.W
open Go.RowKit
set_option maxRecDepth 1000000
/-- PutVarint's answer as a slice that can be read. -/
theorem putvWr (n : Int) (w : World) (h0 : 0 ≤ n) (h1 : n < 18446744073709551616) :
    Calls Tryd.prog 38 #[.int .u64 n] w fun e w' => ∃ a cap, e = .returned (.slice a (pv n).length cap) ∧ Reads w' a (pv n).length cap (pv n) ∧ Below w.heap.size w w' := by
  refine (putvW n w h0 h1).mono ?_
  rintro e w' ⟨v, rfl, ho, hb⟩
  obtain ⟨a, cap, rfl, hr⟩ := own_reads ho (pv_bd h0 h1)
  exact ⟨a, cap, rfl, hr, hb⟩
end Go.Proofs.YtidljnkalaklmaaDoor.W
namespace Go.Proofs.YtidljnkalaklmaaDoor
open Go.RowKit
set_option maxRecDepth 1000000
set_option linter.unusedVariables false
set_option linter.unusedSimpArgs false
set_option maxHeartbeats 1000000
/-- Bytes of one's own. -/
def OwnB (w : World) (base : Nat) (v : Value) (xs : List Int) : Prop := w.ownsRow base 5 1 v xs.length (xs.map (Value.int .u8))
/-- The varints of numbers. -/
def nvB (ns : List Int) : List Int := ns.flatMap W.pv
theorem nvB_len (ns : List Int) : (nvB ns).length ≤ 10 * ns.length := by
  induction ns with
  | nil => exact Nat.le_refl _
  | cons n ns ih =>
    have := (W.pv_len n).2
    unfold nvB at ih ⊢
    rw [List.flatMap_cons, List.length_append, List.length_cons]
    omega
theorem nvB_snoc (ns : List Int) (j : Nat) (h : j < ns.length) : nvB (ns.take (j + 1)) = nvB (ns.take j) ++ W.pv ns[j] := by
  unfold nvB
  rw [List.take_add_one, List.getElem?_eq_getElem h, List.flatMap_append]
  simp
theorem growW {w w' : World} {v v' : Value} (g : W.Grow w w' v v') : Grow w w' v v' := ⟨g.os, g.tape, g.output, g.size, g.block, g.own⟩
def AddA (w : World) (base : Nat) (v : Value) (zs : List Int) (e : Ending) (w' : World) : Prop := ∃ v', e = .returned v' ∧ OwnB w' base v' zs ∧ Grow w w' v v'
theorem OwnB.slice {w : World} {base : Nat} {v : Value} {xs : List Int} (h : OwnB w base v xs) : ∃ a c, v = .slice a xs.length c := own_shape h
theorem rowApart {w : World} {k n : Nat} {v u : Value} {fl : List Value} {Z : Nat → Prop} (h : RowS w Z k u n fl) (hz : ∀ b, Z b → v.ownBlock ≠ some b) {w' : World} {v' : Value} (g : Grow w w' v v') : RowS w' Z k u n fl := RowS.keep h (Keep.ofGrow (f := fun b => v.ownBlock ≠ some b) g (fun b hb => hb)) (fun b hb => hz b hb)
/-- Bytes more. -/
theorem addBytes (base : Nat) (v : Value) (xs : List Int) (w : World) (a : Option Addr) (len cap : Nat) (ys : List Int) (ho : OwnB w base v xs) (hb : base ≤ w.heap.size) (hr : W.Reads w a len cap ys) (hn : xs.length + ys.length ≤ 140737488355328) : ∃ v' w', Hid ((Builtin.append_ #[22, 22] 22 #[v, .slice a len cap]).run Tryd.prog w = .ok v' w') ∧ Hid (OwnB w' base v' (xs ++ ys)) ∧ Hid (Grow w w' v v') := by
  obtain ⟨v', w2, h1, h3, h4⟩ := W.append_bytes base _ _ _ w a _ cap ys ho hb hr (by rw [← hr.length]; exact hn)
  exact ⟨v', w2, hid h1, hid (by unfold OwnB; rw [List.map_append, List.length_append, hr.length]; exact h3), hid (growW h4)⟩
theorem addNumbersT (w : World) (base : Nat) (v : Value) (xs : List Int) (ho : OwnB w base v xs) (hb : base ≤ w.heap.size) (ns : List Int) (na : Option Addr) (nc : Nat) (Z : Nat → Prop) (hz : ∀ b, Z b → v.ownBlock ≠ some b) (hr : RowS w Z 1 (.slice na ns.length nc) ns.length (ns.flatMap cI64)) (hn : ∀ n ∈ ns, 0 ≤ n ∧ n ≤ 9223372036854775807) (hl : xs.length + 10 * ns.length ≤ 140737488355328) :
    Calls Tryd.prog 22 #[v, .slice na ns.length nc] w (AddA w base v (xs ++ nvB ns)) := by
  have HR := hid hr
  have HZ := hid hz
  have HN := hid hn
  have HL := hid hl
  have HO := hid ho
  have HB := hid hb
  have n63 : (ns.length : Int) ≤ 9223372036854775807 := by omega
  obtain ⟨va, vc, ev⟩ := ho.slice
  clear hr hz hn hl ho hb ev
  go_enter Tryd.func22, Tryd.ntmps22
  go_wp2
  go_loopw [0, 9] (fun s0 s9 wr => ∃ j : Nat, s9 = .int .i64 (j : Int) ∧ j ≤ ns.length ∧ Hid (OwnB wr base s0 (xs ++ nvB (ns.take j))) ∧ Hid (Grow w wr v s0)) (fun s0 s9 wr => ns.length - numAt wr s9)
  case atStart => exact ⟨0, rfl, by omega, hid (by simpa [nvB] using HO.out), hid (Grow.refl _ _)⟩
  case round =>
    obtain ⟨j, rfl, hj, HV, HG⟩ := hrel
    by_cases hlt : j < ns.length
    · have h2 : (j : Int) < (ns.length : Int) := by omega
      have HRW := hid (rowApart HR.out HZ.out HG.out)
      obtain ⟨g4, go4, eg, hc⟩ := rowAt (g := cI64) (fun _ => rfl) HRW.out (i := j) (x := ns[j]) (by simp [hlt])
      subst eg
      have c0 := hc 0 _ rfl
      clear hc
      simp only [Nat.add_zero, Nat.mul_one] at c0
      have hgb : g4 < wr.heap.size := World.block_lt_of_cell? _ _ c0
      have HX := hid (HN.out ns[j] (List.getElem_mem hlt))
      have HS := hid (nvB_snoc ns j hlt)
      have hw : IntKind.u64.wrap ns[j] = ns[j] := by
        have := HX.out
        simp [IntKind.wrap, IntKind.bits, IntKind.signed]
        omega
      have HP := hid fun W0 => W.putvWr ns[j] W0 HX.out.1 (by have := HX.out.2; omega)
      have HLN : Hid ((xs ++ nvB (ns.take j)).length + (W.pv ns[j]).length ≤ 140737488355328) := hid (by
        have h1 := nvB_len (ns.take j)
        have h2 := (W.pv_len ns[j]).2
        have h3 := HL.out
        rw [List.length_append]
        rw [List.length_take] at h1
        omega)
      generalize ns[j] = x at *
      go_wp2_with fail
      refine (HP.out _).mono ?_
      rintro e w1 ⟨a, cap, rfl, hrd, hb1⟩
      obtain ⟨v', w2, HRUN, HV2, HG2⟩ := addBytes base u0 _ w1 a _ cap (W.pv x) (own_kept HV.out hb1) (by have := HB.out; have := HG.out.size; have := hb1.size; omega) hrd HLN.out
      replace HV2 : Hid (OwnB w2 base v' (xs ++ nvB (ns.take (j + 1)))) := hid (by rw [HS.out, ← List.append_assoc]; exact HV2.out)
      replace HG2 : Hid (Grow w w2 v v') := hid (HG.out.trans ((Grow.ofBelow hb1).trans HG2.out))
      clear hb1 hrd HLN HP HS HV
      generalize (W.pv x).length = q at *
      go_wp2_with (first | (at_builtin; refine wpList_append_ran rfl (.tmp 13) (.tmp 16) 22 22 rfl rfl u0 (.slice a q cap) v' w2 rfl rfl HRUN.out ?_))
      exact ⟨⟨j + 1, by simp, by omega, HV2, HG2⟩, by simp [numAt]; omega⟩
    · have h2 : ¬ (j : Int) < (ns.length : Int) := by omega
      obtain rfl : j = ns.length := by omega
      go_wp2
      go_ret
      exact ⟨_, rfl, by simpa using HV.out, HG.out⟩
end Go.Proofs.YtidljnkalaklmaaDoor
namespace Go.Proofs.YtidljnkalaklmaaDoor
open Go.RowKit
set_option maxRecDepth 1000000
set_option linter.unusedVariables false
variable {P : Program} {ops : Array Oper} {Q : Exit → Act → World → Prop} {md : Region.Mode} {S : World → Prop}
end Go.Proofs.YtidljnkalaklmaaDoor
namespace Go.Proofs.YtidljnkalaklmaaDoor
open Go.RowKit
set_option maxRecDepth 1000000
set_option linter.unusedVariables false
set_option linter.unusedSimpArgs false
set_option maxHeartbeats 2000000
theorem own_neB {w : World} {base : Nat} {v : Value} {xs : List Int} (h : OwnB w base v xs) {q : Nat} {t : TypeId} {cs : Array Value} (hB : Blk w q t cs) (ht : t ≠ 5) : v.ownBlock ≠ some q := fun hk => by
  obtain ⟨_, _, cur, h3⟩ := own_type h hk
  rw [show w.heap[q]? = _ from hB] at h3
  cases h3
  exact ht rfl
theorem grow_blkB {w w' : World} {base : Nat} {v v' : Value} {xs : List Int} (g : Grow w w' v v') (h : OwnB w base v xs) {q : Nat} {t : TypeId} {cs : Array Value} (hB : Blk w q t cs) (ht : t ≠ 5) : Blk w' q t cs := (g.block q hB.lt (own_neB h hB ht)).trans hB
theorem OwnB.kept {w w' : World} {base : Nat} {v : Value} {xs : List Int} (h : OwnB w base v xs) (g : Below w.heap.size w w') : OwnB w' base v xs := own_kept h g
/-- How many numbers an operation names. -/
def opC (n : Int) : Nat := opCt[(n - 1).toNat]?.getD 0
/-- A step's bytes. -/
def st1 (s : IN) : List Int := s.op :: nvB ((insN s).take (opC s.op))
def stB (l : List IN) : List Int := l.flatMap st1
/-- A step that can be written. -/
structure InW (s : IN) : Prop where
  op : 1 ≤ s.op ∧ s.op ≤ 25
  n : ∀ x ∈ insN s, 0 ≤ x ∧ x ≤ 9223372036854775807
theorem opC_le (n : Int) : opC n ≤ 4 := by
  unfold opC
  have : ∀ x ∈ opCt, x ≤ 4 := by decide
  cases h : opCt[(n - 1).toNat]? with
  | none => simp
  | some x => exact this x (List.mem_of_getElem? h)
theorem st1_len (s : IN) : (st1 s).length ≤ 41 := by
  have h1 := nvB_len ((insN s).take (opC s.op))
  have h2 : ((insN s).take (opC s.op)).length ≤ 4 := by rw [List.length_take]; simp [insN]; omega
  unfold st1
  rw [List.length_cons]
  omega
theorem stB_len (l : List IN) : (stB l).length ≤ 41 * l.length := by
  induction l with
  | nil => exact Nat.le_refl _
  | cons s l ih =>
    have := st1_len s
    unfold stB at ih ⊢
    rw [List.flatMap_cons, List.length_append, List.length_cons]
    omega
theorem stB_snoc (l : List IN) (j : Nat) (h : j < l.length) : stB (l.take (j + 1)) = stB (l.take j) ++ st1 l[j] := by
  unfold stB
  rw [List.take_add_one, List.getElem?_eq_getElem h, List.flatMap_append]
  simp
theorem oneReads {w : World} {b : Nat} {x : Int} (h : Blk w b 5 #[.int .u8 x]) (hx : 0 ≤ x ∧ x ≤ 255) : W.Reads w (some ⟨b, 0, none⟩) 1 1 [x] := by
  refine ⟨rfl, Nat.le_refl _, by decide, fun i => ?_, .inr ⟨b, 0, rfl, fun i hi => ?_⟩⟩
  · cases i with
    | zero => exact hx
    | succ i => simp
  · obtain rfl : i = 0 := by omega
    rw [h.cellF]
    rfl
theorem arr4_row {w : World} {b : Nat} {t : TypeId} (s : IN) (c : Nat) (hc : c ≤ 4) (B : Blk w b t #[.int .i64 s.a, .int .i64 s.b, .int .i64 s.c, .int .i64 s.d]) : RowS w (· = b) 1 (.slice (some ⟨b, 0, none⟩) ((insN s).take c).length 4) ((insN s).take c).length (((insN s).take c).flatMap cI64) := by
  have e : ((insN s).take c).length = c := by rw [List.length_take]; simp [insN]; omega
  have x := B.cellF
  refine ⟨_, 4, rfl, by rw [flatM_len (g := cI64) (fun _ => rfl)], by omega, by decide, .inr ⟨b, 0, rfl, rfl, fun j u hu => ?_⟩⟩
  have hj : j < c := by
    have h2 := (List.getElem?_eq_some_iff.1 hu).1
    rw [flatM_len (g := cI64) (fun _ => rfl), e, Nat.mul_one] at h2
    exact h2
  have e2 : ((insN s).take c).flatMap cI64 = ([Value.int .i64 s.a, Value.int .i64 s.b, Value.int .i64 s.c, Value.int .i64 s.d]).take c := by
    unfold insN
    match c, hc with
    | 0, _ => rfl
    | 1, _ => rfl
    | 2, _ => rfl
    | 3, _ => rfl
    | 4, _ => rfl
  rw [e2, List.getElem?_take, if_pos hj] at hu
  rw [Nat.zero_add, x]
  simpa using hu
theorem addStepsT (w : World) (p base : Nat) (v : Value) (xs : List Int) (hp : Blk w p 59 opAll.toArray) (ho : OwnB w base v xs) (hb : base ≤ w.heap.size) (l : List IN) (la : Option Addr) (lc : Nat) (Z : Nat → Prop) (hz : ∀ b, Z b → v.ownBlock ≠ some b) (hr : RowS w Z 5 (.slice la l.length lc) l.length (l.flatMap cIN)) (hn : ∀ s ∈ l, InW s) (hl : xs.length + 41 * l.length ≤ 140737488355328) :
    Calls Tryd.prog 23 #[.pointer (some ⟨p, 0, none⟩), v, .slice la l.length lc] w (AddA w base v (xs ++ stB l)) := by
  obtain ⟨_, _, e, hln⟩ := rowS_sl hr
  clear e
  have n63 : (l.length : Int) ≤ 9223372036854775807 := by omega
  have HR := hid hr
  have HZ := hid hz
  have HN := hid hn
  have HL := hid hl
  have HO := hid ho
  have HB := hid hb
  have HP := hid hp
  clear hr hz hn hl ho hb hp
  go_enter Tryd.func23, Tryd.ntmps23
  go_wp2
  go_loopw [1, 13] (fun s1 s13 wr => ∃ j : Nat, s13 = .int .i64 (j : Int) ∧ j ≤ l.length ∧ Hid (OwnB wr base s1 (xs ++ stB (l.take j))) ∧ Hid (Grow w wr v s1)) (fun s1 s13 wr => l.length - numAt wr s13)
  case atStart => exact ⟨0, rfl, by omega, hid (by simpa [stB] using HO.out), hid (Grow.refl _ _)⟩
  case round =>
    obtain ⟨j, rfl, hj, HV, HG⟩ := hrel
    by_cases hlt : j < l.length
    · have h2 : (j : Int) < (l.length : Int) := by omega
      have HRW := hid (rowApart HR.out HZ.out HG.out)
      obtain ⟨g4, go4, eg, hc⟩ := rowAt (g := cIN) (fun _ => rfl) HRW.out (i := j) (x := l[j]) (by simp [hlt])
      subst eg
      have c0 := hc 0 _ rfl
      have c1 := hc 1 _ rfl
      have c2 := hc 2 _ rfl
      have c3 := hc 3 _ rfl
      have c4 := hc 4 _ rfl
      clear hc
      simp only [Nat.add_zero] at c0
      have hgb : g4 < wr.heap.size := World.block_lt_of_cell? _ _ c0
      have HX := hid (HN.out l[j] (List.getElem_mem hlt))
      have HS := hid (stB_snoc l j hlt)
      have HLN : Hid ((xs ++ stB (l.take j)).length + 1 + 40 ≤ 140737488355328) := hid (by
        have h1 := stB_len (l.take j)
        have h3 := HL.out
        rw [List.length_append]
        rw [List.length_take] at h1
        omega)
      generalize l[j] = s at *
      obtain ⟨n, a, b, c, d⟩ := s
      obtain ⟨k, hk, hk25⟩ : ∃ k : Nat, n = (k : Int) + 1 ∧ k < 25 := ⟨(n - 1).toNat, by have := HX.out.op; dsimp only at this; omega⟩
      subst hk
      dsimp only at c0 c1 c2 c3 c4
      have HPW := hid (grow_blkB HG.out HO.out HP.out (by decide))
      have HNU := hid fun W0 (hW : Below wr.heap.size wr W0) => numberedT W0 p ((k : Int) + 1) (HPW.out.kept hW)
      rw [numV_yes k hk25] at HNU
      have HCT : Hid (opC ((k : Int) + 1) = opCt[k]?.getD 0) := hid (by unfold opC; congr 2; omega)
      have HC4 := hid (opC_le ((k : Int) + 1))
      rw [HCT.out] at HC4
      have HST : Hid (st1 ⟨(k : Int) + 1, a, b, c, d⟩ = [(k : Int) + 1] ++ nvB ((insN ⟨(k : Int) + 1, a, b, c, d⟩).take (opCt[k]?.getD 0))) := hid (by unfold st1; rw [HCT.out]; rfl)
      have hbt : IntKind.u8.wrap ((k : Int) + 1) = (k : Int) + 1 := by
        simp [IntKind.wrap, IntKind.bits, IntKind.signed]
        omega
      clear HCT
      generalize strOfNums (opNm[k]?.getD []) = sv at *
      generalize opCt[k]?.getD 0 = ct at *
      go_upto_region 4 with fail
      have B8 : Hid (Blk (wr.alloc (.cells #[.int .i64 ((k : Int) + 1), .int .i64 a, .int .i64 b, .int .i64 c, .int .i64 d] 42)) wr.heap.size 42 #[.int .i64 ((k : Int) + 1), .int .i64 a, .int .i64 b, .int .i64 c, .int .i64 d]) := hid (Blk.new _ _ _)
      go_wp2_with fail
      refine (HNU.out _ (below_alloc _)).mono ?_
      rintro e w1 ⟨rfl, hb1⟩
      go_upto_region 5 with fail
      have B8' : Hid (Blk (w1.alloc (.cells #[.int .i64 ((k : Int) + 1), .string sv, .int .i64 (ct : Int)] 57)) wr.heap.size 42 #[.int .i64 ((k : Int) + 1), .int .i64 a, .int .i64 b, .int .i64 c, .int .i64 d]) := hid ((B8.out.kept hb1).kept (below_alloc _))
      have B9 : Hid (Blk (w1.alloc (.cells #[.int .i64 ((k : Int) + 1), .string sv, .int .i64 (ct : Int)] 57)) w1.heap.size 57 #[.int .i64 ((k : Int) + 1), .string sv, .int .i64 (ct : Int)]) := hid (Blk.new _ _ _)
      have HV1 : Hid (OwnB (w1.alloc (.cells #[.int .i64 ((k : Int) + 1), .string sv, .int .i64 (ct : Int)] 57)) base u1 (xs ++ stB (l.take j))) := hid (((HV.out.kept (below_alloc _)).kept hb1).kept (below_alloc _))
      have HG1 : Hid (Grow w (w1.alloc (.cells #[.int .i64 ((k : Int) + 1), .string sv, .int .i64 (ct : Int)] 57)) v u1) := hid (HG.out.trans (Grow.ofBelow (bl_alloc (bl_then (below_alloc _) hb1) _)))
      clear B8 HNU HPW HV HG hb1 c0 c1 c2 c3 c4 HRW
      have q8 : wr.heap.size < (w1.alloc (.cells #[.int .i64 ((k : Int) + 1), .string sv, .int .i64 (ct : Int)] 57)).heap.size := B8'.out.lt
      have q9 : w1.heap.size < (w1.alloc (.cells #[.int .i64 ((k : Int) + 1), .string sv, .int .i64 (ct : Int)] 57)).heap.size := B9.out.lt
      generalize w1.alloc (.cells #[.int .i64 ((k : Int) + 1), .string sv, .int .i64 (ct : Int)] 57) = U at *
      generalize wr.heap.size = p8 at *
      generalize w1.heap.size = p9 at *
      refine wp_region_held_drew (S := (fun W0 => (∀ k_1, W0.cell? ⟨p8, k_1, none⟩ = #[.int .i64 ((k : Int) + 1), .int .i64 a, .int .i64 b, .int .i64 c, .int .i64 d][k_1]?) ∧ (∀ k_1, W0.cell? ⟨p9, k_1, none⟩ = #[.int .i64 ((k : Int) + 1), .string sv, .int .i64 (ct : Int)][k_1]?))) (by kernel_rfl) ?_ (fun hHeld => ?_)
      · exact ⟨(B8'.out.kept (below_drew1 _)).cellF, (B9.out.kept (below_drew1 _)).cellF⟩
      refine wpAnyH_take (i := 0) (v := ?_) rfl (by kernel_rfl) (by kernel_rfl) (by kernel_rfl) (fun _ _ _ h => h) (Or.inl ⟨by rfl, ?_⟩) (by assumption) ?_
      rotate_left
      · (intro w hSw; (try dsimp only at hSw); go_simp; (try with_reducible rfl))
      try simp only [Act.put, List.getElem_toArray, List.getElem_cons_succ, List.getElem_cons_zero, List.setIfInBounds_toArray, List.set_cons_zero, List.set_cons_succ]
      refine wpAnyH_take (i := 1) (v := ?_) rfl (by kernel_rfl) (by kernel_rfl) (by kernel_rfl) (fun _ _ _ h => h) (Or.inl ⟨by rfl, ?_⟩) (by assumption) ?_
      rotate_left
      · (intro w hSw; (try dsimp only at hSw); go_simp; (try with_reducible rfl))
      try simp only [Act.put, List.getElem_toArray, List.getElem_cons_succ, List.getElem_cons_zero, List.setIfInBounds_toArray, List.set_cons_zero, List.set_cons_succ]
      refine wpAnyH_take (i := 2) (v := ?_) rfl (by kernel_rfl) (by kernel_rfl) (by kernel_rfl) (fun _ _ _ h => h) (Or.inl ⟨by rfl, ?_⟩) (by assumption) ?_
      rotate_left
      · (intro w hSw; (try dsimp only at hSw); go_simp; (try with_reducible rfl))
      try simp only [Act.put, List.getElem_toArray, List.getElem_cons_succ, List.getElem_cons_zero, List.setIfInBounds_toArray, List.set_cons_zero, List.set_cons_succ]
      refine wpAnyH_take (i := 3) (v := ?_) rfl (by kernel_rfl) (by kernel_rfl) (by kernel_rfl) (fun _ _ _ h => h) (Or.inl ⟨by rfl, ?_⟩) (by assumption) ?_
      rotate_left
      · (intro w hSw; (try dsimp only at hSw); go_simp; (try with_reducible rfl))
      try simp only [Act.put, List.getElem_toArray, List.getElem_cons_succ, List.getElem_cons_zero, List.setIfInBounds_toArray, List.set_cons_zero, List.set_cons_succ]
      refine wpAnyH_take (i := 6) (v := ?_) rfl (by kernel_rfl) (by kernel_rfl) (by kernel_rfl) (fun _ _ _ h => h) (Or.inl ⟨by rfl, ?_⟩) (by assumption) ?_
      rotate_left
      · (intro w hSw; (try dsimp only at hSw); go_simp; (try with_reducible rfl))
      try simp only [Act.put, List.getElem_toArray, List.getElem_cons_succ, List.getElem_cons_zero, List.setIfInBounds_toArray, List.set_cons_zero, List.set_cons_succ]
      refine wpAnyH_take (i := 7) (v := ?_) rfl (by kernel_rfl) (by kernel_rfl) (by kernel_rfl) (fun _ _ _ h => h) (Or.inl ⟨by rfl, ?_⟩) (by assumption) ?_
      rotate_left
      · (intro w hSw; (try dsimp only at hSw); go_simp; (try with_reducible rfl))
      try simp only [Act.put, List.getElem_toArray, List.getElem_cons_succ, List.getElem_cons_zero, List.setIfInBounds_toArray, List.set_cons_zero, List.set_cons_succ]
      refine wpAnyH_ready (rs := [4]) (by kernel_rfl) (by simp) ?_
      refine AllReadyH.cons rfl (fun K hK => ?_) ?_
      · go_simp
        refine hK.out _ _ ?_ (fun hHeld => ?_)
        · exact ⟨((B8'.out.kept (below_drew1 _)).kept (below_alloc _)).cellF, ((B9.out.kept (below_drew1 _)).kept (below_alloc _)).cellF⟩
        clear hK K
        try simp only [Act.put, List.getElem_toArray, List.getElem_cons_succ, List.getElem_cons_zero, List.setIfInBounds_toArray, List.set_cons_zero, List.set_cons_succ]
        have B8a : Hid (Blk (U.alloc (.cells #[.int .u8 ((k : Int) + 1)] 5)).drew p8 42 #[.int .i64 ((k : Int) + 1), .int .i64 a, .int .i64 b, .int .i64 c, .int .i64 d]) := hid ((B8'.out.kept (below_alloc _)).kept (below_drew1 _))
        have B9a : Hid (Blk (U.alloc (.cells #[.int .u8 ((k : Int) + 1)] 5)).drew p9 57 #[.int .i64 ((k : Int) + 1), .string sv, .int .i64 (ct : Int)]) := hid ((B9.out.kept (below_alloc _)).kept (below_drew1 _))
        have HOa : Hid (OwnB (U.alloc (.cells #[.int .u8 ((k : Int) + 1)] 5)).drew base u1 (xs ++ stB (l.take j))) := hid ((HV1.out.kept (below_alloc _)).kept (below_drew1 _))
        obtain ⟨v', w2, HRUN, HV2, HG2⟩ := addBytes base u1 _ _ (some ⟨U.heap.size, 0, none⟩) 1 1 [(k : Int) + 1] HOa.out (by have := HB.out; have := HG1.out.size; simp [World.drew]; omega) (oneReads ((Blk.new U 5 #[.int .u8 ((k : Int) + 1)]).kept (below_drew1 _)) (by omega)) (by have := HLN.out; simp only [List.length_singleton]; omega)
        have B8b := hid (grow_blkB HG2.out HOa.out B8a.out (by decide))
        have B9b := hid (grow_blkB HG2.out HOa.out B9a.out (by decide))
        have HG3 : Hid (Grow w w2 v v') := hid (HG1.out.trans ((Grow.ofBelow (bl_drew (below_alloc _))).trans HG2.out))
        refine wpAnyH_ready (rs := [5]) (by kernel_rfl) (by simp) ?_
        refine AllReadyH.cons rfl (fun K hK => ?_) ?_
        · refine step_append_ran rfl (.tmp 24) (.tmp 28) 22 22 rfl rfl u1 (.slice (some ⟨U.heap.size, 0, none⟩) 1 1) v' w2 rfl rfl HRUN.out ?_
          refine hK.out _ _ ?_ (fun hHeld => ?_)
          · exact ⟨B8b.out.cellF, B9b.out.cellF⟩
          clear hK K
          try simp only [Act.put, List.getElem_toArray, List.getElem_cons_succ, List.getElem_cons_zero, List.setIfInBounds_toArray, List.set_cons_zero, List.set_cons_succ]
          clear B8a B9a HOa HRUN HG2 HG1 HV1 B8' B9
          refine wpAnyH_ready (rs := [8]) (by kernel_rfl) (by simp) ?_
          refine AllReadyH.cons rfl (fun K hK => ?_) ?_
          · have HNB := hid (numbersT w2 (.int .i64 ((k : Int) + 1)) (.string sv) ct HC4.out ⟨(k : Int) + 1, a, b, c, d⟩)
            unfold vIN at HNB
            go_simp
            refine HNB.out.mono ?_
            rintro e w3 ⟨nb, rfl, hnb, hnz, hb3⟩
            dsimp only
            have HV3 := hid (HV2.out.kept hb3)
            have HNR := hid (arr4_row ⟨(k : Int) + 1, a, b, c, d⟩ ct HC4.out hnb)
            have HNE := hid (own_neB HV3.out hnb (by decide))
            have HLE : Hid (((insN ⟨(k : Int) + 1, a, b, c, d⟩).take ct).length = ct) := hid (by rw [List.length_take]; have := HC4.out; simp [insN]; omega)
            have HAN := hid (addNumbersT w3 base v' _ HV3.out (by have := HB.out; have := HG3.out.size; have := hb3.size; omega) _ _ _ _ (fun b' hb' => by rw [hb']; exact HNE.out) HNR.out (fun n hn => HX.out.n n (List.mem_of_mem_take hn)) (by have := HLN.out; have := HLE.out; have := HC4.out; rw [List.length_append, List.length_singleton]; omega))
            rw [HLE.out] at HAN
            have B8c := hid (B8b.out.kept hb3)
            have B9c := hid (B9b.out.kept hb3)
            replace HG3 : Hid (Grow w w3 v v') := hid (HG3.out.trans (Grow.ofBelow hb3))
            clear hnb hnz hb3 HNB B8b B9b HV2 HNR HNE HLE
            try simp only [Act.put, List.getElem_toArray, List.getElem_cons_succ, List.getElem_cons_zero, List.setIfInBounds_toArray, List.set_cons_zero, List.set_cons_succ]
            refine hK.out _ _ ?_ (fun hHeld => ?_)
            · exact ⟨B8c.out.cellF, B9c.out.cellF⟩
            clear hK K
            try simp only [Act.put, List.getElem_toArray, List.getElem_cons_succ, List.getElem_cons_zero, List.setIfInBounds_toArray, List.set_cons_zero, List.set_cons_succ]
            refine wpAnyH_ready (rs := [9]) (by kernel_rfl) (by simp) ?_
            refine AllReadyH.cons rfl (fun K hK => ?_) ?_
            · go_simp
              refine HAN.out.mono ?_
              rintro e w4 ⟨v4, rfl, hv4, hg4⟩
              dsimp only
              have HV4 : Hid (OwnB w4 base v4 (xs ++ stB (l.take (j + 1)))) := hid (by rw [HS.out, HST.out, ← List.append_assoc, ← List.append_assoc]; exact hv4)
              have HG4 : Hid (Grow w w4 v v4) := hid (HG3.out.trans hg4)
              have B8d := hid (grow_blkB hg4 HV3.out B8c.out (by decide))
              have B9d := hid (grow_blkB hg4 HV3.out B9c.out (by decide))
              clear hv4 hg4 HG3 HV3 HAN B8c B9c
              try simp only [Act.put, List.getElem_toArray, List.getElem_cons_succ, List.getElem_cons_zero, List.setIfInBounds_toArray, List.set_cons_zero, List.set_cons_succ]
              refine hK.out _ _ ?_ (fun hHeld => ?_)
              · exact ⟨B8d.out.cellF, B9d.out.cellF⟩
              clear hK K
              try simp only [Act.put, List.getElem_toArray, List.getElem_cons_succ, List.getElem_cons_zero, List.setIfInBounds_toArray, List.set_cons_zero, List.set_cons_succ]
              refine wpAnyH_take (i := 10) (v := ?_) rfl (by kernel_rfl) (by kernel_rfl) (by kernel_rfl) (fun _ _ _ h => h) (Or.inl ⟨by rfl, ?_⟩) (by assumption) ?_
              rotate_left
              · (intro w hSw; (try dsimp only at hSw); go_simp; (try with_reducible rfl))
              try simp only [Act.put, List.getElem_toArray, List.getElem_cons_succ, List.getElem_cons_zero, List.setIfInBounds_toArray, List.set_cons_zero, List.set_cons_succ]
              refine wpAnyH_done (by kernel_rfl) ?_ _
              go_wp2
              exact ⟨⟨j + 1, by simp, by omega, HV4, HG4⟩, by simp [numAt]; omega⟩
            exact AllReadyH.nil
          exact AllReadyH.nil
        exact AllReadyH.nil
      exact AllReadyH.nil
    · have h2 : ¬ (j : Int) < (l.length : Int) := by omega
      obtain rfl : j = l.length := by omega
      go_wp2
      go_ret
      exact ⟨_, rfl, by simpa using HV.out, HG.out⟩
end Go.Proofs.YtidljnkalaklmaaDoor
namespace Go.Proofs.YtidljnkalaklmaaDoor
open Go.RowKit
set_option maxRecDepth 1000000
set_option linter.unusedVariables false
set_option linter.unusedSimpArgs false
set_option maxHeartbeats 1000000
theorem Tryd.info5c : (Tryd.prog.info? 5).map (fun i => (i.zero, i.size, i.bytes)) = some (some (.int .u8 0), 1, 1) := by kernel_rfl
theorem addFull (base : Nat) (g : Nat) (xs : List Int) (w : World) (a : Option Addr) (len cap : Nat) (ys : List Int) (ho : ∀ j u, (xs.map (Value.int .u8))[j]? = some u → w.cell? ⟨g, j, none⟩ = some u) (hb : base ≤ w.heap.size) (hr : W.Reads w a len cap ys) (h0 : 0 < ys.length) (hn : xs.length + ys.length ≤ 140737488355328) : ∃ v' w', Hid ((Builtin.append_ #[22, 22] 22 #[.slice (some ⟨g, 0, none⟩) xs.length xs.length, .slice a len cap]).run Tryd.prog w = .ok v' w') ∧ Hid (OwnB w' base v' (xs ++ ys)) ∧ Hid (Below w.heap.size w w') := by
  obtain ⟨i0, hi, hz0, hz1, hz2⟩ := info_parts Tryd.info5c
  have e := hr.length
  cases a with
  | none =>
    obtain ⟨rfl, rfl, rfl⟩ := W.reads_none hr
    simp at h0
  | some x =>
    have hadd : ∀ j, (⟨g, 0, none⟩ : Addr).add j = ⟨g, j, none⟩ := fun j => by unfold Addr.add; split <;> simp_all
    have hrun := run_append_grow (P := Tryd.prog) w 22 22 5 i0 (.int .u8 0) Tryd.underlying22 hi hz0 ⟨g, 0, none⟩ xs.length xs.length (xs.map (Value.int .u8)) (by rw [List.length_map, hz1, Nat.mul_one]) (fun j u hu => by rw [hadd]; exact ho j u hu) x len cap (ys.map (Value.int .u8)) (by rw [List.length_map, e, hz1, Nat.mul_one]) (W.reads_src hr) (by omega) (by omega) (growslice_fits (by omega) (by rw [hz2, Nat.mul_one]; omega))
    have hge := grownCap_ge w (xs.length + len) xs.length 5
    have hcm : grownCap w (xs.length + len) xs.length 5 ≤ maxLen := grownCap_le_maxLen w (xs.length + len) xs.length 5 (by unfold maxLen; omega)
    refine ⟨_, _, hid hrun, hid ?_, hid ?_⟩
    · unfold OwnB
      rw [List.length_append, e]
      refine ⟨by rw [List.length_map, List.length_append, e, Nat.mul_one], .inr ⟨w.heap.size, _, _, rfl, hb, heap_alloc_new w.drew _, hge, hcm, ?_, ?_⟩⟩
      · simp only [Array.size_append, List.size_toArray, size_zeroCells, List.length_map, e, Nat.mul_one]
        show xs.length + len + _ * 1 = _
        omega
      · simp only [Array.toList_append, List.append_assoc, List.map_append, Nat.mul_one]
        rw [← List.append_assoc, List.take_left']
        rw [List.length_append, List.length_map, List.length_map, e]
    · exact bl_alloc (below_drew1 _) _
theorem addFirstT (w : World) (base g : Nat) (hb : base ≤ w.heap.size) (h0 : w.cell? ⟨g, 0, none⟩ = some (.int .u8 67)) (h1 : w.cell? ⟨g, 1, none⟩ = some (.int .u8 84)) (n : Int) (hn : 0 ≤ n ∧ n ≤ 9223372036854775807) (b : Nat) (hB : Blk w b 3 #[.int .i64 n]) :
    Calls Tryd.prog 22 #[.slice (some ⟨g, 0, none⟩) 2 2, .slice (some ⟨b, 0, none⟩) 1 1] w fun e w' => ∃ v', e = .returned v' ∧ OwnB w' base v' ([67, 84] ++ nvB [n]) ∧ Below w.heap.size w w' := by
  have x := hB.cellF
  have z := hB.lt
  have hw : IntKind.u64.wrap n = n := by
    simp [IntKind.wrap, IntKind.bits, IntKind.signed]
    omega
  have HP := hid fun W0 => W.putvWr n W0 hn.1 (by omega)
  have HPL := hid (W.pv_len n)
  have HC : Hid (∀ W0, Below w.heap.size w W0 → ∀ j u, (([67, 84] : List Int).map (Value.int .u8))[j]? = some u → W0.cell? ⟨g, j, none⟩ = some u) := hid (fun W0 hW j u hu => by
    match j, hu with
    | 0, hu => cases hu; exact cell_below h0 hW
    | 1, hu => cases hu; exact cell_below h1 hW)
  have HB := hid hb
  clear h0 h1 hb hB
  go_enter Tryd.func22, Tryd.ntmps22
  go_wp2
  go_loopw [0, 9] (fun s0 s9 wr => (s9 = .int .i64 0 ∧ s0 = .slice (some ⟨g, 0, none⟩) 2 2 ∧ wr = w) ∨ (s9 = .int .i64 1 ∧ Hid (OwnB wr base s0 ([67, 84] ++ nvB [n])) ∧ Hid (Below w.heap.size w wr))) (fun s0 s9 wr => 1 - numAt wr s9)
  case atStart => exact .inl ⟨rfl, rfl, rfl⟩
  case round =>
    rcases hrel with ⟨rfl, rfl, rfl⟩ | ⟨rfl, HV, hb⟩
    · go_wp2_with fail
      refine (HP.out _).mono ?_
      rintro e w1 ⟨a, cap, rfl, hrd, hb1⟩
      obtain ⟨v', w2, HRUN, HV2, HB2⟩ := addFull base g [67, 84] w1 a _ cap (W.pv n) (HC.out _ hb1) (by have := HB.out; have := hb1.size; omega) hrd (by have := HPL.out.1; omega) (by have := HPL.out.2; simp only [List.length_cons, List.length_nil]; omega)
      replace HV2 : Hid (OwnB w2 base v' ([67, 84] ++ nvB [n])) := hid (by
        have e : nvB [n] = W.pv n := by unfold nvB; simp
        rw [e]
        exact HV2.out)
      replace HB2 := hid (bl_then hb1 HB2.out)
      simp only [List.length_cons, List.length_nil, Nat.zero_add, Nat.reduceAdd] at HRUN
      clear hb1 hrd HP HPL HC
      generalize (W.pv n).length = q at *
      go_wp2_with (first | (at_builtin; refine wpList_append_ran rfl (.tmp 13) (.tmp 16) 22 22 rfl rfl (.slice (some ⟨g, 0, none⟩) 2 2) (.slice a q cap) v' w2 rfl rfl HRUN.out ?_))
      exact ⟨.inr ⟨by simp, HV2, HB2⟩, by simp [numAt]⟩
    · go_wp2
      go_ret
      exact ⟨_, rfl, HV.out, hb.out⟩
end Go.Proofs.YtidljnkalaklmaaDoor
