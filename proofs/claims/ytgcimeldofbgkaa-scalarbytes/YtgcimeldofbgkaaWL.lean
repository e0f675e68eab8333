/-
  Walks over reading chunks, the program's and the document's.
-/
import Derived.Test.YtgcimeldofbgkaaWK
import Derived.Laws.CopyOwn
namespace Go.Proofs.Ytgcimeldofbgkaa
open Go.RowKit
set_option maxRecDepth 1000000

theorem getChunkOut (a : Option Addr) (len cap : Nat) (p : Int) (w : World) (hl : len ≤ 9223372036854775807) (hp : p < 0 ∨ (len : Int) < p) :
    Calls Try.prog 37 #[.slice a len cap, .int .i64 p] w fun e w' => e = .returned (.tuple #[.slice none 0 0, .int .i64 0, .int .i64 18]) ∧ w = w' := by
  have H := hid hp
  clear hp
  go_enter Try.func37, Try.ntmps37
  go_wp2_with (go_at_call 60; refine (getvOut _ _ _ _ _ hl H.out).mono ?_; rintro e w' ⟨rfl, rfl⟩)
  go_ret3
  exact ⟨rfl, rfl⟩

set_option maxHeartbeats 400000 in
theorem getChunkErr (a : Option Addr) (len cap p : Nat) (N nx er : Int) (w : World) (HV : Hid (Calls Try.prog 60 #[.slice a len cap, .int .i64 p] w fun e w' => e = .returned (.tuple #[.int .u64 N, .int .i64 nx, .int .i64 er]) ∧ w = w')) (he : (er != 0) = true) :
    Calls Try.prog 37 #[.slice a len cap, .int .i64 p] w fun e w' => e = .returned (.tuple #[.slice none 0 0, .int .i64 0, .int .i64 er]) ∧ w = w' := by
  go_enter Try.func37, Try.ntmps37
  go_wp2_with (go_at_call 60; refine HV.out.mono ?_; rintro e w' ⟨rfl, rfl⟩)
  go_ret3
  exact ⟨rfl, rfl⟩

set_option maxHeartbeats 400000 in
theorem getChunkFar (a : Option Addr) (len cap p : Nat) (N nx : Int) (w : World) (HV : Hid (Calls Try.prog 60 #[.slice a len cap, .int .i64 p] w fun e w' => e = .returned (.tuple #[.int .u64 N, .int .i64 nx, .int .i64 0]) ∧ w = w')) (hl : len ≤ 9223372036854775807) (h0 : 0 ≤ nx) (h1 : nx ≤ len) (hf : (len : Int) - nx < N) :
    Calls Try.prog 37 #[.slice a len cap, .int .i64 p] w fun e w' => e = .returned (.tuple #[.slice none 0 0, .int .i64 0, .int .i64 3]) ∧ w = w' := by
  go_enter Try.func37, Try.ntmps37
  go_wp2_with (go_at_call 60; refine HV.out.mono ?_; rintro e w' ⟨rfl, rfl⟩)
  go_ret3
  exact ⟨rfl, rfl⟩

set_option maxHeartbeats 400000 in
theorem getChunkIn (b off len cap p n f : Nat) (w : World) (HV : Hid (Calls Try.prog 60 #[.slice (some ⟨b, off, none⟩) len cap, .int .i64 p] w fun e w' => e = .returned (.tuple #[.int .u64 n, .int .i64 f, .int .i64 0]) ∧ w = w')) (hlc : len ≤ cap) (_hm : cap ≤ 9223372036854775807) (hn : 1 ≤ n) (hf : f + n ≤ len) (hreach : len ≤ 140737488355328) (xs : List Int) (hl : xs.length = len)
    (hc : ∀ i, i < len → w.cell? ⟨b, off + i, none⟩ = some (.int .u8 (xs.getD i 0))) :
    Calls Try.prog 37 #[.slice (some ⟨b, off, none⟩) len cap, .int .i64 p] w fun e w' => ∃ v, e = .returned (.tuple #[v, .int .i64 (f + n), .int .i64 0]) ∧ w'.ownsRow w.heap.size 5 1 v n (((xs.drop f).take n).map (Value.int .u8)) ∧ Below w.heap.size w w' := by
  obtain ⟨i0, hi, hz0, hz1, hz2⟩ := info_parts Try.info5
  obtain ⟨w1, hrun, hown, hgr⟩ := run_make_full (P := Try.prog) w w.heap.size 23 5 i0 (.int .u8 0) 1 Try.underlying23 hi hz0 hz1 .u64 .u64 n (by rw [hz2]; omega) (by unfold maxLen; omega) (Nat.le_refl _)
  have hsz := hgr.size
  have hbw : Below w.heap.size w w1 := Below.grown (Below.refl _ _) hgr (Nat.le_refl _) (fun k hk => by cases hk)
  obtain ⟨cur, hg, hcs⟩ : ∃ cur, w1.heap[w.heap.size]? = some (.cells cur 5 (0, 0)) ∧ cur.size = n := by
    rcases hown.2 with ⟨h, _⟩ | ⟨g, c2, cur, hv, hbg, hg, hnc, hcm, hcs, htake⟩
    · cases h
    · simp only [Value.slice.injEq, Option.some.injEq, Addr.mk.injEq] at hv
      obtain ⟨⟨rfl, _⟩, _, rfl⟩ := hv
      exact ⟨cur, hg, by omega⟩
  have hcl : ((xs.drop f).take n).length = n := by simp; omega
  have HC : Hid (∀ j v, (((xs.drop f).take n).map (Value.int .u8))[j]? = some v → w1.cell? ((⟨b, off + f, none⟩ : Addr).add j) = some v) := by
    intro j v hv
    have hj : j < n := by
      rcases Nat.lt_or_ge j n with h' | h'
      · exact h'
      · rw [List.getElem?_eq_none (by simp; omega)] at hv; cases hv
    have hadd : (⟨b, off + f, none⟩ : Addr).add j = ⟨b, off + (f + j), none⟩ := by unfold Addr.add; split <;> simp_all [Nat.add_assoc]
    have hcj := hc (f + j) (by omega)
    rw [hadd, hbw.cell (p := ⟨b, off + (f + j), none⟩) (World.block_lt_of_cell? _ _ hcj), hcj]
    rw [← hv, List.getElem?_map, List.getElem?_take, if_pos hj, List.getElem?_drop, List.getElem?_eq_getElem (by omega)]
    simp [show f + j < xs.length by omega]
  have HG := hid hg
  have HI : Hid ((Try.prog.info? 5).map (·.size) = some 1) := by show _ = _; rw [hi]; simp [hz1]
  have HCL := hid hcl
  have HCS := hid hcs
  have HBW := hid hbw
  clear hc hg hown hgr hcl hcs hbw
  go_enter Try.func37, Try.ntmps37
  go_wp2_with fail
  refine HV.out.mono ?_
  rintro e w' ⟨rfl, rfl⟩
  go_wp2_with (refine wpList_copy_own rfl _ _ 23 23 rfl 5 Try.underlying23 HI.out w.heap.size 0 n n ⟨b, off + f, none⟩ (f + n - f) (cap - f) rfl rfl cur 5 HG.out (((xs.drop f).take n).map (Value.int .u8)) (by rw [List.length_map, HCL.out]; simp) HC.out (by rw [List.length_map, HCL.out, HCS.out]; omega) (one_u8 _) ?_)
  go_ret3
  refine ⟨_, rfl, ⟨by rw [List.length_map, HCL.out]; omega, .inr ⟨w.heap.size, n, _, rfl, Nat.le_refl _, setRow_heap _ _ _ _ _ _ HG.out, Nat.le_refl _, by unfold maxLen; omega, ?_, ?_⟩⟩, below_setRow HBW.out (Nat.le_refl _) _⟩
  · simp [HCS.out]; omega
  · rw [Nat.mul_one]
    have e1 : (((xs.drop f).take n).map (Value.int .u8)).length = n := by rw [List.length_map, HCL.out]
    rw [← List.map_drop, ← List.map_take]
    exact List.take_left' e1

set_option maxHeartbeats 400000 in
theorem getChunkNone (a : Option Addr) (len cap p f : Nat) (w : World) (HV : Hid (Calls Try.prog 60 #[.slice a len cap, .int .i64 p] w fun e w' => e = .returned (.tuple #[.int .u64 0, .int .i64 f, .int .i64 0]) ∧ w = w')) (ha : a = none → cap = 0) (hlc : len ≤ cap) (hm : cap ≤ 9223372036854775807) (hf : f ≤ len) :
    Calls Try.prog 37 #[.slice a len cap, .int .i64 p] w fun e w' => ∃ v, e = .returned (.tuple #[v, .int .i64 f, .int .i64 0]) ∧ w'.ownsRow w.heap.size 5 1 v 0 [] ∧ Below w.heap.size w w' := by
  obtain ⟨i0, hi, hz0, hz1, hz2⟩ := info_parts Try.info5
  obtain ⟨w1, hrun, hown, hgr⟩ := run_make_full (P := Try.prog) w w.heap.size 23 5 i0 (.int .u8 0) 1 Try.underlying23 hi hz0 hz1 .u64 .u64 0 (by rw [hz2]; omega) (by unfold maxLen; omega) (Nat.le_refl _)
  have hrun0 : (Instr.makeSlice 23 (.int .u64 0) (.int .u64 0)).run Try.prog w = .ok (.slice (some ⟨w.heap.size, 0, none⟩) 0 0) w1 := hrun
  have hown0 : w1.ownsRow w.heap.size 5 1 (.slice (some ⟨w.heap.size, 0, none⟩) 0 0) 0 [] := by simpa [madeCells] using hown
  have HO := hid hown0
  have HBW : Hid (Below w.heap.size w w1) := Below.grown (Below.refl _ _) hgr (Nat.le_refl _) (fun k hk => by cases hk)
  have HI : Hid ((Try.prog.info? 5).map (·.size) = some 1) := by show _ = _; rw [hi]; simp [hz1]
  clear hrun hown hown0 hgr
  cases a with
  | none =>
    have := ha rfl
    subst this
    obtain rfl : len = 0 := by omega
    obtain rfl : f = 0 := by omega
    clear ha
    go_enter Try.func37, Try.ntmps37
    go_wp2_with fail
    refine HV.out.mono ?_
    rintro e w' ⟨rfl, rfl⟩
    go_wp2_with (refine wpList_copy_nothing rfl _ _ 23 23 rfl 5 Try.underlying23 HI.out _ _ _ _ _ _ rfl rfl rfl ?_)
    go_ret3
    exact ⟨_, rfl, HO.out, HBW.out⟩
  | some x =>
    clear ha
    obtain ⟨b, off, spot⟩ := x
    go_enter Try.func37, Try.ntmps37
    go_wp2_with fail
    refine HV.out.mono ?_
    rintro e w' ⟨rfl, rfl⟩
    go_wp2_with (refine wpList_copy_nothing rfl _ _ 23 23 rfl 5 Try.underlying23 HI.out _ _ _ _ _ _ rfl rfl (by simp) ?_)
    all_goals
      go_ret3
      exact ⟨_, rfl, HO.out, HBW.out⟩

/-- GetChunk at a place of a slice that can be read. -/
theorem getChunkW (a : Option Addr) (len cap p : Nat) (xs : List Int) (w : World) (h : Reads w a len cap xs) (hp : p ≤ len) (hreach : len ≤ 140737488355328) :
    Calls Try.prog 37 #[.slice a len cap, .int .i64 p] w fun e w' => ∃ v, e = .returned (.tuple #[v, .int .i64 (gc xs p).2.1, .int .i64 (gc xs p).2.2]) ∧ w'.ownsRow w.heap.size 5 1 v (gc xs p).1.length ((gc xs p).1.map (Value.int .u8)) ∧ Below w.heap.size w w' := by
  have hv := getvW a len cap p xs w h hp
  have hb := gv_bd (bd_mem h.bd) p
  have hlen := h.length
  have hnx := gv_next (xs := xs) (p := p) (by omega)
  unfold gc
  generalize gv xs p = g at hv hb hnx
  obtain ⟨N, nx, er⟩ := g
  simp only [] at hb hv hnx
  cases he : (er != 0) with
  | true =>
    rw [gcF_err (by exact he)]
    refine (getChunkErr a len cap p N nx er w hv he).mono ?_
    rintro e w' ⟨rfl, rfl⟩
    exact ⟨_, rfl, World.ownsRow_nil _ _ _ _, Below.refl _ _⟩
  | false =>
    have he0 : er = 0 := by simpa using he
    subst he0
    have hnx := hnx rfl
    by_cases hfar : (xs.length : Int) - nx < N
    · rw [gcF_far (by rfl) hfar]
      refine (getChunkFar a len cap p N nx w hv (Nat.le_trans h.le h.max) (by omega) (by omega) (by omega)).mono ?_
      rintro e w' ⟨rfl, rfl⟩
      exact ⟨_, rfl, World.ownsRow_nil _ _ _ _, Below.refl _ _⟩
    · rw [gcF_ok (by rfl) hfar]
      obtain ⟨n, rfl⟩ := Int.eq_ofNat_of_zero_le hb.1
      obtain ⟨f, rfl⟩ := Int.eq_ofNat_of_zero_le (show 0 ≤ nx by omega)
      simp only [Int.toNat_natCast]
      by_cases hn : n = 0
      · subst hn
        refine (getChunkNone a len cap p f w hv (fun e => ?_) h.le h.max (by omega)).mono ?_
        · rcases h.cells with ⟨_, h2⟩ | ⟨b, off, rfl, _⟩
          · exact h2 e
          · cases e
        · rintro e w' ⟨v, rfl, ho, hb'⟩
          exact ⟨v, by simp, by simpa using ho, hb'⟩
      · rcases h.cells with ⟨h0, _⟩ | ⟨b, off, rfl, hc⟩
        · omega
        · refine (getChunkIn b off len cap p n f w hv h.le h.max (by omega) (by omega) hreach xs h.length hc).mono ?_
          rintro e w' ⟨v, rfl, ho, hb'⟩
          have hl2 : ((xs.drop f).take n).length = n := by simp; omega
          exact ⟨v, rfl, by rw [hl2]; exact ho, hb'⟩

set_option maxHeartbeats 400000 in
theorem refChunkErr (a : Option Addr) (len cap p : Nat) (N nx er : Int) (w : World) (HV : Hid (Calls Try.prog 45 #[.slice a len cap, .int .i64 p] w fun e w' => e = .returned (.tuple #[.int .u64 N, .int .i64 nx, .int .i64 er]) ∧ w = w')) (he : (er != 0) = true) :
    Calls Try.prog 48 #[.slice a len cap, .int .i64 p] w fun e w' => e = .returned (.tuple #[.slice none 0 0, .int .i64 0, .int .i64 er]) ∧ w = w' := by
  go_enter Try.func48, Try.ntmps48
  go_wp2_with (go_at_call 45; refine HV.out.mono ?_; rintro e w' ⟨rfl, rfl⟩)
  go_ret3
  exact ⟨rfl, rfl⟩

set_option maxHeartbeats 400000 in
theorem refChunkFar (a : Option Addr) (len cap p : Nat) (N nx : Int) (w : World) (HV : Hid (Calls Try.prog 45 #[.slice a len cap, .int .i64 p] w fun e w' => e = .returned (.tuple #[.int .u64 N, .int .i64 nx, .int .i64 0]) ∧ w = w')) (hl : len ≤ 9223372036854775807) (h0 : 0 ≤ nx) (h1 : nx ≤ len) (hf : (len : Int) - nx < N) :
    Calls Try.prog 48 #[.slice a len cap, .int .i64 p] w fun e w' => e = .returned (.tuple #[.slice none 0 0, .int .i64 0, .int .i64 3]) ∧ w = w' := by
  go_enter Try.func48, Try.ntmps48
  go_wp2_with (go_at_call 45; refine HV.out.mono ?_; rintro e w' ⟨rfl, rfl⟩)
  go_ret3
  exact ⟨rfl, rfl⟩

set_option maxHeartbeats 400000 in
theorem refChunkIn (b off len cap p n f : Nat) (w : World) (HV : Hid (Calls Try.prog 45 #[.slice (some ⟨b, off, none⟩) len cap, .int .i64 p] w fun e w' => e = .returned (.tuple #[.int .u64 n, .int .i64 f, .int .i64 0]) ∧ w = w')) (hlc : len ≤ cap) (_hm : cap ≤ 9223372036854775807) (hn : 1 ≤ n) (hf : f + n ≤ len) (hreach : len ≤ 140737488355328) (xs : List Int) (hl : xs.length = len)
    (hc : ∀ i, i < len → w.cell? ⟨b, off + i, none⟩ = some (.int .u8 (xs.getD i 0))) :
    Calls Try.prog 48 #[.slice (some ⟨b, off, none⟩) len cap, .int .i64 p] w fun e w' => ∃ v, e = .returned (.tuple #[v, .int .i64 (f + n), .int .i64 0]) ∧ w'.ownsRow w.heap.size 5 1 v n (((xs.drop f).take n).map (Value.int .u8)) ∧ Below w.heap.size w w' := by
  obtain ⟨i0, hi, hz0, hz1, hz2⟩ := info_parts Try.info5
  have hcl : ((xs.drop f).take n).length = n := by simp; omega
  have HC : Hid (∀ j v, (((xs.drop f).take n).map (Value.int .u8))[j]? = some v → w.cell? ((⟨b, off + f, none⟩ : Addr).add j) = some v) := by
    intro j v hv
    have hj : j < n := by
      rcases Nat.lt_or_ge j n with h' | h'
      · exact h'
      · rw [List.getElem?_eq_none (by simp; omega)] at hv; cases hv
    have hadd : (⟨b, off + f, none⟩ : Addr).add j = ⟨b, off + (f + j), none⟩ := by unfold Addr.add; split <;> simp_all [Nat.add_assoc]
    have hcj := hc (f + j) (by omega)
    rw [hadd, hcj]
    rw [← hv, List.getElem?_map, List.getElem?_take, if_pos hj, List.getElem?_drop, List.getElem?_eq_getElem (by omega)]
    simp [show f + j < xs.length by omega]
  have HCL := hid hcl
  have hnil := World.ownsRow_nil w w.heap.size 5 1
  clear hc hcl
  go_enter Try.func48, Try.ntmps48
  go_wp2_with fail
  refine HV.out.mono ?_
  rintro e w' ⟨rfl, rfl⟩
  go_wp2_with (first | (at_builtin; refine wpList_append_own _ rfl _ _ 23 rfl w.heap.size 5 i0 (.int .u8 0) 1 1 Try.underlying23 hi hz0 hz1 hz2 rfl (by decide) _ _ _ rfl hnil ⟨b, off + f, none⟩ n (cap - f) (((xs.drop f).take n).map (Value.int .u8)) (by simp [Act.eval]) (by rw [List.length_map, HCL.out, Nat.mul_one]) HC.out (one_u8 _) (by unfold maxLen; omega) (by omega) (by omega) ?_; intro v' w3 hown' hgrow3 hnil3))
  go_ret3
  exact ⟨v', rfl, by simpa using hown', Below.grown (Below.refl _ _) hgrow3 (Nat.le_refl _) (fun k hk => by cases hk)⟩

set_option maxHeartbeats 400000 in
theorem refChunkNone (a : Option Addr) (len cap p f : Nat) (w : World) (HV : Hid (Calls Try.prog 45 #[.slice a len cap, .int .i64 p] w fun e w' => e = .returned (.tuple #[.int .u64 0, .int .i64 f, .int .i64 0]) ∧ w = w')) (ha : a = none → cap = 0) (hlc : len ≤ cap) (hm : cap ≤ 9223372036854775807) (hf : f ≤ len) :
    Calls Try.prog 48 #[.slice a len cap, .int .i64 p] w fun e w' => ∃ v, e = .returned (.tuple #[v, .int .i64 f, .int .i64 0]) ∧ w'.ownsRow w.heap.size 5 1 v 0 [] ∧ Below w.heap.size w w' := by
  obtain ⟨i0, hi, hz0, hz1, hz2⟩ := info_parts Try.info5
  have hnil := World.ownsRow_nil w w.heap.size 5 1
  cases a with
  | none =>
    have := ha rfl
    subst this
    obtain rfl : len = 0 := by omega
    obtain rfl : f = 0 := by omega
    clear ha
    go_enter Try.func48, Try.ntmps48
    go_wp2_with fail
    refine HV.out.mono ?_
    rintro e w' ⟨rfl, rfl⟩
    go_wp2_with (first | (at_builtin; refine wpList_append_own_none rfl _ _ 23 rfl w.heap.size 5 i0 1 Try.underlying23 hi _ _ _ rfl hnil rfl ?_))
    go_ret3
    exact ⟨_, rfl, hnil, Below.refl _ _⟩
  | some x =>
    clear ha
    obtain ⟨b, off, spot⟩ := x
    by_cases hcf : cap = f
    · subst hcf
      obtain rfl : len = cap := by omega
      go_enter Try.func48, Try.ntmps48
      go_wp2_with fail
      refine HV.out.mono ?_
      rintro e w' ⟨rfl, rfl⟩
      go_wp2_with (first | (at_builtin; refine wpList_append_own _ rfl _ _ 23 rfl w.heap.size 5 i0 (.int .u8 0) 1 1 Try.underlying23 hi hz0 hz1 hz2 rfl (by decide) _ _ _ rfl hnil ⟨b, off, spot⟩ 0 0 [] rfl rfl (by intro j u h; cases h) (by intro u h; cases h) (by unfold maxLen; omega) (by omega) (by omega) ?_; intro v' w3 hown' hgrow3 hnil3))
      go_ret3
      exact ⟨v', rfl, by simpa using hown', Below.grown (Below.refl _ _) hgrow3 (Nat.le_refl _) (fun k hk => by cases hk)⟩
    · go_enter Try.func48, Try.ntmps48
      go_wp2_with fail
      refine HV.out.mono ?_
      rintro e w' ⟨rfl, rfl⟩
      go_wp2_with (first | (at_builtin; refine wpList_append_own _ rfl _ _ 23 rfl w.heap.size 5 i0 (.int .u8 0) 1 1 Try.underlying23 hi hz0 hz1 hz2 rfl (by decide) _ _ _ rfl hnil ((⟨b, off, spot⟩ : Addr).add f) 0 (cap - f) [] rfl rfl (by intro j u h; cases h) (by intro u h; cases h) (by unfold maxLen; omega) (by omega) (by omega) ?_; intro v' w3 hown' hgrow3 hnil3))
      go_ret3
      exact ⟨v', rfl, by simpa using hown', Below.grown (Below.refl _ _) hgrow3 (Nat.le_refl _) (fun k hk => by cases hk)⟩

/-- The document's GetChunk likewise. -/
theorem getChunkR (a : Option Addr) (len cap p : Nat) (xs : List Int) (w : World) (h : Reads w a len cap xs) (hp : p ≤ len) (hreach : len ≤ 140737488355328) :
    Calls Try.prog 48 #[.slice a len cap, .int .i64 p] w fun e w' => ∃ v, e = .returned (.tuple #[v, .int .i64 (gc xs p).2.1, .int .i64 (gc xs p).2.2]) ∧ w'.ownsRow w.heap.size 5 1 v (gc xs p).1.length ((gc xs p).1.map (Value.int .u8)) ∧ Below w.heap.size w w' := by
  have hv := getvR a len cap p xs w h hp
  have hb := gv_bd (bd_mem h.bd) p
  have hlen := h.length
  have hnx := gv_next (xs := xs) (p := p) (by omega)
  unfold gc
  generalize gv xs p = g at hv hb hnx
  obtain ⟨N, nx, er⟩ := g
  simp only [] at hb hv hnx
  cases he : (er != 0) with
  | true =>
    rw [gcF_err (by exact he)]
    refine (refChunkErr a len cap p N nx er w hv he).mono ?_
    rintro e w' ⟨rfl, rfl⟩
    exact ⟨_, rfl, World.ownsRow_nil _ _ _ _, Below.refl _ _⟩
  | false =>
    have he0 : er = 0 := by simpa using he
    subst he0
    have hnx := hnx rfl
    by_cases hfar : (xs.length : Int) - nx < N
    · rw [gcF_far (by rfl) hfar]
      refine (refChunkFar a len cap p N nx w hv (Nat.le_trans h.le h.max) (by omega) (by omega) (by omega)).mono ?_
      rintro e w' ⟨rfl, rfl⟩
      exact ⟨_, rfl, World.ownsRow_nil _ _ _ _, Below.refl _ _⟩
    · rw [gcF_ok (by rfl) hfar]
      obtain ⟨n, rfl⟩ := Int.eq_ofNat_of_zero_le hb.1
      obtain ⟨f, rfl⟩ := Int.eq_ofNat_of_zero_le (show 0 ≤ nx by omega)
      simp only [Int.toNat_natCast]
      by_cases hn : n = 0
      · subst hn
        refine (refChunkNone a len cap p f w hv (fun e => ?_) h.le h.max (by omega)).mono ?_
        · rcases h.cells with ⟨_, h2⟩ | ⟨b, off, rfl, _⟩
          · exact h2 e
          · cases e
        · rintro e w' ⟨v, rfl, ho, hb'⟩
          exact ⟨v, by simp, by simpa using ho, hb'⟩
      · rcases h.cells with ⟨h0, _⟩ | ⟨b, off, rfl, hc⟩
        · omega
        · refine (refChunkIn b off len cap p n f w hv h.le h.max (by omega) (by omega) hreach xs h.length hc).mono ?_
          rintro e w' ⟨v, rfl, ho, hb'⟩
          have hl2 : ((xs.drop f).take n).length = n := by simp; omega
          exact ⟨v, rfl, by rw [hl2]; exact ho, hb'⟩

theorem gc_bd {xs : List Int} (h : ∀ x ∈ xs, 0 ≤ x ∧ x ≤ 255) (p : Nat) : ∀ x ∈ (gc xs p).1, 0 ≤ x ∧ x ≤ 255 := by
  unfold gc gcF
  intro x hx
  split at hx
  · simp at hx
  · split at hx
    · simp at hx
    · exact h x (List.mem_of_mem_drop (List.mem_of_mem_take hx))
theorem getChunkWr (a : Option Addr) (len cap p : Nat) (xs : List Int) (w : World) (h : Reads w a len cap xs) (hp : p ≤ len) (hreach : len ≤ 140737488355328) :
    Calls Try.prog 37 #[.slice a len cap, .int .i64 p] w fun e w' => ∃ b c, e = .returned (.tuple #[.slice b (gc xs p).1.length c, .int .i64 (gc xs p).2.1, .int .i64 (gc xs p).2.2]) ∧ Reads w' b (gc xs p).1.length c (gc xs p).1 ∧ Below w.heap.size w w' := by
  refine (getChunkW a len cap p xs w h hp hreach).mono ?_
  rintro e w' ⟨v, rfl, ho, hb⟩
  obtain ⟨b, c, rfl, hr⟩ := own_reads ho (gc_bd (bd_mem h.bd) p)
  exact ⟨b, c, rfl, hr, hb⟩
theorem getChunkRr (a : Option Addr) (len cap p : Nat) (xs : List Int) (w : World) (h : Reads w a len cap xs) (hp : p ≤ len) (hreach : len ≤ 140737488355328) :
    Calls Try.prog 48 #[.slice a len cap, .int .i64 p] w fun e w' => ∃ b c, e = .returned (.tuple #[.slice b (gc xs p).1.length c, .int .i64 (gc xs p).2.1, .int .i64 (gc xs p).2.2]) ∧ Reads w' b (gc xs p).1.length c (gc xs p).1 ∧ Below w.heap.size w w' := by
  refine (getChunkR a len cap p xs w h hp hreach).mono ?_
  rintro e w' ⟨v, rfl, ho, hb⟩
  obtain ⟨b, c, rfl, hr⟩ := own_reads ho (gc_bd (bd_mem h.bd) p)
  exact ⟨b, c, rfl, hr, hb⟩
end Go.Proofs.Ytgcimeldofbgkaa
