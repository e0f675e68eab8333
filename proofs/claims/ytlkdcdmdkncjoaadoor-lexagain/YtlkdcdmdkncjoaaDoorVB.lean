/-
  P4.2 without the document's own places: the law's walk.
-/
import Derived.Test.YtlkdcdmdkncjoaaDoorVA
import Derived.Test.YtlkdcdmdkncjoaaDoorYN
import Derived.Test.YtlkdcdmdkncjoaaDoorGX
import Derived.BigQuiet
namespace Go.Proofs.YtlkdcdmdkncjoaaDoor
open Go.RowKit
set_option maxRecDepth 1000000
set_option maxHeartbeats 4000000
set_option linter.unusedVariables false
set_option linter.unusedSimpArgs false

theorem placesBad (s : ByteArray) (cd l c : Int) (w : World) (hc : cd ≠ 0) (hs : Sentinel w 2)
    (H1 : ∀ W : World, Sentinel W 2 → Calls Tryd.prog 7 #[.string s] W fun e w' => SplitG W ([], cd, l, c) e w') :
    Calls Tryd.prog 6 #[.string s] w fun e w' => e = .returned (.bool true) ∧ Below w.heap.size w w' := by
  have HS := hid hs
  replace H1 := hid H1
  clear hs
  go_enter Tryd.func6, Tryd.ntmps6
  go_wp2_with fail
  refine (awake4 _ HS.out).mono ?_
  rintro e w1 ⟨rfl, hb1⟩
  have HB := hid hb1
  clear hb1
  go_wp2_with fail
  refine (H1.out _ (HS.out.kept HB.out)).mono ?_
  rintro e w2 ⟨a, k, rfl, hr, hb2⟩
  replace HB := hid (below_trans HB.out hb2)
  clear hb2 hr
  go_wp2
  go_ret
  exact ⟨rfl, below_trans HB.out (below_alloc _)⟩
theorem placesGood (xs : List Int) (ws : List Wd) (q : Nat) (w : World) (hb : ∀ x ∈ xs, 0 ≤ x ∧ x ≤ 255) (hl : xs.length ≤ 65536) (hc : Ch xs 0 ws) (hq : ws.length = q + 1) (hs : Sentinel w 2)
    (H1 : ∀ W : World, Sentinel W 2 → Calls Tryd.prog 7 #[.string (strOfNums xs)] W fun e w' => ∃ a c, e = .returned (.tuple #[.slice a (q + 1) c, .agg #[.int .i64 0, .int .i64 0, .int .i64 0, .int .i64 0]]) ∧ ReadsW w' a (q + 1) c (ws.map (mw xs)) ∧ Below W.heap.size W w') :
    Calls Tryd.prog 6 #[.string (strOfNums xs)] w fun e w' => e = .returned (.bool true) ∧ Below w.heap.size w w' := by
  have HS := hid hs
  have HC := hid hc
  have HBD := hid hb
  have HQ := hid hq
  replace H1 := hid H1
  have hsz : (strOfNums xs).size = xs.length := strOfNums_size xs
  clear hs hc hb hq
  go_enter Tryd.func6, Tryd.ntmps6
  go_wp2_with fail
  refine (awake4 _ HS.out).mono ?_
  rintro e w1 ⟨rfl, hb1⟩
  have HB := hid hb1
  clear hb1
  go_wp2_with fail
  refine (H1.out _ (HS.out.kept HB.out)).mono ?_
  rintro e w2 ⟨a, c, rfl, hr, hb2⟩
  replace HB := hid (below_trans HB.out hb2)
  have HR := hid (readsW_kept hr (below_alloc (.cells #[.int .i64 0, .int .i64 0, .int .i64 0, .int .i64 0] 25)))
  have hmx : q + 1 ≤ 9223372036854775807 := Nat.le_trans hr.le hr.max
  clear hb2 hr H1 HS
  replace HB := hid (below_trans HB.out (below_alloc (.cells #[.int .i64 0, .int .i64 0, .int .i64 0, .int .i64 0] 25)))
  rcases HR.out.cells with ⟨h, _⟩ | ⟨b, off, rfl, _⟩
  · omega
  go_wp2
  generalize (w2.alloc (.cells #[.int .i64 0, .int .i64 0, .int .i64 0, .int .i64 0] 25)) = w3 at *
  go_loopw [5, 6, 7, 8] (fun rl rc rk ra wr => ∃ (k i : Nat), i ≤ xs.length + 1 ∧ k ≤ q + 1 ∧ rl = .int .i64 (lnA xs i) ∧ rc = .int .i64 (clA xs i) ∧ rk = .int .i64 k ∧ ra = .int .i64 i ∧ Hid (Stp xs ws k i) ∧ Hid (Below w3.heap.size w3 wr)) (fun _ _ _ ra _ => xs.length + 1 - (intOf ra).toNat)
  case atStart => exact ⟨0, 0, by omega, by omega, rfl, rfl, rfl, rfl, hid (.inr HC.out), hid (Below.refl _ _)⟩
  case round =>
    obtain ⟨k, i, hi, hkq, rfl, rfl, rfl, rfl, hst, hbw⟩ := hrel
    by_cases hin : i ≤ xs.length
    · have hgr := readsW_kept HR.out hbw.out
      rcases hgr.cells with ⟨h, _⟩ | ⟨b', off', eb, hcs⟩
      · omega
      cases eb
      obtain ⟨x, hx, hx1, hx2, hor⟩ := stp_next hst.out hin
      have hk : k < q + 1 := by have := (List.getElem?_eq_some_iff.1 hx).1; rw [HQ.out] at this; exact this
      obtain ⟨sa, sc, p0, p1, _, _, p4, p5, _⟩ := hcs k (mw xs x) (by rw [List.getElem?_map, hx]; rfl)
      have hB1 : b < wr.heap.size := World.block_lt_of_cell? _ _ p0
      clear hcs hgr hx
      obtain ⟨kind, st, en, nn, bb⟩ := x
      dsimp only [mw] at p0 p1 p4 p5 hor hx1 hx2
      have hki : (k : Int) < ((q + 1 : Nat) : Int) := by omega
      have hk0 : (0 : Int) ≤ (k : Int) := by omega
      have hii : (i : Int) ≤ (xs.length : Int) := by omega
      have hln := lnA_bd xs i
      have hcl := clA_bd xs i
      have hstep : (i < xs.length ∧ bt xs i = 10 ∧ lnA xs (i + 1) = lnA xs i + 1 ∧ clA xs (i + 1) = 1) ∨ (i < xs.length ∧ bt xs i ≠ 10 ∧ lnA xs (i + 1) = lnA xs i ∧ clA xs (i + 1) = clA xs i + 1) ∨ (i = xs.length ∧ lnA xs (i + 1) = lnA xs i ∧ clA xs (i + 1) = clA xs i + 1) := by
        by_cases hn : i = xs.length
        · have h10 : bt xs i ≠ 10 := by rw [bt_end (by omega)]; decide
          exact .inr (.inr ⟨hn, lnA_on h10, clA_on h10⟩)
        · by_cases h10 : bt xs i = 10
          · exact .inl ⟨by omega, h10, lnA_nl h10, clA_nl h10⟩
          · exact .inr (.inl ⟨by omega, h10, lnA_on h10, clA_on h10⟩)
      have hix : i < xs.length → ∀ W : World, (Instr.index 9 (.string (strOfNums xs)) (.int .i64 (i : Int))).run Tryd.prog W = .ok (.int .u8 (bt xs i)) W := fun h => bt_index HBD.out i h .i64
      generalize hL' : lnA xs (i + 1) = L' at hstep
      generalize hC' : clA xs (i + 1) = C' at hstep
      generalize bt xs i = B at hstep hix
      rcases hor with ⟨he, hiff, hst'⟩ | ⟨hne, hst'⟩
      · subst he
        obtain ⟨m, rfl⟩ : ∃ m, en = st + m := ⟨en - st, by omega⟩
        have hS : (strOfNums xs).extract st (st + m) = strOfNums (cut xs st (st + m)) := str_cut xs st (st + m)
        have hSz : (strOfNums (cut xs st (st + m))).size = m := by rw [strOfNums_size, cut_length _ _ _ hx2]; omega
        generalize strOfNums (cut xs st (st + m)) = S at hS hSz p1
        generalize lnA xs st = L at *
        generalize clA xs st = C at *
        have hm1 : (st : Int) + (m : Int) ≤ (xs.length : Int) := by omega
        have hm2 : decide ((xs.length : Int) < (st : Int) + (m : Int)) = false := by simp; omega
        have hxor : (((m : Int) == 0) == (kind == 5)) = true := by
          have h2 : m = 0 ↔ kind = 5 := ⟨fun h => hiff.1 (by omega), fun h => by have := hiff.2 h; omega⟩
          by_cases h3 : m = 0
          · simp [h3, h2.1 h3]
          · have h4 : ¬ kind = 5 := fun h => h3 (h2.2 h)
            have h5 : ((m : Int) == 0) = false := by simp; omega
            have h6 : (kind == 5) = false := by simpa using h4
            rw [h5, h6]
            rfl
        clear hiff
        rcases hstep with ⟨h1, h2, rfl, rfl⟩ | ⟨h1, h2, rfl, rfl⟩ | ⟨h1, rfl, rfl⟩
        · have h1' : (st : Int) < (xs.length : Int) := by omega
          replace hix := hix h1
          subst h2
          go_wp2_with fail
          go_quiet (fail)
          go_wp2_with fail
          first
            | (refine ⟨⟨k + 1, st + 1, by omega, by omega, by rw [hL'], by rw [hC'], by go_num, by go_num, hid hst', hid (below_trans hbw.out (below_drewN _ _))⟩, by simp [intOf]; omega⟩)
            | (rename_i hx; exfalso; rw [hxor] at hx; cases hx)
          all_goals exact ⟨⟨k + 1, st + 1, by omega, by omega, by rw [hL'], by rw [hC'], by go_num, by go_num, hid hst', hid (below_trans hbw.out (below_drewN _ _))⟩, by simp [intOf]; omega⟩
        · have h1' : (st : Int) < (xs.length : Int) := by omega
          replace hix := hix h1
          have h2d : decide (B = 10) = false := by simpa using h2
          go_wp2_with fail
          go_quiet (fail)
          go_wp2_with fail
          first
            | (refine ⟨⟨k + 1, st + 1, by omega, by omega, by rw [hL'], by rw [hC'], by go_num, by go_num, hid hst', hid (below_trans hbw.out (below_drewN _ _))⟩, by simp [intOf]; omega⟩)
            | (rename_i hx; exfalso; rw [hxor] at hx; cases hx)
          all_goals exact ⟨⟨k + 1, st + 1, by omega, by omega, by rw [hL'], by rw [hC'], by go_num, by go_num, hid hst', hid (below_trans hbw.out (below_drewN _ _))⟩, by simp [intOf]; omega⟩
        · have h1' : decide ((st : Int) < (xs.length : Int)) = false := by simp; omega
          replace h1 : xs.length ≤ st := by omega
          have h1n : ¬ (st : Int) < (xs.length : Int) := by omega
          clear hix
          go_wp2_with fail
          go_quiet (fail)
          go_wp2_with fail
          first
            | (refine ⟨⟨k + 1, st + 1, by omega, by omega, by rw [hL'], by rw [hC'], by go_num, by go_num, hid hst', hid (below_trans hbw.out (below_drewN _ _))⟩, by simp [intOf]; omega⟩)
            | (rename_i hx; exfalso; rw [hxor] at hx; cases hx)
          all_goals exact ⟨⟨k + 1, st + 1, by omega, by omega, by rw [hL'], by rw [hC'], by go_num, by go_num, hid hst', hid (below_trans hbw.out (below_drewN _ _))⟩, by simp [intOf]; omega⟩
      · generalize lnA xs st = L1 at *
        generalize clA xs st = C1 at *
        generalize lnA xs i = L at *
        generalize clA xs i = C at *
        by_cases hL : L1 = L
        · have hC : ¬ C1 = C := fun h => hne ⟨hL, h⟩
          have hCd : decide (C1 = C) = false := by simpa using hC
          subst hL
          rcases hstep with ⟨h1, h2, rfl, rfl⟩ | ⟨h1, h2, rfl, rfl⟩ | ⟨h1, rfl, rfl⟩
          · have h1' : (i : Int) < (xs.length : Int) := by omega
            replace hix := hix h1
            subst h2
            go_wp2
            exact ⟨⟨k, i + 1, by omega, by omega, by rw [hL'], by rw [hC'], by first | rfl | go_num, by go_num, hid hst', hbw⟩, by simp [intOf]; omega⟩
          · have h1' : (i : Int) < (xs.length : Int) := by omega
            replace hix := hix h1
            have h2d : decide (B = 10) = false := by simpa using h2
            go_wp2
            exact ⟨⟨k, i + 1, by omega, by omega, by rw [hL'], by rw [hC'], by first | rfl | go_num, by go_num, hid hst', hbw⟩, by simp [intOf]; omega⟩
          · have h1' : decide ((i : Int) < (xs.length : Int)) = false := by simp; omega
            replace h1 : xs.length ≤ i := by omega
            have h1n : ¬ (i : Int) < (xs.length : Int) := by omega
            clear hix
            go_wp2
            exact ⟨⟨k, i + 1, by omega, by omega, by rw [hL'], by rw [hC'], by first | rfl | go_num, by go_num, hid hst', hbw⟩, by simp [intOf]; omega⟩
        · have hLd : decide (L1 = L) = false := by simpa using hL
          rcases hstep with ⟨h1, h2, rfl, rfl⟩ | ⟨h1, h2, rfl, rfl⟩ | ⟨h1, rfl, rfl⟩
          · have h1' : (i : Int) < (xs.length : Int) := by omega
            replace hix := hix h1
            subst h2
            go_wp2
            exact ⟨⟨k, i + 1, by omega, by omega, by rw [hL'], by rw [hC'], by first | rfl | go_num, by go_num, hid hst', hbw⟩, by simp [intOf]; omega⟩
          · have h1' : (i : Int) < (xs.length : Int) := by omega
            replace hix := hix h1
            have h2d : decide (B = 10) = false := by simpa using h2
            go_wp2
            exact ⟨⟨k, i + 1, by omega, by omega, by rw [hL'], by rw [hC'], by first | rfl | go_num, by go_num, hid hst', hbw⟩, by simp [intOf]; omega⟩
          · have h1' : decide ((i : Int) < (xs.length : Int)) = false := by simp; omega
            replace h1 : xs.length ≤ i := by omega
            have h1n : ¬ (i : Int) < (xs.length : Int) := by omega
            clear hix
            go_wp2
            exact ⟨⟨k, i + 1, by omega, by omega, by rw [hL'], by rw [hC'], by first | rfl | go_num, by go_num, hid hst', hbw⟩, by simp [intOf]; omega⟩
    · obtain rfl : i = xs.length + 1 := by omega
      obtain rfl : k = q + 1 := by rw [← HQ.out]; exact stp_end hst.out
      have hgr := readsW_kept HR.out hbw.out
      rcases hgr.cells with ⟨h, _⟩ | ⟨b', off', eb, hcs⟩
      · omega
      cases eb
      obtain ⟨pre, hp⟩ := ch_last ws 0 HC.out
      obtain ⟨sa, sc, p0, _⟩ := hcs q ⟨5, cut xs xs.length xs.length, 0, [], lnA xs xs.length, clA xs xs.length⟩ (by
        have hpl : pre.length = q := by have := HQ.out; rw [hp] at this; simp at this; exact this
        rw [hp, ← hpl]
        simp [mw])
      dsimp only at p0
      have hB1 : b < wr.heap.size := World.block_lt_of_cell? _ _ p0
      clear hcs hgr
      go_wp2
      go_ret
      exact ⟨rfl, below_trans HB.out hbw.out⟩
theorem lexPlacesW (s : ByteArray) (w : World) (hm : s.size ≤ maxLen) (hs : Sentinel w 2) :
    Calls Tryd.prog 6 #[.string s] w fun e w' => e = .returned (.bool true) ∧ Below w.heap.size w w' := by
  have hl : (numsS s).length ≤ 9223372036854775807 := by
    rw [numsS_len]
    unfold maxLen at hm
    have e : s.data.toList.length = s.size := rfl
    rw [e]
    exact Nat.le_trans hm (by decide)
  rw [← numsS_str s]
  have hb := numsS_bd s
  generalize numsS s = xs at hl hb ⊢
  by_cases hbig : 65536 < xs.length
  · exact placesBad _ 1 0 0 w (by decide) hs (fun W g => by have := splitW xs W hb hl g; unfold outE at this; rw [if_pos hbig] at this; exact this)
  · by_cases hc : (lx xs).code = 0
    · have hch := lx_ch hc
      obtain ⟨p, hp⟩ := ch_last _ _ hch
      have hq : (lx xs).ws.length = p.length + 1 := by rw [hp]; simp
      refine placesGood xs (lx xs).ws p.length w hb (by omega) hch hq hs (fun W g => ?_)
      have := splitW xs W hb hl g
      unfold outE at this
      rw [if_neg hbig, if_pos hc] at this
      refine this.mono ?_
      rintro e w' ⟨a, c, rfl, hr, hbb⟩
      have e1 : ((lx xs).ws.map (mw xs)).length = p.length + 1 := by rw [List.length_map, hq]
      dsimp only at hr
      rw [e1] at hr
      exact ⟨a, c, by dsimp only; rw [e1], hr, hbb⟩
    · exact placesBad _ (lx xs).code _ _ w hc hs (fun W g => by have := splitW xs W hb hl g; unfold outE at this; rw [if_neg hbig, if_neg hc] at this; exact this)
end Go.Proofs.YtlkdcdmdkncjoaaDoor
