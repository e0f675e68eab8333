/-
  P4.3 without the document's own words: the law's walk.
-/
import Derived.Test.YtlkdcdmdkncjoaaDoorVE
import Derived.Test.YtlkdcdmdkncjoaaDoorVB
namespace Go.Proofs.YtlkdcdmdkncjoaaDoor
open Go.RowKit
set_option maxRecDepth 1000000
set_option maxHeartbeats 4000000
set_option linter.unusedVariables false
set_option linter.unusedSimpArgs false

theorem likeYes (a1 a2 : Option Addr) (l1 c1 l2 c2 : Nat) (ms ns : List Mw) (w : World) (h1 : ReadsW w a1 l1 c1 ms) (h2 : ReadsW w a2 l2 c2 ns) (hlk : LkM ms ns) (h0 : 0 < l1) :
    Calls Tryd.prog 12 #[.slice a1 l1 c1, .slice a2 l2 c2] w fun e w' => e = .returned (.bool true) ∧ Below w.heap.size w w' := by
  obtain rfl : l1 = l2 := by rw [← h1.length, ← h2.length]; exact lkM_len _ _ hlk
  rcases h1.cells with ⟨h, _⟩ | ⟨b1, off1, rfl, _⟩
  · omega
  · rcases h2.cells with ⟨h, _⟩ | ⟨b2, off2, rfl, _⟩
    · omega
    · exact likeIn b1 off1 b2 off2 l1 c1 c2 ms ns w h1 h2 hlk h0
theorem againBad (s : ByteArray) (ma : Option Addr) (ml mc : Nat) (cd l c : Int) (w : World) (hc : cd ≠ 0) (hs : Sentinel w 2)
    (H1 : ∀ W : World, Sentinel W 2 → Calls Tryd.prog 7 #[.string s] W fun e w' => SplitG W ([], cd, l, c) e w') :
    Calls Tryd.prog 5 #[.string s, .slice ma ml mc] w fun e w' => e = .returned (.bool true) ∧ Below w.heap.size w w' := by
  have HS := hid hs
  replace H1 := hid H1
  clear hs
  go_enter Tryd.func5, Tryd.ntmps5
  go_wp2_with fail
  refine (awake4 _ HS.out).mono ?_
  rintro e w1 ⟨rfl, hb1⟩
  have HB := hid hb1
  clear hb1
  go_wp2_with fail
  refine (H1.out _ (HS.out.kept HB.out)).mono ?_
  rintro e w2 ⟨a, k, rfl, hr, hb2⟩
  replace HB := hid (below_trans HB.out hb2)
  clear hb2 hr
  go_wp2
  go_ret
  exact ⟨rfl, below_trans HB.out (below_alloc _)⟩
/-- The mark of a word, what is put behind it. -/
def mkAt (mk : List Int) (k : Nat) : Int := if mk.length = 0 then 0 else mk.getD (k % mk.length) 0
def sepM (mk : List Int) (k : Nat) : List Int := sep4 (mkAt mk k % 4).toNat
theorem sepM_is (mk : List Int) (k : Nat) : isSep (sepM mk k) := sep4_is _
theorem str_add (xs ys : List Int) : strOfNums xs ++ strOfNums ys = strOfNums (xs ++ ys) := by
  apply ByteArray.ext
  apply Array.ext'
  simp [strOfNums]
theorem jn_next {xs : List Int} {sep : Nat → List Int} {ws : List Wd} {k : Nat} {x : Wd} (h : ws[k]? = some x) : strOfNums (jn xs sep 0 (ws.take (k + 1))) = strOfNums (jn xs sep 0 (ws.take k)) ++ strOfNums (cut xs x.st x.en) ++ strOfNums (sep k) := by
  obtain ⟨hk, rfl⟩ := List.getElem?_eq_some_iff.1 h
  rw [List.take_succ_eq_append_getElem hk, jn_snoc, str_add, str_add, List.append_assoc, List.length_take, Nat.min_eq_left (by omega), Nat.zero_add]
theorem againGood (xs : List Int) (mk : List Int) (ma : Option Addr) (ml mc : Nat) (ws : List Wd) (q : Nat) (w : World) (hl : xs.length ≤ 65536) (hq : ws.length = q + 1) (hqm : q ≤ 65536) (hmk : Reads w ma ml mc mk) (hs : Sentinel w 2)
    (H1 : ∀ W : World, Sentinel W 2 → Calls Tryd.prog 7 #[.string (strOfNums xs)] W fun e w' => ∃ a c, e = .returned (.tuple #[.slice a (q + 1) c, .agg #[.int .i64 0, .int .i64 0, .int .i64 0, .int .i64 0]]) ∧ ReadsW w' a (q + 1) c (ws.map (mw xs)) ∧ Below W.heap.size W w')
    (Z1 Z2 : ByteArray) (hZ1 : strOfNums (jn xs (fun _ => [32]) 0 ws) = Z1) (hZ2 : strOfNums (jn xs (sepM mk) 0 ws) = Z2) (ms1 ms2 : List Mw) (cd1 cd2 : Int)
    (S1 : ∀ W : World, Sentinel W 2 → Calls Tryd.prog 7 #[.string Z1] W fun e w' => SplitG W (ms1, cd1, 0, 0) e w')
    (S2 : ∀ W : World, Sentinel W 2 → Calls Tryd.prog 7 #[.string Z2] W fun e w' => SplitG W (ms2, cd2, 0, 0) e w')
    (G1 : (65536 < Z1.size ∧ cd1 = 1) ∨ (Z1.size ≤ 65536 ∧ cd1 = 0 ∧ LkM ms1 (ws.map (mw xs)))) (G2 : (65536 < Z2.size ∧ cd2 = 1) ∨ (Z2.size ≤ 65536 ∧ cd2 = 0 ∧ LkM ms2 (ws.map (mw xs)))) (hzm1 : Z1.size ≤ 4295753739) (hzm2 : Z2.size ≤ 4295753739) :
    Calls Tryd.prog 5 #[.string (strOfNums xs), .slice ma ml mc] w fun e w' => e = .returned (.bool true) ∧ Below w.heap.size w w' := by
  have HS := hid hs
  have HQ := hid hq
  have HM := hid hmk
  have hmlm : ml ≤ 9223372036854775807 := Nat.le_trans hmk.le hmk.max
  replace H1 := hid H1
  replace S1 := hid S1
  replace S2 := hid S2
  replace G1 := hid G1
  replace G2 := hid G2
  replace hZ1 := hid hZ1
  replace hZ2 := hid hZ2
  clear hs hq hmk
  go_enter Tryd.func5, Tryd.ntmps5
  go_wp2_with fail
  refine (awake4 _ HS.out).mono ?_
  rintro e w1 ⟨rfl, hb1⟩
  have HB := hid hb1
  clear hb1
  go_wp2_with fail
  refine (H1.out _ (HS.out.kept HB.out)).mono ?_
  rintro e w2 ⟨a, c, rfl, hr, hb2⟩
  replace HB := hid (below_trans HB.out hb2)
  have HR := hid (readsW_kept hr (below_alloc (.cells #[.int .i64 0, .int .i64 0, .int .i64 0, .int .i64 0] 25)))
  clear hb2 hr H1
  replace HB := hid (below_trans HB.out (below_alloc (.cells #[.int .i64 0, .int .i64 0, .int .i64 0, .int .i64 0] 25)))
  replace HM := hid (reads_kept HM.out HB.out)
  replace HS := hid (HS.out.kept HB.out)
  rcases HR.out.cells with ⟨h, _⟩ | ⟨b, off, rfl, _⟩
  · omega
  go_wp2
  generalize (w2.alloc (.cells #[.int .i64 0, .int .i64 0, .int .i64 0, .int .i64 0] 25)) = w3 at *
  go_loopw [7, 8, 9] (fun rs rt ri wr => ∃ (k : Nat), k ≤ q + 1 ∧ rs = .string (strOfNums (jn xs (fun _ => [32]) 0 (ws.take k))) ∧ rt = .string (strOfNums (jn xs (sepM mk) 0 (ws.take k))) ∧ ri = .int .i64 k ∧ Hid (Below w3.heap.size w3 wr)) (fun _ _ ri _ => q + 1 - (intOf ri).toNat)
  case atStart => exact ⟨0, by omega, rfl, rfl, rfl, hid (Below.refl _ _)⟩
  case round =>
    obtain ⟨k, hkq, rfl, rfl, rfl, hbw⟩ := hrel
    by_cases hk : k < q + 1
    · have hgr := readsW_kept HR.out hbw.out
      rcases hgr.cells with ⟨h, _⟩ | ⟨b', off', eb, hcs⟩
      · omega
      cases eb
      obtain ⟨x, hx⟩ : ∃ x, ws[k]? = some x := ⟨_, List.getElem?_eq_getElem (by rw [HQ.out]; exact hk)⟩
      have e1 := hid (jn_next (xs := xs) (sep := fun _ => [32]) hx)
      have e2 := hid (jn_next (xs := xs) (sep := sepM mk) hx)
      obtain ⟨sa, sc, _, p1, _⟩ := hcs k (mw xs x) (by rw [List.getElem?_map, hx]; rfl)
      have hB1 : b < wr.heap.size := World.block_lt_of_cell? _ _ p1
      clear hcs hgr hx
      dsimp only [mw] at p1
      have hbnd : ∀ sep : Nat → List Int, (∀ j, isSep (sep j)) → (strOfNums (jn xs sep 0 (ws.take k))).size ≤ 4295753739 := by
        intro sep hsep
        rw [strOfNums_size]
        refine Nat.le_trans (jn_len hsep _ _) ?_
        have h1 : (ws.take k).length ≤ 65537 := by rw [List.length_take]; omega
        exact Nat.le_trans (Nat.mul_le_mul h1 (show xs.length + 11 ≤ 65547 by omega)) (by decide)
      have hA := hbnd (fun _ => [32]) (fun _ => .inl rfl)
      have hT := hbnd (sepM mk) (sepM_is mk)
      have hS : (strOfNums (cut xs x.st x.en)).size ≤ 65536 := by
        rw [strOfNums_size]
        unfold cut
        simp
        omega
      clear hbnd
      generalize strOfNums (jn xs (fun _ => [32]) 0 (ws.take k)) = A at *
      generalize strOfNums (jn xs (sepM mk) 0 (ws.take k)) = T at *
      generalize strOfNums (cut xs x.st x.en) = S at *
      have f1 : ¬ 9223372036854775807 < A.size + S.size := by omega
      have f2 : ¬ 9223372036854775807 < A.size + S.size + 1 := by omega
      have f3 : ¬ 9223372036854775807 < T.size + S.size := by omega
      have f4 : ¬ 9223372036854775807 < T.size + S.size + 1 := by omega
      have f5 : ¬ 9223372036854775807 < T.size + S.size + 11 := by omega
      have f6 : ¬ 9223372036854775807 < T.size + S.size + 8 := by omega
      have hki : (k : Int) < ((q + 1 : Nat) : Int) := by omega
      have hk0 : (0 : Int) ≤ (k : Int) := by omega
      have hm : (ml = 0 ∧ mkAt mk k = 0) ∨ ∃ bm om, ma = some ⟨bm, om, none⟩ ∧ 0 < ml ∧ wr.cell? ⟨bm, om + k % ml, none⟩ = some (.int .u8 (mkAt mk k)) := by
        have hm2 := reads_kept HM.out hbw.out
        rcases hm2.cells with ⟨h, _⟩ | ⟨bm, om, rfl, hcm⟩
        · exact .inl ⟨h, by unfold mkAt; rw [if_pos (by rw [hm2.length]; exact h)]⟩
        · by_cases h0 : ml = 0
          · exact .inl ⟨h0, by unfold mkAt; rw [if_pos (by rw [hm2.length]; exact h0)]⟩
          · refine .inr ⟨bm, om, rfl, by omega, ?_⟩
            have := hcm (k % ml) (Nat.mod_lt _ (by omega))
            rw [this]
            unfold mkAt
            rw [if_neg (by rw [hm2.length]; exact h0), hm2.length]
      have hM0 : 0 ≤ mkAt mk k ∧ mkAt mk k ≤ 255 := by
        unfold mkAt
        split
        · omega
        · exact HM.out.bd _
      have e2' : strOfNums (jn xs (sepM mk) 0 (ws.take (k + 1))) = T ++ S ++ strOfNums (sep4 (mkAt mk k % 4).toNat) := e2.out
      clear e2
      generalize mkAt mk k = M at *
      have hr4 : M % 4 = 0 ∨ M % 4 = 1 ∨ M % 4 = 2 ∨ M % 4 = 3 := by omega
      have htm : M.tmod 4 = M % 4 := Int.tmod_eq_emod_of_nonneg hM0.1
      rcases hm with ⟨h0, hM⟩ | ⟨bm, om, rfl, h0, hcm⟩
      · subst h0
        subst hM
        replace e2' := hid e2'
        clear htm hr4 hM0
        have hidx : ∀ W : World, (Instr.index 40 (.agg #[.string ⟨#[32]⟩, .string ⟨#[10]⟩, .string ⟨#[47, 42, 32, 42, 32, 47, 32, 34, 32, 42, 47]⟩, .string ⟨#[47, 47, 32, 34, 32, 47, 42, 10]⟩]) (.int .u8 0)).run Tryd.prog W = .ok (.string ⟨#[32]⟩) W := fun W => by rfl
        go_wp2_with fail
        go_quiet (fail)
        go_wp2_with fail
        exact ⟨⟨k + 1, by omega, by rw [e1.out]; rfl, by rw [e2'.out]; rfl, by go_num, hid (below_trans hbw.out (below_drewN _ _))⟩, by simp [intOf]; omega⟩
      · have hml : (0 : Int) < (ml : Int) := by omega
        have hmod : (0 : Int) ≤ (k : Int) % (ml : Int) ∧ (k : Int) % (ml : Int) < (ml : Int) := ⟨Int.emod_nonneg _ (by omega), Int.emod_lt_of_pos _ hml⟩
        rcases hr4 with hr | hr | hr | hr
        · rw [hr] at e2' htm
          replace e2' := hid e2'
          have hidx : ∀ W : World, (Instr.index 40 (.agg #[.string ⟨#[32]⟩, .string ⟨#[10]⟩, .string ⟨#[47, 42, 32, 42, 32, 47, 32, 34, 32, 42, 47]⟩, .string ⟨#[47, 47, 32, 34, 32, 47, 42, 10]⟩]) (.int .u8 (M.tmod 4))).run Tryd.prog W = .ok (.string ⟨#[32]⟩) W := fun W => by rw [htm]; rfl
          clear htm hr
          go_wp2_with fail
          go_quiet (fail)
          go_wp2_with fail
          exact ⟨⟨k + 1, by omega, by rw [e1.out]; rfl, by rw [e2'.out]; rfl, by go_num, hid (below_trans hbw.out (below_drewN _ _))⟩, by simp [intOf]; omega⟩
        · rw [hr] at e2' htm
          replace e2' := hid e2'
          have hidx : ∀ W : World, (Instr.index 40 (.agg #[.string ⟨#[32]⟩, .string ⟨#[10]⟩, .string ⟨#[47, 42, 32, 42, 32, 47, 32, 34, 32, 42, 47]⟩, .string ⟨#[47, 47, 32, 34, 32, 47, 42, 10]⟩]) (.int .u8 (M.tmod 4))).run Tryd.prog W = .ok (.string ⟨#[10]⟩) W := fun W => by rw [htm]; rfl
          clear htm hr
          go_wp2_with fail
          go_quiet (fail)
          go_wp2_with fail
          exact ⟨⟨k + 1, by omega, by rw [e1.out]; rfl, by rw [e2'.out]; rfl, by go_num, hid (below_trans hbw.out (below_drewN _ _))⟩, by simp [intOf]; omega⟩
        · rw [hr] at e2' htm
          replace e2' := hid e2'
          have hidx : ∀ W : World, (Instr.index 40 (.agg #[.string ⟨#[32]⟩, .string ⟨#[10]⟩, .string ⟨#[47, 42, 32, 42, 32, 47, 32, 34, 32, 42, 47]⟩, .string ⟨#[47, 47, 32, 34, 32, 47, 42, 10]⟩]) (.int .u8 (M.tmod 4))).run Tryd.prog W = .ok (.string ⟨#[47, 42, 32, 42, 32, 47, 32, 34, 32, 42, 47]⟩) W := fun W => by rw [htm]; rfl
          clear htm hr
          go_wp2_with fail
          go_quiet (fail)
          go_wp2_with fail
          exact ⟨⟨k + 1, by omega, by rw [e1.out]; rfl, by rw [e2'.out]; rfl, by go_num, hid (below_trans hbw.out (below_drewN _ _))⟩, by simp [intOf]; omega⟩
        · rw [hr] at e2' htm
          replace e2' := hid e2'
          have hidx : ∀ W : World, (Instr.index 40 (.agg #[.string ⟨#[32]⟩, .string ⟨#[10]⟩, .string ⟨#[47, 42, 32, 42, 32, 47, 32, 34, 32, 42, 47]⟩, .string ⟨#[47, 47, 32, 34, 32, 47, 42, 10]⟩]) (.int .u8 (M.tmod 4))).run Tryd.prog W = .ok (.string ⟨#[47, 47, 32, 34, 32, 47, 42, 10]⟩) W := fun W => by rw [htm]; rfl
          clear htm hr
          go_wp2_with fail
          go_quiet (fail)
          go_wp2_with fail
          exact ⟨⟨k + 1, by omega, by rw [e1.out]; rfl, by rw [e2'.out]; rfl, by go_num, hid (below_trans hbw.out (below_drewN _ _))⟩, by simp [intOf]; omega⟩
    · obtain rfl : k = q + 1 := by omega
      have tk : ws.take (q + 1) = ws := List.take_of_length_le (by rw [HQ.out]; exact Nat.le_refl _)
      rw [tk, hZ1.out, hZ2.out]
      clear tk
      replace HB := hid (below_trans HB.out hbw.out)
      replace HR := hid (readsW_kept HR.out hbw.out)
      replace HS := hid (HS.out.kept hbw.out)
      clear hbw HM
      go_wp2_with fail
      refine (S1.out _ HS.out).mono ?_
      rintro e w4 ⟨a1, c1, rfl, hr1, hb4⟩
      have HR1 := hid hr1
      replace HB := hid (below_trans HB.out hb4)
      replace HR := hid (readsW_kept HR.out hb4)
      replace HS := hid (HS.out.kept hb4)
      clear hr1 hb4
      go_wp2_with fail
      refine (S2.out _ (HS.out.kept (below_alloc _))).mono ?_
      rintro e w5 ⟨a2, c2, rfl, hr2, hb5⟩
      have HE := hid (((Blk.new w4 25 #[.int .i64 cd1, .int .i64 0, .int .i64 0, .int .i64 0]).kept hb5).kept (below_alloc (.cells #[.int .i64 cd2, .int .i64 0, .int .i64 0, .int .i64 0] 25)))
      have HF := hid (Blk.new w5 25 #[.int .i64 cd2, .int .i64 0, .int .i64 0, .int .i64 0])
      replace HR1 := hid (readsW_kept HR1.out (below_trans (below_trans (below_alloc _) hb5) (below_alloc (.cells #[.int .i64 cd2, .int .i64 0, .int .i64 0, .int .i64 0] 25))))
      have HR2 := hid (readsW_kept hr2 (below_alloc (.cells #[.int .i64 cd2, .int .i64 0, .int .i64 0, .int .i64 0] 25)))
      replace HR := hid (readsW_kept HR.out (below_trans (below_trans (below_alloc _) hb5) (below_alloc (.cells #[.int .i64 cd2, .int .i64 0, .int .i64 0, .int .i64 0] 25))))
      replace HB := hid (below_trans HB.out (below_trans (below_trans (below_alloc _) hb5) (below_alloc (.cells #[.int .i64 cd2, .int .i64 0, .int .i64 0, .int .i64 0] 25))))
      clear hr2 hb5
      have e0 : (w5.alloc (.cells #[.int .i64 cd2, .int .i64 0, .int .i64 0, .int .i64 0] 25)).cell? ⟨w4.heap.size, 0, none⟩ = some (.int .i64 cd1) := HE.out.cell 0 _ rfl
      have f0 : (w5.alloc (.cells #[.int .i64 cd2, .int .i64 0, .int .i64 0, .int .i64 0] 25)).cell? ⟨w5.heap.size, 0, none⟩ = some (.int .i64 cd2) := HF.out.cell 0 _ rfl
      rcases G1.out with ⟨y1, rfl⟩ | ⟨y1, rfl, k1⟩ <;> rcases G2.out with ⟨y2, rfl⟩ | ⟨y2, rfl, k2⟩
      · have z1 : (65536 : Int) < (Z1.size : Int) := by omega
        have z1d : decide ((Z1.size : Int) ≤ 65536) = false := by simp; omega
        have z2 : (65536 : Int) < (Z2.size : Int) := by omega
        have z2d : decide ((Z2.size : Int) ≤ 65536) = false := by simp; omega
        go_wp2
        go_ret
        exact ⟨rfl, HB.out⟩
      · have z1 : (65536 : Int) < (Z1.size : Int) := by omega
        have z1d : decide ((Z1.size : Int) ≤ 65536) = false := by simp; omega
        have z2 : (Z2.size : Int) ≤ 65536 := by omega
        have z2d : decide ((65536 : Int) < (Z2.size : Int)) = false := by simp; omega
        go_wp2
        go_ret
        exact ⟨rfl, HB.out⟩
      · have z1 : (Z1.size : Int) ≤ 65536 := by omega
        have z1d : decide ((65536 : Int) < (Z1.size : Int)) = false := by simp; omega
        have z2 : (65536 : Int) < (Z2.size : Int) := by omega
        have z2d : decide ((Z2.size : Int) ≤ 65536) = false := by simp; omega
        go_wp2
        go_ret
        exact ⟨rfl, HB.out⟩
      · have z1 : (Z1.size : Int) ≤ 65536 := by omega
        have z1d : decide ((65536 : Int) < (Z1.size : Int)) = false := by simp; omega
        have z2 : (Z2.size : Int) ≤ 65536 := by omega
        have z2d : decide ((65536 : Int) < (Z2.size : Int)) = false := by simp; omega
        have hl1 : 0 < ms1.length := by rw [lkM_len _ _ k1, List.length_map, HQ.out]; omega
        have hl2 : 0 < ms2.length := by rw [lkM_len _ _ k2, List.length_map, HQ.out]; omega
        replace k1 := hid k1
        replace k2 := hid k2
        go_wp2_with fail
        refine (likeYes a1 _ ms1.length c1 (q + 1) c ms1 (ws.map (mw xs)) _ HR1.out HR.out k1.out hl1).mono ?_
        rintro e w6 ⟨rfl, hb6⟩
        replace HR2 := hid (readsW_kept HR2.out hb6)
        replace HR := hid (readsW_kept HR.out hb6)
        replace HB := hid (below_trans HB.out hb6)
        clear hb6
        go_wp2_with fail
        refine (likeYes a2 _ ms2.length c2 (q + 1) c ms2 (ws.map (mw xs)) _ HR2.out HR.out k2.out hl2).mono ?_
        rintro e w7 ⟨rfl, hb7⟩
        replace HB := hid (below_trans HB.out hb7)
        clear hb7
        go_wp2
        go_ret
        exact ⟨rfl, HB.out⟩
end Go.Proofs.YtlkdcdmdkncjoaaDoor
