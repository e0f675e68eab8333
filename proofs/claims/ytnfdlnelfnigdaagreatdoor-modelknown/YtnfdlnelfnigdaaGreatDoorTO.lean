/-
  The symbols of an enum.
-/
import Derived.Test.YtnfdlnelfnigdaaGreatDoorCTI
import Derived.Deep.CutRange
namespace Go.Proofs.YtnfdlnelfnigdaaGreatDoor
open Go.RowKit
set_option maxRecDepth 1000000
set_option linter.unusedVariables false
set_option linter.unusedSimpArgs false
set_option maxHeartbeats 1000000
theorem grow_blk {w w' : World} {v v' : Value} {base e size n : Nat} {fl : List Value} (g : Grow w w' v v') (ho : w.ownsRow base e size v n fl) {p : Nat} {t : TypeId} {cs : Array Value} (h : Blk w p t cs) (hne : t ≠ e) : Blk w' p t cs := by
  refine h.keep (Keep.ofGrow (f := fun k => v.ownBlock ≠ some k) g (fun _ hk => hk)) ?_
  intro hk
  obtain ⟨_, _, cur, hc⟩ := own_type ho hk
  rw [show w.heap[p]? = _ from h] at hc
  cases hc
  exact hne rfl
theorem grow_own {w w' : World} {v v' u : Value} {base e e2 size s2 n m : Nat} {fl gl : List Value} (g : Grow w w' v v') (ho : w.ownsRow base e size v n fl) (h : w.ownsRow base e2 s2 u m gl) (hne : e ≠ e2) : w'.ownsRow base e2 s2 u m gl :=
  own_keep (f := fun k => v.ownBlock ≠ some k) h (fun k hk e2 => own_apart ho h hne e2 hk) (Keep.ofGrow g (fun _ hk => hk))
theorem grow_bel {w w' : World} {v v' : Value} {base e size n B : Nat} {fl : List Value} (g : Grow w w' v v') (ho : w.ownsRow base e size v n fl) (hB : B ≤ base) (hs : B ≤ w.heap.size) : Below B w w' := g.below hs (fun k hk => Nat.le_trans hB (own_type ho hk).1)
def symB (ss : List SY) : Bool := match ss with
  | [] => false
  | s :: r => decide ((s :: r).length ≤ 128) && (decide (s.num = 0) && ((s :: r).all (fun x => decide (0 ≤ x.num ∧ x.num ≤ 2147483647)) && (((s :: r).map SY.name).all nmB && (dfB (((s :: r).map SY.name).map litS) && dfB (((s :: r).map SY.num).map litI)))))
theorem symB_is {ss : List SY} (h : 0 < ss.length) : symB ss = (decide (ss.length ≤ 128) && (decide (ss[0].num = 0) && (ss.all (fun x => decide (0 ≤ x.num ∧ x.num ≤ 2147483647)) && ((ss.map SY.name).all nmB && (dfB ((ss.map SY.name).map litS) && dfB ((ss.map SY.num).map litI)))))) := by
  cases ss with
  | nil => simp at h
  | cons s r => rfl
theorem hasGoodSymbolsT (ss : List SY) (w : World) (a : Option Addr) (c : Nat) (h : RowS w AnyZ 2 (.slice a ss.length c) ss.length (ss.flatMap cSY)) (ht : ∀ x ∈ ss, TxA x.name ∧ I64 x.num) : Calls Tryz.prog 139 #[.slice a ss.length c] w fun e w' => e = .returned (.bool (symB ss)) ∧ Below w.heap.size w w' := by
  obtain ⟨_, _, e, hn⟩ := rowS_sl h
  clear e
  have h1 : (ss.length : Int) ≤ 9223372036854775807 := by omega
  have HR := hid h
  have HT := hid ht
  clear h ht
  by_cases hz : ss.length = 0
  case pos =>
    have e : ss = [] := List.eq_nil_of_length_eq_zero hz
    subst e
    clear HR HT
    go_enter Tryz.func139, Tryz.ntmps139
    go_wp2
    go_ret
    exact ⟨rfl, Below.refl _ _⟩
  have HX := hid (symB_is (ss := ss) (by omega))
  have kz : ((ss.length : Int) == 0) = false := by rw [beq_eq_false_iff_ne]; omega
  by_cases hbig : 128 < ss.length
  case pos =>
    have h2 : (128 : Int) < (ss.length : Int) := by omega
    replace HX := hid (show symB ss = false by rw [HX.out, show decide (ss.length ≤ 128) = false by simp; omega]; rfl)
    go_enter Tryz.func139, Tryz.ntmps139
    go_wp2
    go_ret
    exact ⟨ret_bool HX.out.symm, Below.refl _ _⟩
  have h2 : ¬ (128 : Int) < (ss.length : Int) := by omega
  have h3 : (0 : Int) < (ss.length : Int) := by omega
  obtain ⟨b, o, rfl, hbl, c0, c1⟩ := rowY HR.out (j := 0) (by omega)
  simp only [Nat.zero_mul, Nat.add_zero] at c0 c1
  by_cases h0 : ss[0].num = 0
  case neg =>
    have k0 : (ss[0].num != 0) = true := by simpa using h0
    replace HX := hid (show symB ss = false by rw [HX.out]; simp [h0])
    generalize ss[0] = x at *
    go_enter Tryz.func139, Tryz.ntmps139
    go_wp2
    go_ret
    exact ⟨ret_bool HX.out.symm, Below.refl _ _⟩
  have k0 : (ss[0].num != 0) = false := by simpa using h0
  have HD : Hid (decide (ss[0].num = 0) = true) := hid (by simpa using h0)
  have HL : Hid (decide (ss.length ≤ 128) = true) := hid (by simp; omega)
  replace h0 := hid h0
  replace HX := hid (show symB ss = (ss.all (fun x => decide (0 ≤ x.num ∧ x.num ≤ 2147483647)) && ((ss.map SY.name).all nmB && (dfB ((ss.map SY.name).map litS) && dfB ((ss.map SY.num).map litI)))) by rw [HX.out, HL.out, HD.out]; rfl)
  generalize ss[0] = x0 at *
  go_enter Tryz.func139, Tryz.ntmps139
  go_wp2
  clear c0 c1
  go_loopw [3, 4, 24] (fun v u r wr => ∃ (j : Nat) (va ua : Option Addr) (vc uc : Nat), v = .slice va j vc ∧ u = .slice ua j uc ∧ r = .int .i64 j ∧ j ≤ ss.length ∧ Hid ((ss.take j).all (fun x => decide (0 ≤ x.num ∧ x.num ≤ 2147483647)) = true) ∧ Hid (wr.ownsRow w.heap.size 9 1 (.slice va j vc) ((ss.take j).map SY.name).length (((ss.take j).map SY.name).flatMap cN)) ∧ Hid (wr.ownsRow w.heap.size 3 1 (.slice ua j uc) ((ss.take j).map SY.num).length (((ss.take j).map SY.num).flatMap cI64)) ∧ Hid (Below w.heap.size w wr)) (fun _ _ r wr => ss.length - numAt wr r)
  case atStart => exact ⟨0, none, none, 0, 0, rfl, rfl, rfl, by omega, hid rfl, hid (World.ownsRow_nil _ _ _ _), hid (World.ownsRow_nil _ _ _ _), hid (Below.refl _ _)⟩
  case round =>
    obtain ⟨j, va, ua, vc, uc, rfl, rfl, rfl, hj, hall, HV, HU, hb⟩ := hrel
    by_cases hlt : j < ss.length
    · have h4 : (j : Int) < (ss.length : Int) := by omega
      obtain ⟨b', o', e, hbl', c0, c1⟩ := rowY (HR.out.kept hb.out) hlt
      cases e
      have HTK : Hid (ss.take (j + 1) = ss.take j ++ [ss[j]]) := hid (List.take_succ_eq_append_getElem hlt)
      have HLN : Hid (((ss.take j).map SY.name).length = j ∧ ((ss.take j).map SY.num).length = j) := hid (by simp; omega)
      have HAL : Hid (ss.all (fun x => decide (0 ≤ x.num ∧ x.num ≤ 2147483647)) = true → (0 ≤ ss[j].num ∧ ss[j].num ≤ 2147483647)) := hid (fun q => by have := List.all_eq_true.1 q _ (List.getElem_mem hlt); simpa using this)
      generalize ss[j] = x at *
      by_cases q1 : x.num < 0
      · replace HX := hid (show symB ss = false by rw [HX.out, show ss.all _ = false from by cases q : ss.all (fun x => decide (0 ≤ x.num ∧ x.num ≤ 2147483647)); rfl; have := HAL.out q; omega]; rfl)
        go_wp2
        go_ret
        exact ⟨ret_bool HX.out.symm, by have := hb.out; exact blBy⟩
      · by_cases q2 : 2147483647 < x.num
        · replace HX := hid (show symB ss = false by rw [HX.out, show ss.all _ = false from by cases q : ss.all (fun x => decide (0 ≤ x.num ∧ x.num ≤ 2147483647)); rfl; have := HAL.out q; omega]; rfl)
          go_wp2
          go_ret
          exact ⟨ret_bool HX.out.symm, by have := hb.out; exact blBy⟩
        · have HAJ : Hid ((ss.take (j + 1)).all (fun x => decide (0 ≤ x.num ∧ x.num ≤ 2147483647)) = true) := hid (by rw [HTK.out, List.all_append, hall.out]; simp; omega)
          go_upto_region 10 with fail
          have BS : Blk (wr.alloc (.cells #[.string (strOfNums x.name), .int .i64 x.num] 75)) wr.heap.size 75 #[.string (strOfNums x.name), .int .i64 x.num] := Blk.newAt rfl
          have HV1 := hid (own_kept HV.out (below_alloc (.cells #[.string (strOfNums x.name), .int .i64 x.num] 75)))
          have HU1 := hid (own_kept HU.out (below_alloc (.cells #[.string (strOfNums x.name), .int .i64 x.num] 75)))
          have hb1 : Hid (Below w.heap.size w (wr.alloc (.cells #[.string (strOfNums x.name), .int .i64 x.num] 75))) := hid (by have := hb.out; exact blBy)
          clear c0 c1
          generalize (wr.alloc (.cells #[.string (strOfNums x.name), .int .i64 x.num] 75)) = w1 at *
          have xs := BS.cellF
          have zs := BS.lt
          obtain ⟨la, lc, x1, HRUN, HV2, HG1⟩ := appendSt w.heap.size (.slice va j vc) ((ss.take j).map SY.name) x.name w1 HV1.out hb1.out.size (by have := HLN.out.1; omega)
          rw [HLN.out.1] at HRUN HV2 HG1
          have BS2 := grow_blk HG1.out HV1.out BS (by decide)
          have HU2 := hid (grow_own HG1.out HV1.out HU1.out (by decide))
          have hb2 : Hid (Below w.heap.size w x1) := hid (hb1.out.trans (grow_bel HG1.out HV1.out (Nat.le_refl _) hb1.out.size))
          go_upto_region 11 with (first | (at_builtin; refine wpList_append_ran rfl _ _ 62 62 rfl rfl _ _ (.slice la (j + 1) lc) x1 rfl rfl HRUN.out ?_))
          clear xs zs HRUN HV1 HU1 BS
          have xs := BS2.cellF
          have zs := BS2.lt
          obtain ⟨ka, kc, x2, HRUN, HU3, HG2⟩ := appendIn w.heap.size (.slice ua j uc) ((ss.take j).map SY.num) x.num x1 HU2.out hb2.out.size (by have := HLN.out.2; omega)
          rw [HLN.out.2] at HRUN HU3 HG2
          have HV3 := hid (grow_own HG2.out HU2.out HV2.out (by decide))
          have hb3 : Hid (Below w.heap.size w x2) := hid (hb2.out.trans (grow_bel HG2.out HU2.out (Nat.le_refl _) hb2.out.size))
          go_wp2_with (first | (at_builtin; refine wpList_append_ran rfl _ _ 186 186 rfl rfl _ _ (.slice ka (j + 1) kc) x2 rfl rfl HRUN.out ?_))
          exact ⟨⟨j + 1, la, ka, lc, kc, rfl, rfl, by simp, by omega, HAJ, hid (by rw [HTK.out, List.map_append]; exact HV3.out), hid (by rw [HTK.out, List.map_append]; exact HU3.out), hb3⟩, by simp [numAt]; omega⟩
    · have h4 : ¬ (j : Int) < (ss.length : Int) := by omega
      have e1 : ss.take j = ss := List.take_of_length_le (by omega)
      have ej : j = ss.length := by omega
      subst ej
      rw [e1] at hall HV HU
      have HTN : Hid (∀ x ∈ ss.map SY.name, TxA x) := hid (fun x hx => by obtain ⟨y, hy, rfl⟩ := List.mem_map.1 hx; exact (HT.out y hy).1)
      have HTI : Hid (∀ x ∈ ss.map SY.num, I64 x) := hid (fun x hx => by obtain ⟨y, hy, rfl⟩ := List.mem_map.1 hx; exact (HT.out y hy).2)
      have HLM : Hid ((ss.map SY.name).length = ss.length ∧ (ss.map SY.num).length = ss.length) := hid (by simp)
      have HRV : Hid (RowS wr AnyZ 1 (.slice va ss.length vc) (ss.map SY.name).length ((ss.map SY.name).flatMap cN)) := hid (own_row HV.out (fun _ _ => trivial))
      have HRU : Hid (RowS wr AnyZ 1 (.slice ua ss.length uc) (ss.map SY.num).length ((ss.map SY.num).flatMap cI64)) := hid (own_row HU.out (fun _ _ => trivial))
      replace HX := hid (show symB ss = ((ss.map SY.name).all nmB && (dfB ((ss.map SY.name).map litS) && dfB ((ss.map SY.num).map litI))) by rw [HX.out, hall.out]; rfl)
      clear HV HU HR HT
      go_wp2_with fail
      refine (areNamesT (ss.map SY.name) _ va ss.length vc HRV.out HTN.out).mono ?_
      rintro e w1 ⟨rfl, rfl⟩
      cases hq : (ss.map SY.name).all nmB with
      | false =>
        go_wp2
        go_ret
        exact ⟨ret_bool (by rw [HX.out, hq]; rfl), hb.out⟩
      | true =>
        go_wp2_with fail
        have HA := areDiffS (ss.map SY.name) wr va vc (by rw [HLM.out.1]; have := HRV.out; rw [HLM.out.1] at this; exact this) HTN.out
        rw [HLM.out.1] at HA
        refine HA.mono ?_
        rintro e w2 ⟨rfl, hb2⟩
        have HB2 := hid (bl_then hb.out hb2)
        have HRU2 := hid (HRU.out.kept hb2)
        clear hb2
        cases hq2 : dfB ((ss.map SY.name).map litS) with
        | false =>
          go_wp2
          go_ret
          exact ⟨ret_bool (by rw [HX.out, hq, hq2]; rfl), HB2.out⟩
        | true =>
          go_wp2_with fail
          have HA := areDiffI (ss.map SY.num) w2 ua uc (by rw [HLM.out.2]; have := HRU2.out; rw [HLM.out.2] at this; exact this) HTI.out
          rw [HLM.out.2] at HA
          refine HA.mono ?_
          rintro e w3 ⟨rfl, hb3⟩
          have HB3 := hid (bl_then HB2.out hb3)
          clear hb3
          go_wp2
          go_ret
          exact ⟨ret_bool (by rw [HX.out, hq, hq2]; simp), HB3.out⟩
end Go.Proofs.YtnfdlnelfnigdaaGreatDoor
