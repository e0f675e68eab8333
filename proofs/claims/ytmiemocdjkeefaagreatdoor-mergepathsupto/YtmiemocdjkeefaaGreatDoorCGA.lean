/-
  slices.Grow, slices.Concat.
  Two lists in order, put together: what stands in both, once.
  A value of a field.
-/
import Derived.Test.YtmiemocdjkeefaaGreatDoorCIC
import Derived.Test.YtmiemocdjkeefaaGreatDoorCTA
import Derived.Test.YtmiemocdjkeefaaGreatDoorCAW
import Derived.Deep.RegionHeld3
namespace Go.Proofs.YtmiemocdjkeefaaGreatDoor
open Go.RowKit
set_option maxRecDepth 1000000
set_option linter.unusedVariables false
set_option linter.unusedSimpArgs false
set_option maxHeartbeats 1000000
/-- Lists one behind the other, as slices. -/
def rwV {α : Type} (r : Option Addr × Nat × List α) : Value := .slice r.1 r.2.2.length r.2.1
def rwL {α : Type} (l : List (Option Addr × Nat × List α)) : List α := l.flatMap (fun r => r.2.2)
theorem rwL_take {α : Type} {l : List (Option Addr × Nat × List α)} {j : Nat} (h : j < l.length) : rwL (l.take (j + 1)) = rwL (l.take j) ++ l[j].2.2 := by
  unfold rwL
  rw [List.take_succ_eq_append_getElem h, List.flatMap_append]
  simp
theorem rwL_le {α : Type} : ∀ (l : List (Option Addr × Nat × List α)) (j : Nat), (rwL (l.take j)).length ≤ (rwL l).length
  | [], j => by simp
  | r :: l, 0 => by simp [rwL]
  | r :: l, j + 1 => by
    have := rwL_le l j
    unfold rwL at *
    rw [List.take_succ_cons, List.flatMap_cons, List.flatMap_cons, List.length_append, List.length_append]
    omega
theorem rowA_old {α : Type} {w w1 : World} {Z : Nat → Prop} {t : TypeId} {k : Nat} {E : World → (Nat → Prop) → List Value → α → Prop} (F : Fam k E) (hk : 0 < k) {v u : Value} {xs ys : List α} (h : OwnA w1 w.heap.size Z t k E v xs) (hy : RowM w Z k (E w Z) u ys) (hb : Below w.heap.size w w1) : RowM w1 (ZofA w1 Z v) k (E w1 (ZofA w1 Z v)) u ys :=
  ((RowM.keep (RowM.old hk hy (fun _ _ _ h => h)) (keepT hb) (fun _ _ => trivial)).weak (fun b hz => ⟨hz.1, Nat.lt_of_lt_of_le hz.2 hb.size, fun e => by have := (h.own e).1; have := hz.2; omega⟩)).imp (fun cs x _ hx => zofA_old F h hx hb)
theorem growEntry (w : World) (n : Nat) (hn : n ≤ 4000000) : Calls Tryz.prog 88 #[.slice none 0 0, .int .i64 (n : Int)] w fun e w' => ∃ a c, e = .returned (.slice a 0 c) ∧ w'.ownsRow w.heap.size 118 4 (.slice a 0 c) 0 [] ∧ Below w.heap.size w w' := by
  by_cases h0 : n = 0
  · subst h0
    go_enter Tryz.func88, Tryz.ntmps88
    go_wp2
    go_ret
    exact ⟨none, 0, rfl, World.ownsRow_nil _ _ _ _, by exact blBy⟩
  · obtain ⟨i0, hi0, hz0, hzs, hzb⟩ := info_parts Tryz.infoE
    have HA := fun ty => Lib.run_append_grow_zeros (P := Tryz.prog) w 27 3 ty 118 i0 _ .i64 .i64 Tryz.underlying27 Tryz.underlying3 hi0 hz0 none 0 0 [] (by rw [hzs]; exact run_firstCells_none w.drew 4 0 0 0) n (by omega) (by omega) (by omega) (by omega) (by rw [hzb]; omega) (by rw [hzb]; exact growslice_fits (by omega) (by omega))
    simp only [Nat.zero_add] at HA
    obtain ⟨G, hG⟩ : ∃ G, G = grownCap w n 0 118 := ⟨_, rfl⟩
    have hGn : n ≤ G := by rw [hG]; exact grownCap_ge w _ _ _
    have hGm : G ≤ maxLen := by rw [hG]; exact grownCap_le_maxLen w _ _ _ (by unfold maxLen; omega)
    simp only [← hG] at HA
    clear hG
    obtain ⟨ROW, hROW⟩ : ∃ ROW : Array Value, ROW = ([] : List Value).toArray ++ Builtin.zeroCells (Value.cells (.agg #[.int .i64 0, .int .i64 0, .int .u64 0, .slice none 0 0])) n ++ Builtin.zeroCells (Value.cells (.agg #[.int .i64 0, .int .i64 0, .int .u64 0, .slice none 0 0])) (G - n) := ⟨_, rfl⟩
    have hRS : ROW.size = G * 4 := by
      rw [hROW]
      simp only [Array.size_append, List.size_toArray, Builtin.zeroCells, Array.size_map, Array.size_range]
      simp only [Value.cells]
      show 0 + n * 4 + (G - n) * 4 = G * 4
      omega
    simp only [← hROW] at HA
    clear hROW
    have HAA := hid HA
    have HFIN : Hid (∀ W : World, W.heap = (w.drew.alloc (.cells ROW 118)).heap → W.ownsRow w.heap.size 118 4 (.slice (some ⟨w.heap.size, 0, none⟩) 0 G) 0 []) := hid fun W hW => ⟨rfl, .inr ⟨w.heap.size, G, ROW, rfl, Nat.le_refl _, by rw [hW]; show (w.heap.push _)[w.heap.size]? = _; simp, Nat.zero_le _, hGm, hRS, by simp⟩⟩
    have k1 : (0 : Int) < (n : Int) := by omega
    have k2 : ((n : Int) < 0) = False := eq_false (by omega)
    have k3 : (n : Int) ≤ 9223372036854775807 := by omega
    have k5 : (G : Int) ≤ 9223372036854775807 := by unfold maxLen at hGm; omega
    have k6 : (0 : Int) ≤ (G : Int) := by omega
    clear HA hRS hGm hi0 hz0 hzs hzb
    go_enter Tryz.func88, Tryz.ntmps88
    go_wp2_with (first | (at_builtin; refine wpList_appendz_ran rfl _ _ _ _ rfl _ _ rfl rfl (HAA.out _) ?_))
    go_wp2
    go_ret
    exact ⟨_, G, rfl, HFIN.out _ rfl, by exact blBy⟩
theorem concatEntry (w : World) (Z : Nat → Prop) (rows : List (Option Addr × Nat × List (CE))) (p : Nat) (hp : Blk w p 27 (rows.map rwV).toArray) (hr : ∀ r ∈ rows, RowM w Z 4 (FmE w Z) (rwV r) r.2.2) (hn : (rwL rows).length ≤ 4000000) (hm : rows.length ≤ 1000) : Calls Tryz.prog 58 #[.slice (some ⟨p, 0, none⟩) rows.length rows.length] w fun e w' => ∃ a c, e = .returned (.slice a (rwL rows).length c) ∧ OwnA w' w.heap.size Z 118 4 FmE (.slice a (rwL rows).length c) (rwL rows) ∧ Below w.heap.size w w' := by
  have HP := hid hp
  have HR := hid hr
  have m1 : (rows.length : Int) ≤ 9223372036854775807 := by omega
  clear hp hr
  go_enter Tryz.func58, Tryz.ntmps58
  go_wp2
  go_loopw [3, 11] (fun s3 s11 wr => ∃ (j n : Nat), s3 = .int .i64 (n : Int) ∧ s11 = .int .i64 (j : Int) ∧ j ≤ rows.length ∧ Hid ((rwL (rows.take j)).length = n) ∧ n ≤ 4000000 ∧ wr = w) (fun s3 s11 wr => rows.length - numAt wr s11)
  case atStart => exact ⟨0, 0, rfl, rfl, by omega, hid rfl, by omega, rfl⟩
  case round =>
    obtain ⟨j, n, rfl, rfl, hj, HN, hn4, rfl⟩ := hrel
    by_cases hlt : j < rows.length
    · have k2 : (j : Int) < (rows.length : Int) := by omega
      have hc : wr.cell? ⟨p, j, none⟩ = some (rwV rows[j]) := HP.out.cell j _ (by simp [hlt])
      have zp := HP.out.lt
      have HT := hid (rwL_take hlt)
      have HL : Hid ((rwL (rows.take (j + 1))).length ≤ 4000000) := hid (Nat.le_trans (rwL_le rows (j + 1)) hn)
      generalize rows[j] = r at *
      obtain ⟨ra, rc, rx⟩ := r
      unfold rwV at hc
      dsimp only at hc HT
      have hs : n + rx.length ≤ 4000000 := by have := HL.out; rw [HT.out, List.length_append, HN.out] at this; exact this
      have hw : IntKind.i64.wrap ((n : Int) + (rx.length : Int)) = (n : Int) + (rx.length : Int) := by rw [IntKind.wrap_i64]; omega
      have hz : ((n : Int) + (rx.length : Int) < 0) = False := eq_false (by omega)
      have hl9 : (rx.length : Int) ≤ 9223372036854775807 := by omega
      go_wp2
      exact ⟨⟨j + 1, n + rx.length, by simp, by simp, by omega, hid (by rw [HT.out, List.length_append, HN.out]), hs, trivial⟩, by simp [numAt]; omega⟩
    · have k2 : ¬ (j : Int) < (rows.length : Int) := by omega
      have e1 : rows.take j = rows := List.take_of_length_le (by omega)
      rw [e1] at HN
      clear e1
      go_wp2_with fail
      refine (growEntry _ n hn4).mono ?_
      rintro e w1 ⟨ga, gc, rfl, ho, hb⟩
      have HO : Hid (OwnA w1 wr.heap.size Z 118 4 FmE (.slice ga 0 gc) []) := hid ⟨[], ho, rfl, fun i t x ht => by simp at ht⟩
      have HB := hid hb
      clear ho hb hlt hj
      go_wp2
      clear k2 HN
      go_loopw [6, 27] (fun s6 s27 wx => ∃ (j m : Nat) (a : Option Addr) (c : Nat), s6 = .slice a m c ∧ s27 = .int .i64 (j : Int) ∧ j ≤ rows.length ∧ Hid ((rwL (rows.take j)).length = m) ∧ Hid (OwnA wx wr.heap.size Z 118 4 FmE (.slice a m c) (rwL (rows.take j))) ∧ Hid (Below wr.heap.size wr wx)) (fun s6 s27 wx => rows.length - numAt wx s27)
      case atStart => exact ⟨0, 0, ga, gc, rfl, rfl, by omega, hid rfl, HO, HB⟩
      case round =>
        clear HO HB
        obtain ⟨j, m, oa, oc, rfl, rfl, hj, HM, HO, HB⟩ := hrel
        by_cases hlt : j < rows.length
        · have k2 : (j : Int) < (rows.length : Int) := by omega
          have HP1 := hid (HP.out.kept HB.out)
          have hc := HP1.out.cell j (rwV rows[j]) (by simp [hlt])
          have zp := HP1.out.lt
          have HT := hid (rwL_take hlt)
          have HL : Hid ((rwL (rows.take (j + 1))).length ≤ 4000000) := hid (Nat.le_trans (rwL_le rows (j + 1)) hn)
          have HQ := hid (rowA_old famE (by decide) HO.out (HR.out _ (List.getElem_mem hlt)) HB.out)
          generalize rows[j] = r at *
          obtain ⟨ra, rc, rx⟩ := r
          unfold rwV at hc HQ
          dsimp only at hc HT HQ
          have hs : (rwL (rows.take j)).length + rx.length ≤ 4000000 := by have := HL.out; rw [HT.out, List.length_append] at this; exact this
          obtain ⟨la, lc, x1, HRUN, HO2, HG⟩ := OwnA.app famE 118 27 48 (.agg #[.int .i64 0, .int .i64 0, .int .u64 0, .slice none 0 0]) Tryz.underlying27 Tryz.infoE rfl (by decide) (by decide) HO.out HQ.out HB.out.size hs
          rw [HM.out] at HRUN HO2 HG
          have HB2 := hid (HB.out.trans (HO.out.bel HG.out (Nat.le_refl _) HB.out.size))
          have hl9 : (rx.length : Int) ≤ 9223372036854775807 := by omega
          clear hs HL HQ HG HB HP1
          go_wp2_with (first | (at_builtin; refine wpList_append_ran rfl _ _ 27 27 rfl rfl _ _ (.slice la (m + rx.length) lc) x1 rfl rfl HRUN.out ?_))
          exact ⟨⟨j + 1, m + rx.length, la, lc, rfl, by simp, by omega, hid (by rw [HT.out, List.length_append, HM.out]), hid (by rw [HT.out]; exact HO2.out), HB2⟩, by simp [numAt]; omega⟩
        · have k2 : ¬ (j : Int) < (rows.length : Int) := by omega
          have e1 : rows.take j = rows := List.take_of_length_le (by omega)
          rw [e1] at HO HM
          clear e1
          rw [← HM.out] at HO ⊢
          clear HM
          go_wp2
          go_ret
          exact ⟨oa, oc, rfl, HO.out, HB.out⟩
theorem growVal (w : World) (n : Nat) (hn : n ≤ 4000000) : Calls Tryz.prog 103 #[.slice none 0 0, .int .i64 (n : Int)] w fun e w' => ∃ a c, e = .returned (.slice a 0 c) ∧ w'.ownsRow w.heap.size 39 3 (.slice a 0 c) 0 [] ∧ Below w.heap.size w w' := by
  by_cases h0 : n = 0
  · subst h0
    go_enter Tryz.func103, Tryz.ntmps103
    go_wp2
    go_ret
    exact ⟨none, 0, rfl, World.ownsRow_nil _ _ _ _, by exact blBy⟩
  · obtain ⟨i0, hi0, hz0, hzs, hzb⟩ := info_parts Tryz.infoV
    have HA := fun ty => Lib.run_append_grow_zeros (P := Tryz.prog) w 31 3 ty 39 i0 _ .i64 .i64 Tryz.underlying31 Tryz.underlying3 hi0 hz0 none 0 0 [] (by rw [hzs]; exact run_firstCells_none w.drew 3 0 0 0) n (by omega) (by omega) (by omega) (by omega) (by rw [hzb]; omega) (by rw [hzb]; exact growslice_fits (by omega) (by omega))
    simp only [Nat.zero_add] at HA
    obtain ⟨G, hG⟩ : ∃ G, G = grownCap w n 0 39 := ⟨_, rfl⟩
    have hGn : n ≤ G := by rw [hG]; exact grownCap_ge w _ _ _
    have hGm : G ≤ maxLen := by rw [hG]; exact grownCap_le_maxLen w _ _ _ (by unfold maxLen; omega)
    simp only [← hG] at HA
    clear hG
    obtain ⟨ROW, hROW⟩ : ∃ ROW : Array Value, ROW = ([] : List Value).toArray ++ Builtin.zeroCells (Value.cells (.agg #[.int .u64 0, .slice none 0 0, .slice none 0 0])) n ++ Builtin.zeroCells (Value.cells (.agg #[.int .u64 0, .slice none 0 0, .slice none 0 0])) (G - n) := ⟨_, rfl⟩
    have hRS : ROW.size = G * 3 := by
      rw [hROW]
      simp only [Array.size_append, List.size_toArray, Builtin.zeroCells, Array.size_map, Array.size_range]
      simp only [Value.cells]
      show 0 + n * 3 + (G - n) * 3 = G * 3
      omega
    simp only [← hROW] at HA
    clear hROW
    have HAA := hid HA
    have HFIN : Hid (∀ W : World, W.heap = (w.drew.alloc (.cells ROW 39)).heap → W.ownsRow w.heap.size 39 3 (.slice (some ⟨w.heap.size, 0, none⟩) 0 G) 0 []) := hid fun W hW => ⟨rfl, .inr ⟨w.heap.size, G, ROW, rfl, Nat.le_refl _, by rw [hW]; show (w.heap.push _)[w.heap.size]? = _; simp, Nat.zero_le _, hGm, hRS, by simp⟩⟩
    have k1 : (0 : Int) < (n : Int) := by omega
    have k2 : ((n : Int) < 0) = False := eq_false (by omega)
    have k3 : (n : Int) ≤ 9223372036854775807 := by omega
    have k5 : (G : Int) ≤ 9223372036854775807 := by unfold maxLen at hGm; omega
    have k6 : (0 : Int) ≤ (G : Int) := by omega
    clear HA hRS hGm hi0 hz0 hzs hzb
    go_enter Tryz.func103, Tryz.ntmps103
    go_wp2_with (first | (at_builtin; refine wpList_appendz_ran rfl _ _ _ _ rfl _ _ rfl rfl (HAA.out _) ?_))
    go_wp2
    go_ret
    exact ⟨_, G, rfl, HFIN.out _ rfl, by exact blBy⟩
theorem concatVal (d : Nat) (w : World) (Z : Nat → Prop) (rows : List (Option Addr × Nat × List (CV CM))) (p : Nat) (hp : Blk w p 31 (rows.map rwV).toArray) (hr : ∀ r ∈ rows, RowM w Z 3 ((FmV d) w Z) (rwV r) r.2.2) (hn : (rwL rows).length ≤ 4000000) (hm : rows.length ≤ 1000) : Calls Tryz.prog 84 #[.slice (some ⟨p, 0, none⟩) rows.length rows.length] w fun e w' => ∃ a c, e = .returned (.slice a (rwL rows).length c) ∧ OwnA w' w.heap.size Z 39 3 (FmV d) (.slice a (rwL rows).length c) (rwL rows) ∧ Below w.heap.size w w' := by
  have HP := hid hp
  have HR := hid hr
  have m1 : (rows.length : Int) ≤ 9223372036854775807 := by omega
  clear hp hr
  go_enter Tryz.func84, Tryz.ntmps84
  go_wp2
  go_loopw [3, 11] (fun s3 s11 wr => ∃ (j n : Nat), s3 = .int .i64 (n : Int) ∧ s11 = .int .i64 (j : Int) ∧ j ≤ rows.length ∧ Hid ((rwL (rows.take j)).length = n) ∧ n ≤ 4000000 ∧ wr = w) (fun s3 s11 wr => rows.length - numAt wr s11)
  case atStart => exact ⟨0, 0, rfl, rfl, by omega, hid rfl, by omega, rfl⟩
  case round =>
    obtain ⟨j, n, rfl, rfl, hj, HN, hn4, rfl⟩ := hrel
    by_cases hlt : j < rows.length
    · have k2 : (j : Int) < (rows.length : Int) := by omega
      have hc : wr.cell? ⟨p, j, none⟩ = some (rwV rows[j]) := HP.out.cell j _ (by simp [hlt])
      have zp := HP.out.lt
      have HT := hid (rwL_take hlt)
      have HL : Hid ((rwL (rows.take (j + 1))).length ≤ 4000000) := hid (Nat.le_trans (rwL_le rows (j + 1)) hn)
      generalize rows[j] = r at *
      obtain ⟨ra, rc, rx⟩ := r
      unfold rwV at hc
      dsimp only at hc HT
      have hs : n + rx.length ≤ 4000000 := by have := HL.out; rw [HT.out, List.length_append, HN.out] at this; exact this
      have hw : IntKind.i64.wrap ((n : Int) + (rx.length : Int)) = (n : Int) + (rx.length : Int) := by rw [IntKind.wrap_i64]; omega
      have hz : ((n : Int) + (rx.length : Int) < 0) = False := eq_false (by omega)
      have hl9 : (rx.length : Int) ≤ 9223372036854775807 := by omega
      go_wp2
      exact ⟨⟨j + 1, n + rx.length, by simp, by simp, by omega, hid (by rw [HT.out, List.length_append, HN.out]), hs, trivial⟩, by simp [numAt]; omega⟩
    · have k2 : ¬ (j : Int) < (rows.length : Int) := by omega
      have e1 : rows.take j = rows := List.take_of_length_le (by omega)
      rw [e1] at HN
      clear e1
      go_wp2_with fail
      refine (growVal _ n hn4).mono ?_
      rintro e w1 ⟨ga, gc, rfl, ho, hb⟩
      have HO : Hid (OwnA w1 wr.heap.size Z 39 3 (FmV d) (.slice ga 0 gc) []) := hid ⟨[], ho, rfl, fun i t x ht => by simp at ht⟩
      have HB := hid hb
      clear ho hb hlt hj
      go_wp2
      clear k2 HN
      go_loopw [6, 27] (fun s6 s27 wx => ∃ (j m : Nat) (a : Option Addr) (c : Nat), s6 = .slice a m c ∧ s27 = .int .i64 (j : Int) ∧ j ≤ rows.length ∧ Hid ((rwL (rows.take j)).length = m) ∧ Hid (OwnA wx wr.heap.size Z 39 3 (FmV d) (.slice a m c) (rwL (rows.take j))) ∧ Hid (Below wr.heap.size wr wx)) (fun s6 s27 wx => rows.length - numAt wx s27)
      case atStart => exact ⟨0, 0, ga, gc, rfl, rfl, by omega, hid rfl, HO, HB⟩
      case round =>
        clear HO HB
        obtain ⟨j, m, oa, oc, rfl, rfl, hj, HM, HO, HB⟩ := hrel
        by_cases hlt : j < rows.length
        · have k2 : (j : Int) < (rows.length : Int) := by omega
          have HP1 := hid (HP.out.kept HB.out)
          have hc := HP1.out.cell j (rwV rows[j]) (by simp [hlt])
          have zp := HP1.out.lt
          have HT := hid (rwL_take hlt)
          have HL : Hid ((rwL (rows.take (j + 1))).length ≤ 4000000) := hid (Nat.le_trans (rwL_le rows (j + 1)) hn)
          have HQ := hid (rowA_old (famV d) (by decide) HO.out (HR.out _ (List.getElem_mem hlt)) HB.out)
          generalize rows[j] = r at *
          obtain ⟨ra, rc, rx⟩ := r
          unfold rwV at hc HQ
          dsimp only at hc HT HQ
          have hs : (rwL (rows.take j)).length + rx.length ≤ 4000000 := by have := HL.out; rw [HT.out, List.length_append] at this; exact this
          obtain ⟨la, lc, x1, HRUN, HO2, HG⟩ := OwnA.app (famV d) 39 31 56 (.agg #[.int .u64 0, .slice none 0 0, .slice none 0 0]) Tryz.underlying31 Tryz.infoV rfl (by decide) (by decide) HO.out HQ.out HB.out.size hs
          rw [HM.out] at HRUN HO2 HG
          have HB2 := hid (HB.out.trans (HO.out.bel HG.out (Nat.le_refl _) HB.out.size))
          have hl9 : (rx.length : Int) ≤ 9223372036854775807 := by omega
          clear hs HL HQ HG HB HP1
          go_wp2_with (first | (at_builtin; refine wpList_append_ran rfl _ _ 31 31 rfl rfl _ _ (.slice la (m + rx.length) lc) x1 rfl rfl HRUN.out ?_))
          exact ⟨⟨j + 1, m + rx.length, la, lc, rfl, by simp, by omega, hid (by rw [HT.out, List.length_append, HM.out]), hid (by rw [HT.out]; exact HO2.out), HB2⟩, by simp [numAt]; omega⟩
        · have k2 : ¬ (j : Int) < (rows.length : Int) := by omega
          have e1 : rows.take j = rows := List.take_of_length_le (by omega)
          rw [e1] at HO HM
          clear e1
          rw [← HM.out] at HO ⊢
          clear HM
          go_wp2
          go_ret
          exact ⟨oa, oc, rfl, HO.out, HB.out⟩
theorem growField (w : World) (n : Nat) (hn : n ≤ 4000000) : Calls Tryz.prog 109 #[.slice none 0 0, .int .i64 (n : Int)] w fun e w' => ∃ a c, e = .returned (.slice a 0 c) ∧ w'.ownsRow w.heap.size 33 3 (.slice a 0 c) 0 [] ∧ Below w.heap.size w w' := by
  by_cases h0 : n = 0
  · subst h0
    go_enter Tryz.func109, Tryz.ntmps109
    go_wp2
    go_ret
    exact ⟨none, 0, rfl, World.ownsRow_nil _ _ _ _, by exact blBy⟩
  · obtain ⟨i0, hi0, hz0, hzs, hzb⟩ := info_parts Tryz.infoF
    have HA := fun ty => Lib.run_append_grow_zeros (P := Tryz.prog) w 26 3 ty 33 i0 _ .i64 .i64 Tryz.underlying26 Tryz.underlying3 hi0 hz0 none 0 0 [] (by rw [hzs]; exact run_firstCells_none w.drew 3 0 0 0) n (by omega) (by omega) (by omega) (by omega) (by rw [hzb]; omega) (by rw [hzb]; exact growslice_fits (by omega) (by omega))
    simp only [Nat.zero_add] at HA
    obtain ⟨G, hG⟩ : ∃ G, G = grownCap w n 0 33 := ⟨_, rfl⟩
    have hGn : n ≤ G := by rw [hG]; exact grownCap_ge w _ _ _
    have hGm : G ≤ maxLen := by rw [hG]; exact grownCap_le_maxLen w _ _ _ (by unfold maxLen; omega)
    simp only [← hG] at HA
    clear hG
    obtain ⟨ROW, hROW⟩ : ∃ ROW : Array Value, ROW = ([] : List Value).toArray ++ Builtin.zeroCells (Value.cells (.agg #[.int .i64 0, .slice none 0 0, .slice none 0 0])) n ++ Builtin.zeroCells (Value.cells (.agg #[.int .i64 0, .slice none 0 0, .slice none 0 0])) (G - n) := ⟨_, rfl⟩
    have hRS : ROW.size = G * 3 := by
      rw [hROW]
      simp only [Array.size_append, List.size_toArray, Builtin.zeroCells, Array.size_map, Array.size_range]
      simp only [Value.cells]
      show 0 + n * 3 + (G - n) * 3 = G * 3
      omega
    simp only [← hROW] at HA
    clear hROW
    have HAA := hid HA
    have HFIN : Hid (∀ W : World, W.heap = (w.drew.alloc (.cells ROW 33)).heap → W.ownsRow w.heap.size 33 3 (.slice (some ⟨w.heap.size, 0, none⟩) 0 G) 0 []) := hid fun W hW => ⟨rfl, .inr ⟨w.heap.size, G, ROW, rfl, Nat.le_refl _, by rw [hW]; show (w.heap.push _)[w.heap.size]? = _; simp, Nat.zero_le _, hGm, hRS, by simp⟩⟩
    have k1 : (0 : Int) < (n : Int) := by omega
    have k2 : ((n : Int) < 0) = False := eq_false (by omega)
    have k3 : (n : Int) ≤ 9223372036854775807 := by omega
    have k5 : (G : Int) ≤ 9223372036854775807 := by unfold maxLen at hGm; omega
    have k6 : (0 : Int) ≤ (G : Int) := by omega
    clear HA hRS hGm hi0 hz0 hzs hzb
    go_enter Tryz.func109, Tryz.ntmps109
    go_wp2_with (first | (at_builtin; refine wpList_appendz_ran rfl _ _ _ _ rfl _ _ rfl rfl (HAA.out _) ?_))
    go_wp2
    go_ret
    exact ⟨_, G, rfl, HFIN.out _ rfl, by exact blBy⟩
theorem concatField (d : Nat) (w : World) (Z : Nat → Prop) (rows : List (Option Addr × Nat × List (CF CM))) (p : Nat) (hp : Blk w p 26 (rows.map rwV).toArray) (hr : ∀ r ∈ rows, RowM w Z 3 ((FmF d) w Z) (rwV r) r.2.2) (hn : (rwL rows).length ≤ 4000000) (hm : rows.length ≤ 1000) : Calls Tryz.prog 86 #[.slice (some ⟨p, 0, none⟩) rows.length rows.length] w fun e w' => ∃ a c, e = .returned (.slice a (rwL rows).length c) ∧ OwnA w' w.heap.size Z 33 3 (FmF d) (.slice a (rwL rows).length c) (rwL rows) ∧ Below w.heap.size w w' := by
  have HP := hid hp
  have HR := hid hr
  have m1 : (rows.length : Int) ≤ 9223372036854775807 := by omega
  clear hp hr
  go_enter Tryz.func86, Tryz.ntmps86
  go_wp2
  go_loopw [3, 11] (fun s3 s11 wr => ∃ (j n : Nat), s3 = .int .i64 (n : Int) ∧ s11 = .int .i64 (j : Int) ∧ j ≤ rows.length ∧ Hid ((rwL (rows.take j)).length = n) ∧ n ≤ 4000000 ∧ wr = w) (fun s3 s11 wr => rows.length - numAt wr s11)
  case atStart => exact ⟨0, 0, rfl, rfl, by omega, hid rfl, by omega, rfl⟩
  case round =>
    obtain ⟨j, n, rfl, rfl, hj, HN, hn4, rfl⟩ := hrel
    by_cases hlt : j < rows.length
    · have k2 : (j : Int) < (rows.length : Int) := by omega
      have hc : wr.cell? ⟨p, j, none⟩ = some (rwV rows[j]) := HP.out.cell j _ (by simp [hlt])
      have zp := HP.out.lt
      have HT := hid (rwL_take hlt)
      have HL : Hid ((rwL (rows.take (j + 1))).length ≤ 4000000) := hid (Nat.le_trans (rwL_le rows (j + 1)) hn)
      generalize rows[j] = r at *
      obtain ⟨ra, rc, rx⟩ := r
      unfold rwV at hc
      dsimp only at hc HT
      have hs : n + rx.length ≤ 4000000 := by have := HL.out; rw [HT.out, List.length_append, HN.out] at this; exact this
      have hw : IntKind.i64.wrap ((n : Int) + (rx.length : Int)) = (n : Int) + (rx.length : Int) := by rw [IntKind.wrap_i64]; omega
      have hz : ((n : Int) + (rx.length : Int) < 0) = False := eq_false (by omega)
      have hl9 : (rx.length : Int) ≤ 9223372036854775807 := by omega
      go_wp2
      exact ⟨⟨j + 1, n + rx.length, by simp, by simp, by omega, hid (by rw [HT.out, List.length_append, HN.out]), hs, trivial⟩, by simp [numAt]; omega⟩
    · have k2 : ¬ (j : Int) < (rows.length : Int) := by omega
      have e1 : rows.take j = rows := List.take_of_length_le (by omega)
      rw [e1] at HN
      clear e1
      go_wp2_with fail
      refine (growField _ n hn4).mono ?_
      rintro e w1 ⟨ga, gc, rfl, ho, hb⟩
      have HO : Hid (OwnA w1 wr.heap.size Z 33 3 (FmF d) (.slice ga 0 gc) []) := hid ⟨[], ho, rfl, fun i t x ht => by simp at ht⟩
      have HB := hid hb
      clear ho hb hlt hj
      go_wp2
      clear k2 HN
      go_loopw [6, 27] (fun s6 s27 wx => ∃ (j m : Nat) (a : Option Addr) (c : Nat), s6 = .slice a m c ∧ s27 = .int .i64 (j : Int) ∧ j ≤ rows.length ∧ Hid ((rwL (rows.take j)).length = m) ∧ Hid (OwnA wx wr.heap.size Z 33 3 (FmF d) (.slice a m c) (rwL (rows.take j))) ∧ Hid (Below wr.heap.size wr wx)) (fun s6 s27 wx => rows.length - numAt wx s27)
      case atStart => exact ⟨0, 0, ga, gc, rfl, rfl, by omega, hid rfl, HO, HB⟩
      case round =>
        clear HO HB
        obtain ⟨j, m, oa, oc, rfl, rfl, hj, HM, HO, HB⟩ := hrel
        by_cases hlt : j < rows.length
        · have k2 : (j : Int) < (rows.length : Int) := by omega
          have HP1 := hid (HP.out.kept HB.out)
          have hc := HP1.out.cell j (rwV rows[j]) (by simp [hlt])
          have zp := HP1.out.lt
          have HT := hid (rwL_take hlt)
          have HL : Hid ((rwL (rows.take (j + 1))).length ≤ 4000000) := hid (Nat.le_trans (rwL_le rows (j + 1)) hn)
          have HQ := hid (rowA_old (famF d) (by decide) HO.out (HR.out _ (List.getElem_mem hlt)) HB.out)
          generalize rows[j] = r at *
          obtain ⟨ra, rc, rx⟩ := r
          unfold rwV at hc HQ
          dsimp only at hc HT HQ
          have hs : (rwL (rows.take j)).length + rx.length ≤ 4000000 := by have := HL.out; rw [HT.out, List.length_append] at this; exact this
          obtain ⟨la, lc, x1, HRUN, HO2, HG⟩ := OwnA.app (famF d) 33 26 56 (.agg #[.int .i64 0, .slice none 0 0, .slice none 0 0]) Tryz.underlying26 Tryz.infoF rfl (by decide) (by decide) HO.out HQ.out HB.out.size hs
          rw [HM.out] at HRUN HO2 HG
          have HB2 := hid (HB.out.trans (HO.out.bel HG.out (Nat.le_refl _) HB.out.size))
          have hl9 : (rx.length : Int) ≤ 9223372036854775807 := by omega
          clear hs HL HQ HG HB HP1
          go_wp2_with (first | (at_builtin; refine wpList_append_ran rfl _ _ 26 26 rfl rfl _ _ (.slice la (m + rx.length) lc) x1 rfl rfl HRUN.out ?_))
          exact ⟨⟨j + 1, m + rx.length, la, lc, rfl, by simp, by omega, hid (by rw [HT.out, List.length_append, HM.out]), hid (by rw [HT.out]; exact HO2.out), HB2⟩, by simp [numAt]; omega⟩
        · have k2 : ¬ (j : Int) < (rows.length : Int) := by omega
          have e1 : rows.take j = rows := List.take_of_length_le (by omega)
          rw [e1] at HO HM
          clear e1
          rw [← HM.out] at HO ⊢
          clear HM
          go_wp2
          go_ret
          exact ⟨oa, oc, rfl, HO.out, HB.out⟩
end Go.Proofs.YtmiemocdjkeefaaGreatDoor
namespace Go.Proofs.YtmiemocdjkeefaaGreatDoor
set_option linter.unusedVariables false
set_option linter.unusedSimpArgs false
/-- The union of two lists. -/
def uni {α : Type} (ord : α → α → Int) (both : α → α → α) : List α → List α → List α
  | [], b => b
  | x :: a, [] => x :: a
  | x :: a, y :: b => if ord x y < 0 then x :: uni ord both a (y :: b) else if 0 < ord x y then y :: uni ord both (x :: a) b else both x y :: uni ord both a b
termination_by a b => a.length + b.length
theorem uni_nil {α : Type} {ord : α → α → Int} {both : α → α → α} (b : List α) : uni ord both [] b = b := by rw [uni]
theorem uni_nilR {α : Type} {ord : α → α → Int} {both : α → α → α} (a : List α) : uni ord both a [] = a := by cases a <;> rw [uni]
theorem uni_lt {α : Type} {ord : α → α → Int} {both : α → α → α} {x y : α} {a b : List α} (h : ord x y < 0) : uni ord both (x :: a) (y :: b) = x :: uni ord both a (y :: b) := by rw [uni, if_pos h]
theorem uni_gt {α : Type} {ord : α → α → Int} {both : α → α → α} {x y : α} {a b : List α} (h : 0 < ord x y) : uni ord both (x :: a) (y :: b) = y :: uni ord both (x :: a) b := by rw [uni, if_neg (by omega), if_pos h]
theorem uni_eq {α : Type} {ord : α → α → Int} {both : α → α → α} {x y : α} {a b : List α} (h : ord x y = 0) : uni ord both (x :: a) (y :: b) = both x y :: uni ord both a b := by rw [uni, if_neg (by omega), if_neg (by omega)]
/-- An order of those that are so, by what a key tells. -/
structure Ord {α : Type} (In : α → Prop) (ord : α → α → Int) : Prop where
  swap : ∀ {x y}, In x → In y → (ord x y < 0 ↔ 0 < ord y x)
  lt : ∀ {x y z}, In x → In y → In z → ord x y < 0 → ord y z < 0 → ord x z < 0
  le : ∀ {x y z}, In x → In y → In z → ord x y = 0 → ord y z < 0 → ord x z < 0
  el : ∀ {x y z}, In x → In y → In z → ord x y < 0 → ord y z = 0 → ord x z < 0
theorem Ord.swap0 {α : Type} {In : α → Prop} {ord : α → α → Int} (O : Ord In ord) {x y : α} (hx : In x) (hy : In y) : ord x y = 0 ↔ ord y x = 0 := by
  have h1 := O.swap hx hy
  have h2 := O.swap hy hx
  omega
theorem Ord.gt {α : Type} {In : α → Prop} {ord : α → α → Int} (O : Ord In ord) {x y : α} (hx : In x) (hy : In y) : 0 < ord x y ↔ ord y x < 0 := (O.swap hy hx).symm
theorem Ord.ee {α : Type} {In : α → Prop} {ord : α → α → Int} (O : Ord In ord) {x y z : α} (hx : In x) (hy : In y) (hz : In z) (h : ord x y = 0) (g : ord y z = 0) : ord x z = 0 := by
  have a1 : ¬ ord x z < 0 := fun q => by
    have := O.el hy hx hz |> fun _ => O.le hy hx hz ((O.swap0 hx hy).1 h) q
    omega
  have a2 : ¬ 0 < ord x z := fun q => by
    have q' := (O.gt hx hz).1 q
    have := O.el hz hx hy q' h
    have := (O.swap hz hy).1 this
    omega
  omega
def Asc {α : Type} (ord : α → α → Int) (l : List α) : Prop := l.Pairwise (fun x y => ord x y < 0)
section
variable {α : Type} {In : α → Prop} {ord : α → α → Int} {both : α → α → α}
end
end Go.Proofs.YtmiemocdjkeefaaGreatDoor
namespace Go.Proofs.YtmiemocdjkeefaaGreatDoor
open Go.RowKit
set_option maxRecDepth 1000000
set_option linter.unusedVariables false
set_option linter.unusedSimpArgs false
set_option maxHeartbeats 1000000
/-- A value of a field, but for what a message holds. -/
def valB (l : List TV) (o : FT) (v : CV CM) : Bool := if o.kind = 17 then (v.n == 0) && (((v.b.length : Int) == 0) && ((v.ms.length : Int) == 1)) else if o.kind = 16 then vfit 16 v.n v.b.length v.ms.length && (match l[o.ref.toNat]? with | some y => y.t.ss.any (symN v.n) | none => false) else scalarB o.kind v
theorem valIsTypedM (w : World) (l : List TV) (ta : Option Addr) (tc : Nat) (h : TbR w (.slice ta l.length tc) l) (o : FT) (hr : 0 ≤ o.ref ∧ o.ref.toNat < l.length) (Z : Nat → Prop) (d : Nat) (cs : List Value) (v : CV CM) (hv : ValE w Z (MsgE w Z d) cs v) : Calls Tryz.prog 150 #[.agg #[.slice ta l.length tc], .agg #[.string (strOfNums o.name), .int .i64 o.num, .int .i64 o.kind, .int .i64 o.ref, .int .i64 o.lab, .int .i64 o.one, .int .i64 o.key], .agg cs.toArray] w fun e w' => e = .returned (.bool (valB l o v)) ∧ Below w.heap.size w w' := by
  have HV := hid hv
  obtain ⟨ba, bc, ma, mc, rfl, g1, -, l1, l2, hu⟩ := val_open hv
  have m1 : (v.b.length : Int) ≤ 9223372036854775807 := by omega
  have m2 : (v.ms.length : Int) ≤ 9223372036854775807 := by omega
  clear hv
  by_cases h17 : o.kind = 17
  · have k1 : (o.kind == 17) = true := by simpa using h17
    have HX : Hid (valB l o v = ((v.n == 0) && (((v.b.length : Int) == 0) && ((v.ms.length : Int) == 1)))) := hid (by unfold valB; rw [if_pos h17])
    clear h hr HV
    go_enter Tryz.func150, Tryz.ntmps150
    go_wp2
    all_goals (go_ret; exact ⟨ret_bool (by rw [HX.out]; simp [*]), by exact blBy⟩)
  by_cases h16 : o.kind = 16
  · have k0 : (o.kind == 17) = false := by simpa using h17
    have k1 : (o.kind == 16) = true := by simpa using h16
    obtain ⟨j, hj⟩ := Int.eq_ofNat_of_zero_le hr.1
    have hjl : j < l.length := by have := hr.2; omega
    have ht : o.ref.toNat = j := by omega
    obtain ⟨_, _, el, l63⟩ := rowS_sl h.row
    clear el
    have m3 : (l.length : Int) ≤ 9223372036854775807 := by omega
    have k5 : (j : Int) < (l.length : Int) := by omega
    have HX : Hid (valB l o v = (vfit 16 v.n v.b.length v.ms.length && l[j].t.ss.any (symN v.n))) := hid (by unfold valB; rw [if_neg h17, if_pos h16, ht, List.getElem?_eq_getElem hjl])
    obtain ⟨tb, tof, rfl, hbl, c0, c1, c2, c3, c4, c5⟩ := row6 h.row hjl
    have HTY := hid (h.ty _ (List.getElem_mem hjl))
    have HF := hid fun W => fitsW 16 v.n ba ma v.b.length bc v.ms.length mc W hu.1 hu.2 (by omega) (by omega)
    generalize valB l o v = res at *
    generalize l[j] = y at *
    obtain ⟨a1, n1, a2, n2, a3, n3, a4, n4, e1, e2, e3, e4⟩ := shT_of HTY.out
    have ecy : cTV y = [.string (strOfNums y.t.name), .bool y.t.enum, .slice a1 y.t.fs.length n1, .slice a2 y.t.os.length n2, .slice a3 y.t.ss.length n3, .slice a4 y.t.rs.length n4] := by unfold cTV; rw [e1, e2, e3, e4]
    rw [e1] at c2
    rw [e2] at c3
    rw [e3] at c4
    rw [e4] at c5
    have HSY := hid fun W (hW : Below w.heap.size w W) => hasSymbolT W y (HTY.out.kept hW) v.n
    rw [ecy] at HSY
    generalize o.kind = kd at *
    generalize o.ref = rf at *
    subst h16 hj
    clear h hr HV g1 hu ht h17 e1 e2 e3 e4 ecy HTY k0 k1
    cases hq : vfit 16 v.n v.b.length v.ms.length with
    | false =>
      rw [hq, Bool.false_and] at HX
      rw [hq] at HF
      go_enter Tryz.func150, Tryz.ntmps150
      go_upto_region 5 with fail
      have Bwar : Hid (Blk (((w.alloc (.cells #[.slice (some ⟨tb, tof, none⟩) l.length tc] 122)).alloc (.cells #[.string (strOfNums o.name), .int .i64 o.num, .int .i64 16, .int .i64 (j : Int), .int .i64 o.lab, .int .i64 o.one, .int .i64 o.key] 65)).alloc (.cells #[.int .u64 v.n, .slice ba v.b.length bc, .slice ma v.ms.length mc] 39)) w.heap.size 122 #[.slice (some ⟨tb, tof, none⟩) l.length tc]) := hid (((Blk.new _ _ _).kept (below_alloc _)).kept (below_alloc _))
      have Bwao : Hid (Blk (((w.alloc (.cells #[.slice (some ⟨tb, tof, none⟩) l.length tc] 122)).alloc (.cells #[.string (strOfNums o.name), .int .i64 o.num, .int .i64 16, .int .i64 (j : Int), .int .i64 o.lab, .int .i64 o.one, .int .i64 o.key] 65)).alloc (.cells #[.int .u64 v.n, .slice ba v.b.length bc, .slice ma v.ms.length mc] 39)) (w.heap.size + 1) 65 #[.string (strOfNums o.name), .int .i64 o.num, .int .i64 16, .int .i64 (j : Int), .int .i64 o.lab, .int .i64 o.one, .int .i64 o.key]) := hid ((Blk.newAt (by simp)).kept (below_alloc _))
      have Bwav : Hid (Blk (((w.alloc (.cells #[.slice (some ⟨tb, tof, none⟩) l.length tc] 122)).alloc (.cells #[.string (strOfNums o.name), .int .i64 o.num, .int .i64 16, .int .i64 (j : Int), .int .i64 o.lab, .int .i64 o.one, .int .i64 o.key] 65)).alloc (.cells #[.int .u64 v.n, .slice ba v.b.length bc, .slice ma v.ms.length mc] 39)) (w.heap.size + 1 + 1) 39 #[.int .u64 v.n, .slice ba v.b.length bc, .slice ma v.ms.length mc]) := hid (Blk.newAt (by simp))
      have Hwa : Hid (Below w.heap.size w (((w.alloc (.cells #[.slice (some ⟨tb, tof, none⟩) l.length tc] 122)).alloc (.cells #[.string (strOfNums o.name), .int .i64 o.num, .int .i64 16, .int .i64 (j : Int), .int .i64 o.lab, .int .i64 o.one, .int .i64 o.key] 65)).alloc (.cells #[.int .u64 v.n, .slice ba v.b.length bc, .slice ma v.ms.length mc] 39))) := hid (by exact blBy)
      generalize (((w.alloc (.cells #[.slice (some ⟨tb, tof, none⟩) l.length tc] 122)).alloc (.cells #[.string (strOfNums o.name), .int .i64 o.num, .int .i64 16, .int .i64 (j : Int), .int .i64 o.lab, .int .i64 o.one, .int .i64 o.key] 65)).alloc (.cells #[.int .u64 v.n, .slice ba v.b.length bc, .slice ma v.ms.length mc] 39)) = wa at *
      refine wp_region_held_drew (S := (fun W => (∀ k, W.cell? ⟨w.heap.size, k, none⟩ = #[.slice (some ⟨tb, tof, none⟩) l.length tc][k]?) ∧ (∀ k, W.cell? ⟨w.heap.size + 1, k, none⟩ = #[.string (strOfNums o.name), .int .i64 o.num, .int .i64 16, .int .i64 (j : Int), .int .i64 o.lab, .int .i64 o.one, .int .i64 o.key][k]?) ∧ (∀ k, W.cell? ⟨w.heap.size + 1 + 1, k, none⟩ = #[.int .u64 v.n, .slice ba v.b.length bc, .slice ma v.ms.length mc][k]?) ∧ W.cell? ⟨tb, tof + j * 6, none⟩ = some (.string (strOfNums y.t.name)) ∧ W.cell? ⟨tb, tof + j * 6 + 1, none⟩ = some (.bool y.t.enum) ∧ W.cell? ⟨tb, tof + j * 6 + 2, none⟩ = some (.slice a1 y.t.fs.length n1) ∧ W.cell? ⟨tb, tof + j * 6 + 3, none⟩ = some (.slice a2 y.t.os.length n2) ∧ W.cell? ⟨tb, tof + j * 6 + 4, none⟩ = some (.slice a3 y.t.ss.length n3) ∧ W.cell? ⟨tb, tof + j * 6 + 5, none⟩ = some (.slice a4 y.t.rs.length n4))) (by kernel_rfl) ?_ (fun hHeld => ?_)
      · exact ⟨(Bwar.out.kept (below_drew1 _)).cellF, (Bwao.out.kept (below_drew1 _)).cellF, (Bwav.out.kept (below_drew1 _)).cellF, cell_below c0 (below_trans Hwa.out (below_drew1 _)), cell_below c1 (below_trans Hwa.out (below_drew1 _)), cell_below c2 (below_trans Hwa.out (below_drew1 _)), cell_below c3 (below_trans Hwa.out (below_drew1 _)), cell_below c4 (below_trans Hwa.out (below_drew1 _)), cell_below c5 (below_trans Hwa.out (below_drew1 _))⟩
      refine wpAnyH_take (i := 0) (v := ?_) rfl (by kernel_rfl) (by kernel_rfl) (by kernel_rfl) (fun _ _ _ h => h) (Or.inl ⟨by rfl, ?_⟩) (by assumption) ?_
      rotate_left
      · (intro w hSw; (try dsimp only at hSw); go_simp; (try with_reducible rfl))
      try simp only [Act.put, List.getElem_toArray, List.getElem_cons_succ, List.getElem_cons_zero, List.setIfInBounds_toArray, List.set_cons_zero, List.set_cons_succ]
      refine wpAnyH_ready (rs := [1]) (by kernel_rfl) (by simp) ?_
      refine AllReadyH.cons rfl (fun K hK => ?_) AllReadyH.nil
      go_simp
      go_wp2_with (go_at_call 142; refine (HF.out _).mono ?_; rintro e u1 ⟨rfl, hbx⟩; have HXB : Hid (Below wa.heap.size wa u1) := hid (bl_then (below_drew1 _) hbx); clear hbx)
      have Bu1r : Hid (Blk u1 w.heap.size 122 #[.slice (some ⟨tb, tof, none⟩) l.length tc]) := hid (Bwar.out.kept HXB.out)
      have Bu1o : Hid (Blk u1 (w.heap.size + 1) 65 #[.string (strOfNums o.name), .int .i64 o.num, .int .i64 16, .int .i64 (j : Int), .int .i64 o.lab, .int .i64 o.one, .int .i64 o.key]) := hid (Bwao.out.kept HXB.out)
      have Bu1v : Hid (Blk u1 (w.heap.size + 1 + 1) 39 #[.int .u64 v.n, .slice ba v.b.length bc, .slice ma v.ms.length mc]) := hid (Bwav.out.kept HXB.out)
      have Hu1 : Hid (Below w.heap.size w u1) := hid (below_trans Hwa.out HXB.out)
      refine hK.out _ _ ?_ (fun hHeld => ?_)
      · first | assumption | exact ⟨Bu1r.out.cellF, Bu1o.out.cellF, Bu1v.out.cellF, cell_below c0 Hu1.out, cell_below c1 Hu1.out, cell_below c2 Hu1.out, cell_below c3 Hu1.out, cell_below c4 Hu1.out, cell_below c5 Hu1.out⟩
      clear hK K
      try simp only [Act.put, List.getElem_toArray, List.getElem_cons_succ, List.getElem_cons_zero, List.setIfInBounds_toArray, List.set_cons_zero, List.set_cons_succ]
      refine wpAnyH_take (i := 2) (v := ?_) rfl (by kernel_rfl) (by kernel_rfl) (by kernel_rfl) (fun _ _ _ h => h) (Or.inl ⟨by rfl, ?_⟩) (by assumption) ?_
      rotate_left
      · (intro w hSw; (try dsimp only at hSw); go_simp; (try with_reducible rfl))
      try simp only [Act.put, List.getElem_toArray, List.getElem_cons_succ, List.getElem_cons_zero, List.setIfInBounds_toArray, List.set_cons_zero, List.set_cons_succ]
      refine wpAnyH_take (i := 3) (v := undef) rfl (by kernel_rfl) (by kernel_rfl) (by kernel_rfl) (fun _ _ _ h => h) (Or.inr ⟨by kernel_rfl, rfl⟩) (by assumption) ?_
      try simp only [Act.put, List.getElem_toArray, List.getElem_cons_succ, List.getElem_cons_zero, List.setIfInBounds_toArray, List.set_cons_zero, List.set_cons_succ]
      refine wpAnyH_take (i := 4) (v := undef) rfl (by kernel_rfl) (by kernel_rfl) (by kernel_rfl) (fun _ _ _ h => h) (Or.inr ⟨by kernel_rfl, rfl⟩) (by assumption) ?_
      try simp only [Act.put, List.getElem_toArray, List.getElem_cons_succ, List.getElem_cons_zero, List.setIfInBounds_toArray, List.set_cons_zero, List.set_cons_succ]
      refine wpAnyH_take (i := 5) (v := undef) rfl (by kernel_rfl) (by kernel_rfl) (by kernel_rfl) (fun _ _ _ h => h) (Or.inr ⟨by kernel_rfl, rfl⟩) (by assumption) ?_
      try simp only [Act.put, List.getElem_toArray, List.getElem_cons_succ, List.getElem_cons_zero, List.setIfInBounds_toArray, List.set_cons_zero, List.set_cons_succ]
      refine wpAnyH_take (i := 6) (v := undef) rfl (by kernel_rfl) (by kernel_rfl) (by kernel_rfl) (fun _ _ _ h => h) (Or.inr ⟨by kernel_rfl, rfl⟩) (by assumption) ?_
      try simp only [Act.put, List.getElem_toArray, List.getElem_cons_succ, List.getElem_cons_zero, List.setIfInBounds_toArray, List.set_cons_zero, List.set_cons_succ]
      refine wpAnyH_take (i := 7) (v := undef) rfl (by kernel_rfl) (by kernel_rfl) (by kernel_rfl) (fun _ _ _ h => h) (Or.inr ⟨by kernel_rfl, rfl⟩) (by assumption) ?_
      try simp only [Act.put, List.getElem_toArray, List.getElem_cons_succ, List.getElem_cons_zero, List.setIfInBounds_toArray, List.set_cons_zero, List.set_cons_succ]
      refine wpAnyH_take (i := 8) (v := undef) rfl (by kernel_rfl) (by kernel_rfl) (by kernel_rfl) (fun _ _ _ h => h) (Or.inr ⟨by kernel_rfl, rfl⟩) (by assumption) ?_
      try simp only [Act.put, List.getElem_toArray, List.getElem_cons_succ, List.getElem_cons_zero, List.setIfInBounds_toArray, List.set_cons_zero, List.set_cons_succ]
      refine wpAnyH_take (i := 9) (v := undef) rfl (by kernel_rfl) (by kernel_rfl) (by kernel_rfl) (fun _ _ _ h => h) (Or.inr ⟨by kernel_rfl, rfl⟩) (by assumption) ?_
      try simp only [Act.put, List.getElem_toArray, List.getElem_cons_succ, List.getElem_cons_zero, List.setIfInBounds_toArray, List.set_cons_zero, List.set_cons_succ]
      refine wpAnyH_take (i := 10) (v := undef) rfl (by kernel_rfl) (by kernel_rfl) (by kernel_rfl) (fun _ _ _ h => h) (Or.inr ⟨by kernel_rfl, rfl⟩) (by assumption) ?_
      try simp only [Act.put, List.getElem_toArray, List.getElem_cons_succ, List.getElem_cons_zero, List.setIfInBounds_toArray, List.set_cons_zero, List.set_cons_succ]
      refine wpAnyH_take (i := 11) (v := undef) rfl (by kernel_rfl) (by kernel_rfl) (by kernel_rfl) (fun _ _ _ h => h) (Or.inr ⟨by kernel_rfl, rfl⟩) (by assumption) ?_
      try simp only [Act.put, List.getElem_toArray, List.getElem_cons_succ, List.getElem_cons_zero, List.setIfInBounds_toArray, List.set_cons_zero, List.set_cons_succ]
      refine wpAnyH_take (i := 12) (v := ?_) rfl (by kernel_rfl) (by kernel_rfl) (by kernel_rfl) (fun _ _ _ h => h) (Or.inl ⟨by rfl, ?_⟩) (by assumption) ?_
      rotate_left
      · (intro w hSw; (try dsimp only at hSw); go_simp; (try with_reducible rfl))
      try simp only [Act.put, List.getElem_toArray, List.getElem_cons_succ, List.getElem_cons_zero, List.setIfInBounds_toArray, List.set_cons_zero, List.set_cons_succ]
      refine wpAnyH_take (i := 13) (v := ?_) rfl (by kernel_rfl) (by kernel_rfl) (by kernel_rfl) (fun _ _ _ h => h) (Or.inl ⟨by rfl, ?_⟩) (by assumption) ?_
      rotate_left
      · (intro w hSw; (try dsimp only at hSw); go_simp; (try with_reducible rfl))
      try simp only [Act.put, List.getElem_toArray, List.getElem_cons_succ, List.getElem_cons_zero, List.setIfInBounds_toArray, List.set_cons_zero, List.set_cons_succ]
      refine wpAnyH_done (by kernel_rfl) ?_ _
      go_wp2
      go_ret
      exact ⟨ret_bool HX.out.symm, by have := Hu1.out; exact blBy⟩
    | true =>
      rw [hq, Bool.true_and] at HX
      rw [hq] at HF
      go_enter Tryz.func150, Tryz.ntmps150
      go_upto_region 5 with fail
      have Bwar : Hid (Blk (((w.alloc (.cells #[.slice (some ⟨tb, tof, none⟩) l.length tc] 122)).alloc (.cells #[.string (strOfNums o.name), .int .i64 o.num, .int .i64 16, .int .i64 (j : Int), .int .i64 o.lab, .int .i64 o.one, .int .i64 o.key] 65)).alloc (.cells #[.int .u64 v.n, .slice ba v.b.length bc, .slice ma v.ms.length mc] 39)) w.heap.size 122 #[.slice (some ⟨tb, tof, none⟩) l.length tc]) := hid (((Blk.new _ _ _).kept (below_alloc _)).kept (below_alloc _))
      have Bwao : Hid (Blk (((w.alloc (.cells #[.slice (some ⟨tb, tof, none⟩) l.length tc] 122)).alloc (.cells #[.string (strOfNums o.name), .int .i64 o.num, .int .i64 16, .int .i64 (j : Int), .int .i64 o.lab, .int .i64 o.one, .int .i64 o.key] 65)).alloc (.cells #[.int .u64 v.n, .slice ba v.b.length bc, .slice ma v.ms.length mc] 39)) (w.heap.size + 1) 65 #[.string (strOfNums o.name), .int .i64 o.num, .int .i64 16, .int .i64 (j : Int), .int .i64 o.lab, .int .i64 o.one, .int .i64 o.key]) := hid ((Blk.newAt (by simp)).kept (below_alloc _))
      have Bwav : Hid (Blk (((w.alloc (.cells #[.slice (some ⟨tb, tof, none⟩) l.length tc] 122)).alloc (.cells #[.string (strOfNums o.name), .int .i64 o.num, .int .i64 16, .int .i64 (j : Int), .int .i64 o.lab, .int .i64 o.one, .int .i64 o.key] 65)).alloc (.cells #[.int .u64 v.n, .slice ba v.b.length bc, .slice ma v.ms.length mc] 39)) (w.heap.size + 1 + 1) 39 #[.int .u64 v.n, .slice ba v.b.length bc, .slice ma v.ms.length mc]) := hid (Blk.newAt (by simp))
      have Hwa : Hid (Below w.heap.size w (((w.alloc (.cells #[.slice (some ⟨tb, tof, none⟩) l.length tc] 122)).alloc (.cells #[.string (strOfNums o.name), .int .i64 o.num, .int .i64 16, .int .i64 (j : Int), .int .i64 o.lab, .int .i64 o.one, .int .i64 o.key] 65)).alloc (.cells #[.int .u64 v.n, .slice ba v.b.length bc, .slice ma v.ms.length mc] 39))) := hid (by exact blBy)
      generalize (((w.alloc (.cells #[.slice (some ⟨tb, tof, none⟩) l.length tc] 122)).alloc (.cells #[.string (strOfNums o.name), .int .i64 o.num, .int .i64 16, .int .i64 (j : Int), .int .i64 o.lab, .int .i64 o.one, .int .i64 o.key] 65)).alloc (.cells #[.int .u64 v.n, .slice ba v.b.length bc, .slice ma v.ms.length mc] 39)) = wa at *
      refine wp_region_held_drew (S := (fun W => (∀ k, W.cell? ⟨w.heap.size, k, none⟩ = #[.slice (some ⟨tb, tof, none⟩) l.length tc][k]?) ∧ (∀ k, W.cell? ⟨w.heap.size + 1, k, none⟩ = #[.string (strOfNums o.name), .int .i64 o.num, .int .i64 16, .int .i64 (j : Int), .int .i64 o.lab, .int .i64 o.one, .int .i64 o.key][k]?) ∧ (∀ k, W.cell? ⟨w.heap.size + 1 + 1, k, none⟩ = #[.int .u64 v.n, .slice ba v.b.length bc, .slice ma v.ms.length mc][k]?) ∧ W.cell? ⟨tb, tof + j * 6, none⟩ = some (.string (strOfNums y.t.name)) ∧ W.cell? ⟨tb, tof + j * 6 + 1, none⟩ = some (.bool y.t.enum) ∧ W.cell? ⟨tb, tof + j * 6 + 2, none⟩ = some (.slice a1 y.t.fs.length n1) ∧ W.cell? ⟨tb, tof + j * 6 + 3, none⟩ = some (.slice a2 y.t.os.length n2) ∧ W.cell? ⟨tb, tof + j * 6 + 4, none⟩ = some (.slice a3 y.t.ss.length n3) ∧ W.cell? ⟨tb, tof + j * 6 + 5, none⟩ = some (.slice a4 y.t.rs.length n4))) (by kernel_rfl) ?_ (fun hHeld => ?_)
      · exact ⟨(Bwar.out.kept (below_drew1 _)).cellF, (Bwao.out.kept (below_drew1 _)).cellF, (Bwav.out.kept (below_drew1 _)).cellF, cell_below c0 (below_trans Hwa.out (below_drew1 _)), cell_below c1 (below_trans Hwa.out (below_drew1 _)), cell_below c2 (below_trans Hwa.out (below_drew1 _)), cell_below c3 (below_trans Hwa.out (below_drew1 _)), cell_below c4 (below_trans Hwa.out (below_drew1 _)), cell_below c5 (below_trans Hwa.out (below_drew1 _))⟩
      refine wpAnyH_take (i := 0) (v := ?_) rfl (by kernel_rfl) (by kernel_rfl) (by kernel_rfl) (fun _ _ _ h => h) (Or.inl ⟨by rfl, ?_⟩) (by assumption) ?_
      rotate_left
      · (intro w hSw; (try dsimp only at hSw); go_simp; (try with_reducible rfl))
      try simp only [Act.put, List.getElem_toArray, List.getElem_cons_succ, List.getElem_cons_zero, List.setIfInBounds_toArray, List.set_cons_zero, List.set_cons_succ]
      refine wpAnyH_ready (rs := [1]) (by kernel_rfl) (by simp) ?_
      refine AllReadyH.cons rfl (fun K hK => ?_) AllReadyH.nil
      go_simp
      go_wp2_with (go_at_call 142; refine (HF.out _).mono ?_; rintro e u1 ⟨rfl, hbx⟩; have HXB : Hid (Below wa.heap.size wa u1) := hid (bl_then (below_drew1 _) hbx); clear hbx)
      have Bu1r : Hid (Blk u1 w.heap.size 122 #[.slice (some ⟨tb, tof, none⟩) l.length tc]) := hid (Bwar.out.kept HXB.out)
      have Bu1o : Hid (Blk u1 (w.heap.size + 1) 65 #[.string (strOfNums o.name), .int .i64 o.num, .int .i64 16, .int .i64 (j : Int), .int .i64 o.lab, .int .i64 o.one, .int .i64 o.key]) := hid (Bwao.out.kept HXB.out)
      have Bu1v : Hid (Blk u1 (w.heap.size + 1 + 1) 39 #[.int .u64 v.n, .slice ba v.b.length bc, .slice ma v.ms.length mc]) := hid (Bwav.out.kept HXB.out)
      have Hu1 : Hid (Below w.heap.size w u1) := hid (below_trans Hwa.out HXB.out)
      refine hK.out _ _ ?_ (fun hHeld => ?_)
      · first | assumption | exact ⟨Bu1r.out.cellF, Bu1o.out.cellF, Bu1v.out.cellF, cell_below c0 Hu1.out, cell_below c1 Hu1.out, cell_below c2 Hu1.out, cell_below c3 Hu1.out, cell_below c4 Hu1.out, cell_below c5 Hu1.out⟩
      clear hK K
      try simp only [Act.put, List.getElem_toArray, List.getElem_cons_succ, List.getElem_cons_zero, List.setIfInBounds_toArray, List.set_cons_zero, List.set_cons_succ]
      refine wpAnyH_take (i := 2) (v := ?_) rfl (by kernel_rfl) (by kernel_rfl) (by kernel_rfl) (fun _ _ _ h => h) (Or.inl ⟨by rfl, ?_⟩) (by assumption) ?_
      rotate_left
      · (intro w hSw; (try dsimp only at hSw); go_simp; (try with_reducible rfl))
      try simp only [Act.put, List.getElem_toArray, List.getElem_cons_succ, List.getElem_cons_zero, List.setIfInBounds_toArray, List.set_cons_zero, List.set_cons_succ]
      refine wpAnyH_take (i := 3) (v := ?_) rfl (by kernel_rfl) (by kernel_rfl) (by kernel_rfl) (fun _ _ _ h => h) (Or.inl ⟨by rfl, ?_⟩) (by assumption) ?_
      rotate_left
      · (intro w hSw; (try dsimp only at hSw); go_simp; (try with_reducible rfl))
      try simp only [Act.put, List.getElem_toArray, List.getElem_cons_succ, List.getElem_cons_zero, List.setIfInBounds_toArray, List.set_cons_zero, List.set_cons_succ]
      refine wpAnyH_take (i := 4) (v := ?_) rfl (by kernel_rfl) (by kernel_rfl) (by kernel_rfl) (fun _ _ _ h => h) (Or.inl ⟨by rfl, ?_⟩) (by assumption) ?_
      rotate_left
      · (intro w hSw; (try dsimp only at hSw); go_simp; (try with_reducible rfl))
      try simp only [Act.put, List.getElem_toArray, List.getElem_cons_succ, List.getElem_cons_zero, List.setIfInBounds_toArray, List.set_cons_zero, List.set_cons_succ]
      refine wpAnyH_take (i := 5) (v := ?_) rfl (by kernel_rfl) (by kernel_rfl) (by kernel_rfl) (fun _ _ _ h => h) (Or.inl ⟨by rfl, ?_⟩) (by assumption) ?_
      rotate_left
      · (intro w hSw; (try dsimp only at hSw); go_simp; (try with_reducible rfl))
      try simp only [Act.put, List.getElem_toArray, List.getElem_cons_succ, List.getElem_cons_zero, List.setIfInBounds_toArray, List.set_cons_zero, List.set_cons_succ]
      refine wpAnyH_take (i := 6) (v := ?_) rfl (by kernel_rfl) (by kernel_rfl) (by kernel_rfl) (fun _ _ _ h => h) (Or.inl ⟨by rfl, ?_⟩) (by assumption) ?_
      rotate_left
      · (intro w hSw; (try dsimp only at hSw); go_simp; (try with_reducible rfl))
      try simp only [Act.put, List.getElem_toArray, List.getElem_cons_succ, List.getElem_cons_zero, List.setIfInBounds_toArray, List.set_cons_zero, List.set_cons_succ]
      refine wpAnyH_take (i := 7) (v := ?_) rfl (by kernel_rfl) (by kernel_rfl) (by kernel_rfl) (fun _ _ _ h => h) (Or.inl ⟨by rfl, ?_⟩) (by assumption) ?_
      rotate_left
      · (intro w hSw; (try dsimp only at hSw); go_simp; (try with_reducible rfl))
      try simp only [Act.put, List.getElem_toArray, List.getElem_cons_succ, List.getElem_cons_zero, List.setIfInBounds_toArray, List.set_cons_zero, List.set_cons_succ]
      refine wpAnyH_take (i := 8) (v := ?_) rfl (by kernel_rfl) (by kernel_rfl) (by kernel_rfl) (fun _ _ _ h => h) (Or.inl ⟨by rfl, ?_⟩) (by assumption) ?_
      rotate_left
      · (intro w hSw; (try dsimp only at hSw); go_simp; (try with_reducible rfl))
      try simp only [Act.put, List.getElem_toArray, List.getElem_cons_succ, List.getElem_cons_zero, List.setIfInBounds_toArray, List.set_cons_zero, List.set_cons_succ]
      refine wpAnyH_take (i := 9) (v := ?_) rfl (by kernel_rfl) (by kernel_rfl) (by kernel_rfl) (fun _ _ _ h => h) (Or.inl ⟨by rfl, ?_⟩) (by assumption) ?_
      rotate_left
      · (intro w hSw; (try dsimp only at hSw); go_simp; (try with_reducible rfl))
      try simp only [Act.put, List.getElem_toArray, List.getElem_cons_succ, List.getElem_cons_zero, List.setIfInBounds_toArray, List.set_cons_zero, List.set_cons_succ]
      refine wpAnyH_take (i := 10) (v := ?_) rfl (by kernel_rfl) (by kernel_rfl) (by kernel_rfl) (fun _ _ _ h => h) (Or.inl ⟨by rfl, ?_⟩) (by assumption) ?_
      rotate_left
      · (intro w hSw; (try dsimp only at hSw); go_simp; (try with_reducible rfl))
      try simp only [Act.put, List.getElem_toArray, List.getElem_cons_succ, List.getElem_cons_zero, List.setIfInBounds_toArray, List.set_cons_zero, List.set_cons_succ]
      refine wpAnyH_ready (rs := [11]) (by kernel_rfl) (by simp) ?_
      refine AllReadyH.cons rfl (fun K hK => ?_) AllReadyH.nil
      go_simp
      go_wp2_with (go_at_call 176; refine (HSY.out _ (by have := Hu1.out; exact blBy)).mono ?_; rintro e u2 ⟨rfl, hbx⟩; have HXC : Hid (Below u1.heap.size u1 u2) := hid (by first | exact hbx | exact bl_then (below_drew1 _) hbx); clear hbx)
      have Bu2r : Hid (Blk u2 w.heap.size 122 #[.slice (some ⟨tb, tof, none⟩) l.length tc]) := hid (Bu1r.out.kept HXC.out)
      have Bu2o : Hid (Blk u2 (w.heap.size + 1) 65 #[.string (strOfNums o.name), .int .i64 o.num, .int .i64 16, .int .i64 (j : Int), .int .i64 o.lab, .int .i64 o.one, .int .i64 o.key]) := hid (Bu1o.out.kept HXC.out)
      have Bu2v : Hid (Blk u2 (w.heap.size + 1 + 1) 39 #[.int .u64 v.n, .slice ba v.b.length bc, .slice ma v.ms.length mc]) := hid (Bu1v.out.kept HXC.out)
      have Hu2 : Hid (Below w.heap.size w u2) := hid (below_trans Hu1.out HXC.out)
      refine hK.out _ _ ?_ (fun hHeld => ?_)
      · first | assumption | exact ⟨Bu2r.out.cellF, Bu2o.out.cellF, Bu2v.out.cellF, cell_below c0 Hu2.out, cell_below c1 Hu2.out, cell_below c2 Hu2.out, cell_below c3 Hu2.out, cell_below c4 Hu2.out, cell_below c5 Hu2.out⟩
      clear hK K
      try simp only [Act.put, List.getElem_toArray, List.getElem_cons_succ, List.getElem_cons_zero, List.setIfInBounds_toArray, List.set_cons_zero, List.set_cons_succ]
      refine wpAnyH_take (i := 12) (v := ?_) rfl (by kernel_rfl) (by kernel_rfl) (by kernel_rfl) (fun _ _ _ h => h) (Or.inl ⟨by rfl, ?_⟩) (by assumption) ?_
      rotate_left
      · (intro w hSw; (try dsimp only at hSw); go_simp; (try with_reducible rfl))
      try simp only [Act.put, List.getElem_toArray, List.getElem_cons_succ, List.getElem_cons_zero, List.setIfInBounds_toArray, List.set_cons_zero, List.set_cons_succ]
      refine wpAnyH_take (i := 13) (v := ?_) rfl (by kernel_rfl) (by kernel_rfl) (by kernel_rfl) (fun _ _ _ h => h) (Or.inl ⟨by rfl, ?_⟩) (by assumption) ?_
      rotate_left
      · (intro w hSw; (try dsimp only at hSw); go_simp; (try with_reducible rfl))
      try simp only [Act.put, List.getElem_toArray, List.getElem_cons_succ, List.getElem_cons_zero, List.setIfInBounds_toArray, List.set_cons_zero, List.set_cons_succ]
      refine wpAnyH_done (by kernel_rfl) ?_ _
      go_wp2
      go_ret
      exact ⟨ret_bool HX.out.symm, by have := Hu2.out; exact blBy⟩
  · have k0 : (o.kind == 17) = false := by simpa using h17
    have k1 : (o.kind == 16) = false := by simpa using h16
    have HX : Hid (valB l o v = scalarB o.kind v) := hid (by unfold valB; rw [if_neg h17, if_neg h16])
    have HS := hid fun W (hW : Below w.heap.size w W) => isScalarM W Z d o.kind [.int .u64 v.n, .slice ba v.b.length bc, .slice ma v.ms.length mc] v (HV.out.kept hW)
    clear h hr HV
    go_enter Tryz.func150, Tryz.ntmps150
    go_wp2_with fail
    refine (HS.out _ (by exact blBy)).mono ?_
    rintro e w1 ⟨rfl, hb1⟩
    have hbz : Hid (Below w.heap.size w w1) := hid (bl_then (by exact blBy) hb1)
    clear hb1
    go_wp2
    go_ret
    exact ⟨ret_bool HX.out.symm, hbz.out⟩
end Go.Proofs.YtmiemocdjkeefaaGreatDoor
