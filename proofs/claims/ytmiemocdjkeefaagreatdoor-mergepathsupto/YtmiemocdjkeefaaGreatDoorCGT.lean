/-
  The examples' numbers and messages; what merged says.
  The law's own merged; a number twice, a list twice.
  A number twice, a list twice: they are merged as the document says.
  MergePaths: the law's walk.
  MergePaths, whatever comes in.
  What comes in, opened: strings; and what the bound on it says.
-/
import Derived.Test.YtmiemocdjkeefaaGreatDoorCGP
import Derived.Test.YtmiemocdjkeefaaGreatDoorCTY
import Derived.Test.YtmiemocdjkeefaaGreatDoorCIS
import Derived.Test.YtmiemocdjkeefaaGreatDoorCAL
import Derived.ProofKit
import Derived.OpenShut
import Derived.ShutString
import Derived.Lib.SmallJoins
import Derived.Deep.Slices
import Derived.Deep.Fields
namespace Go.Proofs.YtmiemocdjkeefaaGreatDoor
open Go.RowKit
set_option maxRecDepth 1000000
set_option linter.unusedVariables false
set_option linter.unusedSimpArgs false
set_option maxHeartbeats 4000000
/-- A number as a value; a field of numbers. -/
def nV (v : Int) : CV CM := ⟨v, [], []⟩
def nL (k : Int) (vs : List Int) : CF CM := ⟨k, [], vs.map nV⟩
theorem msgW10 (w : World) (a : Option Addr) (n c : Nat) : Calls Tryz.prog 6 #[.slice a n c] w fun e w' => e = .returned (.agg #[.slice a n c, .slice none 0 0]) ∧ Below w.heap.size w w' := by
  go_enter Tryz.func6, Tryz.ntmps6
  go_wp2
  exact bodyPost_ret (v := .agg #[.slice a n c, .slice none 0 0]) (by simp [results, Tryz.results6, go_sem]) rfl ⟨rfl, by exact blBy⟩
theorem nW10 (w : World) (d : Nat) (k : Int) (hk : I64 k) (vs : List Int) (hv : ∀ v ∈ vs, U64 v ∧ IntKind.u64.wrap v = v) (la : Option Addr) (lc : Nat) (Z : Nat → Prop) (hr : RowM w Z 1 (FmI w Z) (.slice la vs.length lc) vs) : Calls Tryz.prog 7 #[.int .i64 k, .slice la vs.length lc] w fun e w' => ∃ cs : List Value, e = .returned (.agg cs.toArray) ∧ FmF d w' (w.heap.size ≤ ·) cs (nL k vs) ∧ Below w.heap.size w w' := by
  obtain ⟨_, _, -, lv⟩ := RowM.sl hr
  have mU : (vs.length : Int) ≤ 9223372036854775807 := by omega
  have HV := hid hv
  have HK := hid hk
  have HRR := hid hr
  clear hv hk hr
  go_enter Tryz.func7, Tryz.ntmps7
  go_wp2
  generalize hw0 : World.alloc (World.alloc w _) _ = w0
  have HB0 : Hid (Below w.heap.size w w0) := hid (hw0 ▸ (by exact blBy))
  have HS0 : Hid (w0.heap.size = w.heap.size + 2) := hid (by rw [← hw0]; simp)
  have BR : Hid (Blk w0 w.heap.size 33 #[.int .i64 0, .slice none 0 0, .slice none 0 0]) := hid (hw0 ▸ ((Blk.new _ _ _).kept (below_alloc _)))
  have BQ : Hid (Blk w0 (w.heap.size + 1) 33 #[.int .i64 k, .slice none 0 0, .slice none 0 0]) := hid (hw0 ▸ (Blk.newAt (by simp)))
  clear hw0
  generalize hq : w.heap.size + 1 = q at *
  have HQ : Hid (q = w.heap.size + 1) := hid hq.symm
  clear hq
  have HqN : q < w0.heap.size := BQ.out.lt
  go_loopw [6] (fun s6 wr => ∃ (j : Nat) (oa : Option Addr) (oc : Nat), s6 = .int .i64 (j : Int) ∧ j ≤ vs.length ∧ Hid (Blk wr q 33 #[.int .i64 k, .slice none 0 0, .slice oa j oc]) ∧ Hid (OwnY wr w0.heap.size (fun _ => False) 39 3 (FmV d) (.slice oa j oc) ((vs.take j).map nV)) ∧ Hid (Keep (fun b => b < w0.heap.size ∧ b ≠ q) w0 wr)) (fun s6 wr => vs.length - numAt wr s6)
  case atStart => exact ⟨0, none, 0, rfl, by omega, BQ, hid (OwnY.nil _ _ _ _ _ _), hid (Keep.refl _ _)⟩
  case round =>
    obtain ⟨j, oa, oc, rfl, hj, BQr, HO1, HK1⟩ := hrel
    by_cases hlt : j < vs.length
    · have k2 : (j : Int) < (vs.length : Int) := by omega
      have k3 : (0 : Int) ≤ (j : Int) := by omega
      obtain ⟨b1, o1, cs, rfl, -, hb1, hl1, hm1, hc1⟩ := RowM.at HRR.out (by decide) hlt
      have hcs : cs = [.int .i64 vs[j]] := hm1
      subst hcs
      have c0 := cellKp (cell_below (hc1 0 _ rfl) HB0.out) HK1.out (by have := HS0.out; have := HQ.out; constructor <;> omega)
      simp only [Nat.mul_one, Nat.add_zero] at c0
      have HT1 : Hid ((vs.take (j + 1)).map nV = (vs.take j).map nV ++ [nV vs[j]]) := hid (by rw [List.take_succ_eq_append_getElem hlt, List.map_append]; rfl)
      have HLa : Hid (((vs.take j).map nV).length = j) := hid (by rw [List.length_map, List.length_take]; omega)
      have HLj : Hid (j + 1 ≤ 4000000) := hid (by omega)
      obtain ⟨hu, hw⟩ := HV.out vs[j] (List.getElem_mem hlt)
      have HXX : Hid (FmV d wr (fun _ => False) [.int .u64 vs[j], .slice none 0 0, .slice none 0 0] (nV vs[j])) := hid ⟨_, _, rfl, ⟨rowS_nil _ _ 1, by simp [nV], by simp [nV]⟩, RowM.nil _ _ _ _, hu⟩
      have hbq : b1 ≠ q := by have := HQ.out; omega
      clear hm1 hc1 hu
      generalize vs[j] = x at *
      have HSZ : Hid (w0.heap.size ≤ wr.heap.size) := hid HK1.out.size
      go_upto_region 5 with fail
      have BQx := hid (BQr.out.kept (below_drew1 _))
      have HOx := hid (HO1.out.kept (famV d) (below_drew1 _))
      have C0 := hid c0
      have HS0K : Hid (∀ W, Keep (fun b => b = b1) wr W → (fun W => W.cell? ⟨b1, o1 + j, none⟩ = some (.int .i64 x)) W) := hid fun W hk => cellKp C0.out hk rfl
      have HSK : Hid (∀ W, Keep (fun b => b = b1 ∨ b = q) wr W → (fun W => W.cell? ⟨b1, o1 + j, none⟩ = some (.int .i64 x)) W ∧ (fun W => ∀ k1, W.cell? ⟨q, k1, none⟩ = #[.int .i64 k, .slice none 0 0, .slice oa j oc][k1]?) W) := hid fun W hk => ⟨cellKp C0.out hk (Or.inl rfl), (BQr.out.keep hk (Or.inr rfl)).cellF⟩
      have KD : Hid (Keep (fun b => b = b1 ∨ b = q) wr wr.drew) := hid (Keep.ofBelow (below_drew1 _))
      refine wp_regionL (S := SL (fun W => W.cell? ⟨b1, o1 + j, none⟩ = some (.int .i64 x)) (fun W => ∀ k1, W.cell? ⟨q, k1, none⟩ = #[.int .i64 k, .slice none 0 0, .slice oa j oc][k1]?) 11) (by kernel_rfl) (SL.of (HSK.out _ KD.out).1 (HSK.out _ KD.out).2) (fun hHeld => ?_)
      refine takeL0 0 (v := ?_) rfl (by kernel_rfl) (by kernel_rfl) (by kernel_rfl) (fun _ _ _ h => h) (by kernel_rfl) (Or.inl ⟨by rfl, ?_⟩) hHeld (fun hHeld => ?_)
      rotate_left
      · (intro w hSw; (try obtain ⟨hSw, hSx⟩ := hSw); (try dsimp only at hSw); (try dsimp only at hSx); go_simp; (try with_reducible rfl))
      try simp only [Act.put, List.getElem_toArray, List.getElem_cons_succ, List.getElem_cons_zero, List.setIfInBounds_toArray, List.set_cons_zero, List.set_cons_succ]
      refine takeL1 1 (v := ?_) rfl rfl (by kernel_rfl) (by kernel_rfl) (by kernel_rfl) (by kernel_rfl) (by kernel_rfl) (fun _ _ _ h => h) (by kernel_rfl) (Or.inl ⟨by rfl, ?_⟩) hHeld (fun hHeld => ?_)
      rotate_left
      · (intro w hSw; (try obtain ⟨hSw, hSx⟩ := hSw); (try dsimp only at hSw); (try dsimp only at hSx); go_simp; (try with_reducible rfl))
      try simp only [Act.put, List.getElem_toArray, List.getElem_cons_succ, List.getElem_cons_zero, List.setIfInBounds_toArray, List.set_cons_zero, List.set_cons_succ]
      refine takeL0 2 (v := ?_) rfl (by kernel_rfl) (by kernel_rfl) (by kernel_rfl) (fun _ _ _ h => h) (by kernel_rfl) (Or.inl ⟨by rfl, ?_⟩) hHeld (fun hHeld => ?_)
      rotate_left
      · (intro w hSw; (try obtain ⟨hSw, hSx⟩ := hSw); (try dsimp only at hSw); (try dsimp only at hSx); go_simp; (try with_reducible rfl))
      try simp only [Act.put, List.getElem_toArray, List.getElem_cons_succ, List.getElem_cons_zero, List.setIfInBounds_toArray, List.set_cons_zero, List.set_cons_succ]
      refine takeL0 3 (v := ?_) rfl (by kernel_rfl) (by kernel_rfl) (by kernel_rfl) (fun _ _ _ h => h) (by kernel_rfl) (Or.inl ⟨by rfl, ?_⟩) hHeld (fun hHeld => ?_)
      rotate_left
      · (intro w hSw; (try obtain ⟨hSw, hSx⟩ := hSw); (try dsimp only at hSw); (try dsimp only at hSx); go_simp; (try with_reducible rfl))
      try simp only [Act.put, List.getElem_toArray, List.getElem_cons_succ, List.getElem_cons_zero, List.setIfInBounds_toArray, List.set_cons_zero, List.set_cons_succ]
      refine takeL0 4 (v := ?_) rfl (by kernel_rfl) (by kernel_rfl) (by kernel_rfl) (fun _ _ _ h => h) (by kernel_rfl) (Or.inl ⟨by rfl, ?_⟩) hHeld (fun hHeld => ?_)
      rotate_left
      · (intro w hSw; (try obtain ⟨hSw, hSx⟩ := hSw); (try dsimp only at hSw); (try dsimp only at hSx); go_simp; (try with_reducible rfl))
      try simp only [Act.put, List.getElem_toArray, List.getElem_cons_succ, List.getElem_cons_zero, List.setIfInBounds_toArray, List.set_cons_zero, List.set_cons_succ]
      refine takeL0 5 (v := ?_) rfl (by kernel_rfl) (by kernel_rfl) (by kernel_rfl) (fun _ _ _ h => h) (by kernel_rfl) (Or.inl ⟨by rfl, ?_⟩) hHeld (fun hHeld => ?_)
      rotate_left
      · (intro w hSw; (try obtain ⟨hSw, hSx⟩ := hSw); (try dsimp only at hSw); (try dsimp only at hSx); go_simp; (try with_reducible rfl))
      try simp only [Act.put, List.getElem_toArray, List.getElem_cons_succ, List.getElem_cons_zero, List.setIfInBounds_toArray, List.set_cons_zero, List.set_cons_succ]
      refine takeL0 6 (v := ?_) rfl (by kernel_rfl) (by kernel_rfl) (by kernel_rfl) (fun _ _ _ h => h) (by kernel_rfl) (Or.inl ⟨by rfl, ?_⟩) hHeld (fun hHeld => ?_)
      rotate_left
      · (intro w hSw; (try obtain ⟨hSw, hSx⟩ := hSw); (try dsimp only at hSw); (try dsimp only at hSx); go_simp; (try with_reducible rfl))
      try simp only [Act.put, List.getElem_toArray, List.getElem_cons_succ, List.getElem_cons_zero, List.setIfInBounds_toArray, List.set_cons_zero, List.set_cons_succ]
      refine takeL0 7 (v := ?_) rfl (by kernel_rfl) (by kernel_rfl) (by kernel_rfl) (fun _ _ _ h => h) (by kernel_rfl) (Or.inl ⟨by rfl, ?_⟩) hHeld (fun hHeld => ?_)
      rotate_left
      · (intro w hSw; (try obtain ⟨hSw, hSx⟩ := hSw); (try dsimp only at hSw); (try dsimp only at hSx); go_simp; (try with_reducible rfl))
      try simp only [Act.put, List.getElem_toArray, List.getElem_cons_succ, List.getElem_cons_zero, List.setIfInBounds_toArray, List.set_cons_zero, List.set_cons_succ]
      refine wpAnyL_ready (rs := [8]) (by kernel_rfl) (by simp) ?_
      refine AllReadyL.cons rfl (fun K hK => ?_) ?_
      · go_simp
        have O1 := hid (HOx.out.kept (famV d) (below_alloc (w := wr.drew) (.cells #[.int .u64 x, .slice none 0 0, .slice none 0 0] 39)))
        have B1 : Hid (Blk (wr.drew.alloc (.cells #[.int .u64 x, .slice none 0 0, .slice none 0 0] 39)) wr.heap.size 39 #[.int .u64 x, .slice none 0 0, .slice none 0 0]) := hid (Blk.newAt (by simp))
        have K1 : Hid (Keep (fun b => b = b1 ∨ b = q) wr (wr.drew.alloc (.cells #[.int .u64 x, .slice none 0 0, .slice none 0 0] 39))) := hid (KD.out.trans (Keep.ofBelow (below_alloc _)))
        refine hK.out _ _ ?_ (fun hHeld => ?_)
        · exact SL.of (HSK.out _ K1.out).1 (HSK.out _ K1.out).2
        clear hK K
        try simp only [Act.put, List.getElem_toArray, List.getElem_cons_succ, List.getElem_cons_zero, List.setIfInBounds_toArray, List.set_cons_zero, List.set_cons_succ]
        refine wpAnyL_ready (rs := [9]) (by kernel_rfl) (by simp) ?_
        refine AllReadyL.cons rfl (fun K hK => ?_) ?_
        · obtain ⟨la2, lc2, y1, HR1, OA, HG⟩ := OwnY.one (famV d) 39 31 56 (.agg #[.int .u64 0, .slice none 0 0, .slice none 0 0]) Tryz.underlying31 Tryz.infoV rfl (by decide) (by decide) O1.out (cs := [.int .u64 x, .slice none 0 0, .slice none 0 0]) (x := nV x) (Fam.go (famV d) HXX.out (keepT (by exact blBy)) (fun _ _ => trivial) (fun _ h => h)) B1.out (by have := HSZ.out; simp; omega) (fun _ h => h.elim) (by rw [HLa.out]; exact HLj.out)
          rw [HLa.out] at HR1 OA HG
          have KG : Hid (Keep (fun b => b < w0.heap.size) wr y1) := hid ((Keep.ofBelow (by exact blBy)).trans (Keep.ofGrow HG.out (fun b hb e => by have := (O1.out.own e).1; omega)))
          have KS : Hid (Keep (fun b => b = b1 ∨ b = q) wr y1) := hid (KG.out.weak (fun b hb => by have := HB0.out.size; rcases hb with hb | hb <;> (show b < _) <;> omega))
          refine step_append_ran rfl _ _ 31 31 rfl rfl _ _ (.slice la2 (j + 1) lc2) y1 rfl rfl HR1.out ?_
          refine hK.out _ _ ?_ (fun hHeld => ?_)
          · exact SL.of (HSK.out _ KS.out).1 (HSK.out _ KS.out).2
          clear hK K
          try simp only [Act.put, List.getElem_toArray, List.getElem_cons_succ, List.getElem_cons_zero, List.setIfInBounds_toArray, List.set_cons_zero, List.set_cons_succ]
          refine takeL0 10 (v := ?_) rfl (by kernel_rfl) (by kernel_rfl) (by kernel_rfl) (fun _ _ _ h => h) (by kernel_rfl) (Or.inl ⟨by rfl, ?_⟩) hHeld (fun hHeld => ?_)
          rotate_left
          · (intro w hSw; (try obtain ⟨hSw, hSx⟩ := hSw); (try dsimp only at hSw); (try dsimp only at hSx); go_simp; (try with_reducible rfl))
          try simp only [Act.put, List.getElem_toArray, List.getElem_cons_succ, List.getElem_cons_zero, List.setIfInBounds_toArray, List.set_cons_zero, List.set_cons_succ]
          have BQ2 := hid (BQr.out.keep KG.out HqN)
          have xq := BQ2.out.cellF
          have yq := BQ2.out.frz
          have zq := BQ2.out.lt
          refine wpAnyL_ready (rs := [11]) (by kernel_rfl) (by simp) ?_
          refine AllReadyL.cons rfl (fun K hK => ?_) ?_
          · go_simp
            refine hK.out _ _ ?_ (fun hHeld => ?_)
            · exact SL.late (HS0K.out _ ((KS.out.weak (fun b hb => Or.inl hb)).trans (Keep.setCell _ _ _ (by simpa using Ne.symm hbq)))) (by kernel_rfl)
            clear hK K
            try simp only [Act.put, List.getElem_toArray, List.getElem_cons_succ, List.getElem_cons_zero, List.setIfInBounds_toArray, List.set_cons_zero, List.set_cons_succ]
            refine wpAnyL_done (by kernel_rfl) ?_ _
            have HKQ : Hid (Keep (fun b => b ≠ q) y1 (y1.setCell ⟨q, 2, none⟩ (.slice la2 (j + 1) lc2))) := hid (Keep.setCell _ _ _ (by simp))
            have BQ5 := hid (BQ2.out.set 2 (.slice la2 (j + 1) lc2))
            clear xq yq zq hHeld
            go_wp2
            exact ⟨⟨j + 1, la2, lc2, by simp, by omega, hid (BQ5.out.is (by simp)), hid (by rw [HT1.out]; exact OA.out.keep (famV d) HKQ.out (fun _ h => h.elim) (fun b e => by have := (OA.out.own e).1; omega)), hid ((HK1.out.trans (KG.out.weak (fun b hb => hb.1))).trans (HKQ.out.weak (fun b hb => hb.2)))⟩, by simp [numAt]; omega⟩
          exact AllReadyL.nil
        exact AllReadyL.nil
      exact AllReadyL.nil
    · have k2 : ¬ (j : Int) < (vs.length : Int) := by omega
      obtain rfl : j = vs.length := by omega
      have e1 : vs.take vs.length = vs := List.take_length
      rw [e1] at HO1
      have HR1 := hid (HO1.out.row (famV d) (by rw [List.length_map]; omega))
      have hn2 : w.heap.size < w0.heap.size ∧ w.heap.size ≠ q := by have := HS0.out; have := HQ.out; omega
      have BRr := hid (BR.out.keep HK1.out hn2)
      have xq := BQr.out.cellF
      have zq := BQr.out.lt
      have xr := BRr.out.cellF
      have yr := BRr.out.frz
      have zr := BRr.out.lt
      have HFB : Hid (Below w.heap.size w wr) := hid (Below.trans HB0.out (HK1.out.below HB0.out.size (fun k hk => ⟨by omega, by have := HQ.out; omega⟩)))
      clear HO1 hlt hj e1
      go_wp2
      refine bodyPost_ret (v := .agg #[.int .i64 k, .slice none 0 0, .slice oa vs.length oc]) (by simp [results, Tryz.results7, go_sem, xr, yr, zr]) rfl ⟨[.int .i64 k, .slice none 0 0, .slice oa vs.length oc], rfl, ⟨_, _, rfl, RowM.nil _ _ _ _, ?_, HK.out⟩, ?_⟩
      · have hl : (Value.slice oa vs.length oc) = .slice oa (vs.map nV).length oc := by rw [List.length_map]
        exact VlsR.go HR1.out (keepR _ _ _ _) (fun b hb => by rcases hb with hb | hb; exact hb.elim; show b ≠ _; omega) (fun b hb => by rcases hb with hb | hb; exact hb.elim; show _ ≤ b; omega)
      · exact Below.trans HFB.out ((keepR _ _ _ _).below (Nat.le_trans HFB.out.size (Nat.le_refl _)) (fun k hk => by show k ≠ _; omega))
end Go.Proofs.YtmiemocdjkeefaaGreatDoor
namespace Go.Proofs.YtmiemocdjkeefaaGreatDoor
open Go.RowKit
set_option maxRecDepth 1000000
set_option linter.unusedVariables false
set_option linter.unusedSimpArgs false
set_option maxHeartbeats 4000000
theorem simpleX (w : World) : Calls Tryz.prog 5 #[] w fun e w' => ∃ (h : Nat) (a : Option Addr), e = .returned (.agg #[.slice a (simL h).length 2]) ∧ TbR w' (.slice a (simL h).length 2) (simL h) ∧ Below w.heap.size w w' := (simpleW w).mono fun e w' ⟨h1, h2, h3⟩ => ⟨_, _, h1, h2, h3⟩
/-- A message laid into the block Q. -/
theorem laid2 {w2 : World} {Q n d : Nat} {u v : Value} {c : CM} (hB : Blk w2 Q 29 #[.slice none 0 0, .slice none 0 0]) (hm : MsgE w2 (n ≤ ·) d [u, v] c) (hQ : Q < n) : Blk ((w2.setCell ⟨Q, 0, none⟩ u).setCell ⟨Q, 1, none⟩ v) Q 29 #[u, v] ∧ MsgE ((w2.setCell ⟨Q, 0, none⟩ u).setCell ⟨Q, 1, none⟩ v) AnyZ d [u, v] c :=
  ⟨((hB.set 0 u).set 1 v).is (by simp), MsgE.go (keepR2 Q u v) (fun b (hb : n ≤ b) => by show b ≠ Q; omega) (fun _ _ => trivial) d _ _ hm⟩
theorem mergedLW (w : World) (mx : Int) (hm0 : w.cell? ⟨0, 0, none⟩ = some (.int .i64 mx)) (Z : Nat → Prop) (d : Nat) (cs ds es : List Value) (a b c : CM) (ha : MsgE w Z d cs a) (hb : MsgE w Z d ds b) (hc : MsgE w Z d es c) (ka : ∀ h, keptB (simL h) d (simM h) a = true) (kb : ∀ h, keptB (simL h) d (simM h) b = true) (L1 L2 : Nat) (sa : sizM L1 d a) (sb : sizM L2 d b) (hL : L1 + L2 ≤ 4000000) (hE : ∀ h, mergM (simL h) d (simM h) a b = c) : Calls Tryz.prog 10 #[.agg cs.toArray, .agg ds.toArray, .agg es.toArray] w fun e w' => e = .returned (.bool true) ∧ Below w.heap.size w w' := by
  have HMG : Hid (∀ (W : World) (h : Nat) (t : Option Addr), Below w.heap.size w W → TbR W (.slice t (simL h).length 2) (simL h) → Calls Tryz.prog 20 #[.agg #[.slice t (simL h).length 2], .int .i64 1, .agg cs.toArray, .agg ds.toArray] W fun e w' => ∃ es : List Value, e = .returned (.tuple #[.agg es.toArray, .int .i64 0]) ∧ MsgE w' (W.heap.size ≤ ·) d es c ∧ Below W.heap.size W w') := hid fun W h t hW hT => by
    have := mergeOk W (simL h) t 2 hT (simOk h) mx (cell_below hm0 hW) 1 (by show 1 < 2; decide) (simGood h) rfl Z d cs ds a b (ha.kept hW) (hb.kept hW) (ka h) (kb h) L1 L2 sa sb hL
    rw [show mergM (simL h) d ((simL h)[1]'(by show 1 < 2; decide)) a b = c from hE h] at this
    exact this
  have HEQ := hid fun W (hW : Below w.heap.size w W) ts (hm : MsgE W AnyZ d ts c) => (equalD d W AnyZ Z ts es c c hm (hc.kept hW))
  obtain ⟨fa, fc, ua, uc, rfl, -⟩ := msg_openD ha
  obtain ⟨fb, fd, ub, ud, rfl, -⟩ := msg_openD hb
  obtain ⟨fe, ff, ue, uf, rfl, -⟩ := msg_openD hc
  clear ha hb hc ka kb sa sb hL hE hm0
  go_enter Tryz.func10, Tryz.ntmps10
  go_upto_region 1 with fail
  generalize hw0 : World.alloc (World.alloc (World.alloc w _) _) _ = w0
  have HB0 : Hid (Below w.heap.size w w0) := hid (hw0 ▸ (by exact blBy))
  have BA : Hid (Blk w0 w.heap.size 29 #[.slice fa a.fs.length fc, .slice ua a.us.length uc]) := hid (hw0 ▸ (((Blk.new _ _ _).kept (below_alloc _)).kept (below_alloc _)))
  have BB : Hid (Blk w0 (w.heap.size + 1) 29 #[.slice fb b.fs.length fd, .slice ub b.us.length ud]) := hid (hw0 ▸ ((Blk.newAt (by simp)).kept (below_alloc _)))
  have BC : Hid (Blk w0 (w.heap.size + 1 + 1) 29 #[.slice fe c.fs.length ff, .slice ue c.us.length uf]) := hid (hw0 ▸ (Blk.newAt (by simp)))
  clear hw0
  generalize hq1 : w.heap.size + 1 = q1 at *
  generalize hq2 : q1 + 1 = q2 at *
  clear hq1 hq2
  have HW : Hid (Below w0.heap.size w0 w0) := hid (Below.refl _ _)
  have HSF : Hid (∀ W, Below w0.heap.size w0 W → (fun W => W.cell? ⟨w.heap.size, 0, none⟩ = some (.slice fa a.fs.length fc) ∧ W.cell? ⟨w.heap.size, 1, none⟩ = some (.slice ua a.us.length uc) ∧ W.cell? ⟨q1, 0, none⟩ = some (.slice fb b.fs.length fd) ∧ W.cell? ⟨q1, 1, none⟩ = some (.slice ub b.us.length ud)) W) := hid fun W hW => ⟨(BA.out.kept hW).cell 0 _ rfl, (BA.out.kept hW).cell 1 _ rfl, (BB.out.kept hW).cell 0 _ rfl, (BB.out.kept hW).cell 1 _ rfl⟩
  have hwz : w.heap.size < w0.heap.size ∧ q1 < w0.heap.size := ⟨BA.out.lt, BB.out.lt⟩
  have HSS : Hid (∀ (W : World) (Q : Nat) (u1 u2 : Value), w0.heap.size ≤ Q → Below w0.heap.size w0 W → (fun W => W.cell? ⟨w.heap.size, 0, none⟩ = some (.slice fa a.fs.length fc) ∧ W.cell? ⟨w.heap.size, 1, none⟩ = some (.slice ua a.us.length uc) ∧ W.cell? ⟨q1, 0, none⟩ = some (.slice fb b.fs.length fd) ∧ W.cell? ⟨q1, 1, none⟩ = some (.slice ub b.us.length ud)) ((W.setCell ⟨Q, 0, none⟩ u1).setCell ⟨Q, 1, none⟩ u2)) := hid fun W Q u1 u2 hQ hW => ⟨cs2 (HSF.out W hW).1 (by omega), cs2 (HSF.out W hW).2.1 (by omega), cs2 (HSF.out W hW).2.2.1 (by omega), cs2 (HSF.out W hW).2.2.2 (by omega)⟩
  go_cut [7, 8] from 9 to 22 (fun s7 s8 wc => ∃ (Q : Nat) (va va2 : Option Addr) (vc vc2 : Nat), s7 = .pointer (some ⟨Q, 0, none⟩) ∧ s8 = .int .i64 0 ∧ Hid (Blk wc Q 29 #[.slice va c.fs.length vc, .slice va2 c.us.length vc2]) ∧ Hid (MsgE wc AnyZ d [.slice va c.fs.length vc, .slice va2 c.us.length vc2] c) ∧ Hid (Below w0.heap.size w0 wc))
  case first =>
    go_region_held3 (fun W => W.cell? ⟨w.heap.size, 0, none⟩ = some (.slice fa a.fs.length fc) ∧ W.cell? ⟨w.heap.size, 1, none⟩ = some (.slice ua a.us.length uc) ∧ W.cell? ⟨q1, 0, none⟩ = some (.slice fb b.fs.length fd) ∧ W.cell? ⟨q1, 1, none⟩ = some (.slice ub b.us.length ud)) (first | (with_reducible exact HSS.out _ _ _ _ (by omega) (by have := HW.out; exact blBy)) | exact HSF.out _ (by have := HW.out; exact blBy)) (first | (go_at_call 5; refine (simpleX _).mono ?_; rintro e w1 ⟨h9, a9, rfl, ht, hbx⟩; have HT1 := hid ht; clear ht; (first | (replace BK := hid (BK.out.kept (below_trans (by exact blBy) hbx)); replace xk := BK.out.cellF; replace yk := BK.out.frz; replace zk := BK.out.lt) | (with_reducible have BK := hid ((Blk.new _ 29 #[.slice none 0 0, .slice none 0 0]).kept hbx); have xk := BK.out.cellF; have yk := BK.out.frz; have zk := BK.out.lt) | (with_reducible have BK := hid (((Blk.new _ 29 #[.slice none 0 0, .slice none 0 0]).kept (below_drew1 _)).kept hbx); have xk := BK.out.cellF; have yk := BK.out.frz; have zk := BK.out.lt) | skip); (try have hk9 := BK.out.lt); replace HW := hid (bl_then HW.out (below_trans (by exact blBy) hbx)); have hs9 := HW.out.size; clear hbx) | (go_at_call 20; refine (HMG.out _ h9 a9 (bl_then HB0.out (by have := HW.out; exact blBy)) (HT1.out.kept (by exact blBy))).mono ?_; rintro e w2 ⟨ts, rfl, hm, hbx⟩; obtain ⟨va, vc, va2, vc2, rfl, -⟩ := msg_openD hm; have HM2 := hid hm; clear hm; (first | (replace BK := hid (BK.out.kept (below_trans (by exact blBy) hbx)); replace xk := BK.out.cellF; replace yk := BK.out.frz; replace zk := BK.out.lt) | (with_reducible have BK := hid ((Blk.new _ 29 #[.slice none 0 0, .slice none 0 0]).kept hbx); have xk := BK.out.cellF; have yk := BK.out.frz; have zk := BK.out.lt) | (with_reducible have BK := hid (((Blk.new _ 29 #[.slice none 0 0, .slice none 0 0]).kept (below_drew1 _)).kept hbx); have xk := BK.out.cellF; have yk := BK.out.frz; have zk := BK.out.lt) | skip); replace HW := hid (bl_then HW.out (below_trans (by exact blBy) hbx)); clear hbx))
    all_goals go_wp2_with fail
    all_goals go_meet
    all_goals first
      | (with_reducible exact ⟨_, va, va2, vc, vc2, rfl, rfl, hid (Blk.new _ _ _), hid (MsgE.go (keepT (below_alloc _)) (fun _ _ => trivial) (fun _ _ => trivial) d _ _ HM2.out), hid (by have := HW.out; exact blBy)⟩)
      | exact ⟨_, va, va2, vc, vc2, rfl, rfl, hid (laid2 BK.out HM2.out (by first | exact hk9 | (simp; done) | omega)).1, hid (laid2 BK.out HM2.out (by first | exact hk9 | (simp; done) | omega)).2, hid (by have := HW.out; exact blBy)⟩
  case rest =>
    obtain ⟨Q, va, va2, vc, vc2, rfl, rfl, BQ, HM, HWc⟩ := hcut
    have xq := BQ.out.cellF
    have zq := BQ.out.lt
    have BC1 := hid (BC.out.kept HWc.out)
    have xc := BC1.out.cellF
    have zc := BC1.out.lt
    clear HSF HSS HMG BA BB HW
    go_wp2_with fail
    refine (HEQ.out _ (bl_then HB0.out (by have := HWc.out; exact blBy)) _ (HM.out.kept (by exact blBy))).mono ?_
    rintro e w3 ⟨r, rfl, hr, hbx⟩
    have hr' : r = true := hr.2 (by first | trivial | rfl)
    subst hr'
    have HBF : Hid (Below w.heap.size w w3) := hid (bl_then HB0.out (bl_then HWc.out (below_trans (by exact blBy) hbx)))
    clear hbx xq zq xc zc hr
    go_wp2
    go_ret
    exact ⟨rfl, HBF.out⟩
end Go.Proofs.YtmiemocdjkeefaaGreatDoor
namespace Go.Proofs.YtmiemocdjkeefaaGreatDoor
open Go.RowKit
set_option maxRecDepth 1000000
set_option linter.unusedVariables false
set_option linter.unusedSimpArgs false
set_option maxHeartbeats 4000000
theorem rowTwo {α : Type} {w : World} {Z : Nat → Prop} {k : Nat} {E : List Value → α → Prop} {vb : Nat} {cs ds : List Value} {x y : α} {t : TypeId} {es : Array Value} (hx : E cs x) (hy : E ds y) (hl : cs.length = k) (hl2 : ds.length = k) (hz : Z vb) (hc : Blk w vb t es) (he : es = (cs ++ ds).toArray) : RowM w Z k E (.slice (some ⟨vb, 0, none⟩) [x, y].length 2) [x, y] := by
  subst he
  refine ⟨[⟨cs, hl⟩, ⟨ds, hl2⟩], ⟨_, _, rfl, by simp [hl, hl2]; omega, by simp, by omega, .inr ⟨vb, 0, rfl, hz, fun j u hu => ?_⟩⟩, rfl, by simp, fun j t x ht hx => ?_⟩
  · rw [Nat.zero_add]
    exact hc.cell j u (by simpa using hu)
  · match j, ht, hx with
    | 0, ht, hx => simp at ht hx; subst ht hx; assumption
    | 1, ht, hx => simp at ht hx; subst ht hx; assumption
    | j + 2, ht, hx => simp at ht
theorem u64s (l : List Int) (h : l.all (fun v => decide (0 ≤ v ∧ v ≤ 9)) = true) : ∀ v ∈ l, U64 v ∧ IntKind.u64.wrap v = v := fun v hv => by
  have := List.all_eq_true.1 h v hv
  rw [decide_eq_true_eq] at this
  refine ⟨by unfold U64; omega, ?_⟩
  obtain ⟨n, rfl⟩ := Int.eq_ofNat_of_zero_le this.1
  have hn : n < 10 := by omega
  match n, hn with
  | 0, _ => rfl
  | 1, _ => rfl
  | 2, _ => rfl
  | 3, _ => rfl
  | 4, _ => rfl
  | 5, _ => rfl
  | 6, _ => rfl
  | 7, _ => rfl
  | 8, _ => rfl
  | 9, _ => rfl
theorem fldAny {d : Nat} {w w' : World} {Z : Nat → Prop} {cs : List Value} {f : CF CM} (h : FmF d w Z cs f) (hb : Below w.heap.size w w') : FmF d w' AnyZ cs f := Fam.go (famF d) h (keepT hb) (fun _ _ => trivial) (fun _ _ => trivial)
def aM : CM := CM.mk [nL 1 [1], nL 2 [1]] []
def bM : CM := CM.mk [nL 1 [0], nL 2 [2]] []
def cM : CM := CM.mk [nL 1 [0], nL 2 [1, 2]] []
theorem keptAM (h : Nat) : keptB (simL h) 1 (simM h) aM = true := by kernel_rfl
theorem keptBM (h : Nat) : keptB (simL h) 1 (simM h) bM = true := by kernel_rfl
theorem mergABC (h : Nat) : mergM (simL h) 1 (simM h) aM bM = cM := by
  have e0 : aM.fs.filter (rivB (simM h).t.fs bM.fs) = [nL 1 [1], nL 2 [1]] := by kernel_rfl
  have e1 : fOrd (nL 1 [1]) (nL 1 [0]) = 0 := by kernel_rfl
  have e2 : fOrd (nL 2 [1]) (nL 2 [2]) = 0 := by kernel_rfl
  have f1 : bothF (simL h) (mergM (simL h) 0) (simM h) (nL 1 [1]) (nL 1 [0]) = nL 1 [0] := by kernel_rfl
  have f2 : bothF (simL h) (mergM (simL h) 0) (simM h) (nL 2 [1]) (nL 2 [2]) = nL 2 [1, 2] := by kernel_rfl
  have e3 : bM.fs = [nL 1 [0], nL 2 [2]] := rfl
  show CM.mk (uni fOrd (bothF (simL h) (mergM (simL h) 0) (simM h)) (aM.fs.filter (rivB (simM h).t.fs bM.fs)) bM.fs) (aM.us ++ bM.us) = cM
  rw [e0, e3, uni_eq e1, uni_eq e2, uni_nil, f1, f2]
  rfl
theorem siz2 (k1 k2 : Int) (v1 v2 : List Int) (h1 : v1.length ≤ 9) (h2 : v2.length ≤ 9) : sizM 9 1 (CM.mk [nL k1 v1, nL k2 v2] []) := by
  refine ⟨by show 2 ≤ 9; omega, by show 0 ≤ 9; omega, fun f hf => ?_⟩
  have hf' : f = nL k1 v1 ∨ f = nL k2 v2 := by
    have h3 : f ∈ [nL k1 v1, nL k2 v2] := hf
    rcases List.mem_cons.1 h3 with h | h
    · exact Or.inl h
    · exact Or.inr (List.mem_singleton.1 h)
  rcases hf' with rfl | rfl
  · exact ⟨by show 0 ≤ 9; omega, by show (v1.map nV).length ≤ 9; rw [List.length_map]; exact h1, fun _ _ => trivial⟩
  · exact ⟨by show 0 ≤ 9; omega, by show (v2.map nV).length ≤ 9; rw [List.length_map]; exact h2, fun _ _ => trivial⟩
theorem awake10 (w : World) (mx : Int) (hm0 : w.cell? ⟨0, 0, none⟩ = some (.int .i64 mx)) : Calls Tryz.prog 9 #[] w fun e w' => e = .returned (.bool true) ∧ Below w.heap.size w w' := by
  have HM := hid hm0
  have i1 : I64 1 := by unfold I64; omega
  have i2 : I64 2 := by unfold I64; omega
  clear hm0
  go_enter Tryz.func9, Tryz.ntmps9
  go_wp2_with fail
  refine (nW10 _ 0 1 i1 [1] (u64s _ rfl) _ _ AnyZ (rowOne (t := 3) (cs := [.int .i64 1]) (x := (1 : Int)) (show FmI _ _ _ _ from rfl) rfl trivial (Blk.new _ _ _))).mono ?_
  rintro e w1 ⟨cs, rfl, hf, hbx⟩
  have HB1 : Hid (Below w.heap.size w w1) := hid (bl_then (by exact blBy) hbx)
  obtain ⟨ka1, kc1, va1, vc1, rfl, -⟩ := fld_open hf
  have HF1 := hid (fldAny hf (Below.refl _ _))
  clear hf hbx
  go_wp2_with fail
  refine (nW10 _ 0 2 i2 [1] (u64s _ rfl) _ _ AnyZ (rowOne (t := 3) (cs := [.int .i64 1]) (x := (1 : Int)) (show FmI _ _ _ _ from rfl) rfl trivial (Blk.new _ _ _))).mono ?_
  rintro e w2 ⟨cs, rfl, hf, hbx⟩
  have HB2 : Hid (Below w.heap.size w w2) := hid (bl_then (by have := HB1.out; exact blBy) hbx)
  replace HF1 := hid ((HF1.out).kept (below_trans (by exact blBy) hbx))
  obtain ⟨ka2, kc2, va2, vc2, rfl, -⟩ := fld_open hf
  have HF2 := hid (fldAny hf (Below.refl _ _))
  clear hf hbx
  go_wp2_with fail
  refine (msgW10 _ _ _ _).mono ?_
  rintro e w3 ⟨rfl, hbx⟩
  have HM1 : Hid (MsgE w3 AnyZ 1 [.slice (some ⟨w2.heap.size, 0, none⟩) 2 2, .slice none 0 0] (CM.mk [nL 1 [1], nL 2 [1]] [])) := hid ⟨_, _, rfl, rowTwo (t := 33) (FldE.kept HF1.out (below_trans (by exact blBy) hbx)) (FldE.kept HF2.out (below_trans (by exact blBy) hbx)) rfl rfl trivial ((Blk.new _ _ _).kept hbx) rfl, RowM.nil _ _ _ _⟩
  have HB3 : Hid (Below w.heap.size w w3) := hid (bl_then (by have := HB2.out; exact blBy) hbx)
  clear HF1 HF2 hbx
  generalize w2.heap.size = p1 at *
  go_wp2_with fail
  refine (nW10 _ 0 1 i1 [0] (u64s _ rfl) _ _ AnyZ (rowOne (t := 3) (cs := [.int .i64 0]) (x := (0 : Int)) (show FmI _ _ _ _ from rfl) rfl trivial (Blk.new _ _ _))).mono ?_
  rintro e w4 ⟨cs, rfl, hf, hbx⟩
  have HB4 : Hid (Below w.heap.size w w4) := hid (bl_then (by have := HB3.out; exact blBy) hbx)
  replace HM1 := hid ((HM1.out).kept (below_trans (by exact blBy) hbx))
  obtain ⟨ka4, kc4, va4, vc4, rfl, -⟩ := fld_open hf
  have HF4 := hid (fldAny hf (Below.refl _ _))
  clear hf hbx
  go_wp2_with fail
  refine (nW10 _ 0 2 i2 [2] (u64s _ rfl) _ _ AnyZ (rowOne (t := 3) (cs := [.int .i64 2]) (x := (2 : Int)) (show FmI _ _ _ _ from rfl) rfl trivial (Blk.new _ _ _))).mono ?_
  rintro e w5 ⟨cs, rfl, hf, hbx⟩
  have HB5 : Hid (Below w.heap.size w w5) := hid (bl_then (by have := HB4.out; exact blBy) hbx)
  replace HM1 := hid ((HM1.out).kept (below_trans (by exact blBy) hbx))
  replace HF4 := hid ((HF4.out).kept (below_trans (by exact blBy) hbx))
  obtain ⟨ka5, kc5, va5, vc5, rfl, -⟩ := fld_open hf
  have HF5 := hid (fldAny hf (Below.refl _ _))
  clear hf hbx
  go_wp2_with fail
  refine (msgW10 _ _ _ _).mono ?_
  rintro e w6 ⟨rfl, hbx⟩
  have HM2 : Hid (MsgE w6 AnyZ 1 [.slice (some ⟨w5.heap.size, 0, none⟩) 2 2, .slice none 0 0] (CM.mk [nL 1 [0], nL 2 [2]] [])) := hid ⟨_, _, rfl, rowTwo (t := 33) (FldE.kept HF4.out (below_trans (by exact blBy) hbx)) (FldE.kept HF5.out (below_trans (by exact blBy) hbx)) rfl rfl trivial ((Blk.new _ _ _).kept hbx) rfl, RowM.nil _ _ _ _⟩
  have HB6 : Hid (Below w.heap.size w w6) := hid (bl_then (by have := HB5.out; exact blBy) hbx)
  replace HM1 := hid ((HM1.out).kept (below_trans (by exact blBy) hbx))
  clear HF4 HF5 hbx
  generalize w5.heap.size = p2 at *
  go_wp2_with fail
  refine (nW10 _ 0 1 i1 [0] (u64s _ rfl) _ _ AnyZ (rowOne (t := 3) (cs := [.int .i64 0]) (x := (0 : Int)) (show FmI _ _ _ _ from rfl) rfl trivial (Blk.new _ _ _))).mono ?_
  rintro e w7 ⟨cs, rfl, hf, hbx⟩
  have HB7 : Hid (Below w.heap.size w w7) := hid (bl_then (by have := HB6.out; exact blBy) hbx)
  replace HM1 := hid ((HM1.out).kept (below_trans (by exact blBy) hbx))
  replace HM2 := hid ((HM2.out).kept (below_trans (by exact blBy) hbx))
  obtain ⟨ka7, kc7, va7, vc7, rfl, -⟩ := fld_open hf
  have HF7 := hid (fldAny hf (Below.refl _ _))
  clear hf hbx
  go_wp2_with fail
  refine (nW10 _ 0 2 i2 [1, 2] (u64s _ rfl) _ _ AnyZ (rowTwo (t := 3) (cs := [.int .i64 1]) (ds := [.int .i64 2]) (x := (1 : Int)) (y := (2 : Int)) (show FmI _ _ _ _ from rfl) (show FmI _ _ _ _ from rfl) rfl rfl trivial (Blk.new _ _ _) rfl)).mono ?_
  rintro e w8 ⟨cs, rfl, hf, hbx⟩
  have HB8 : Hid (Below w.heap.size w w8) := hid (bl_then (by have := HB7.out; exact blBy) hbx)
  replace HM1 := hid ((HM1.out).kept (below_trans (by exact blBy) hbx))
  replace HM2 := hid ((HM2.out).kept (below_trans (by exact blBy) hbx))
  replace HF7 := hid ((HF7.out).kept (below_trans (by exact blBy) hbx))
  obtain ⟨ka8, kc8, va8, vc8, rfl, -⟩ := fld_open hf
  have HF8 := hid (fldAny hf (Below.refl _ _))
  clear hf hbx
  go_wp2_with fail
  refine (msgW10 _ _ _ _).mono ?_
  rintro e w9 ⟨rfl, hbx⟩
  have HM3 : Hid (MsgE w9 AnyZ 1 [.slice (some ⟨w8.heap.size, 0, none⟩) 2 2, .slice none 0 0] (CM.mk [nL 1 [0], nL 2 [1, 2]] [])) := hid ⟨_, _, rfl, rowTwo (t := 33) (FldE.kept HF7.out (below_trans (by exact blBy) hbx)) (FldE.kept HF8.out (below_trans (by exact blBy) hbx)) rfl rfl trivial ((Blk.new _ _ _).kept hbx) rfl, RowM.nil _ _ _ _⟩
  have HB9 : Hid (Below w.heap.size w w9) := hid (bl_then (by have := HB8.out; exact blBy) hbx)
  replace HM1 := hid ((HM1.out).kept (below_trans (by exact blBy) hbx))
  replace HM2 := hid ((HM2.out).kept (below_trans (by exact blBy) hbx))
  clear HF7 HF8 hbx
  generalize w8.heap.size = p3 at *
  go_wp2_with fail
  refine (mergedLW _ mx (cell_below HM.out (by have := HB9.out; exact blBy)) AnyZ 1 _ _ _ aM bM cM (HM1.out.kept (by exact blBy)) (HM2.out.kept (by exact blBy)) (HM3.out.kept (by exact blBy)) keptAM keptBM 9 9 (siz2 1 2 [1] [1] (by decide) (by decide)) (siz2 1 2 [0] [2] (by decide) (by decide)) (by omega) mergABC).mono ?_
  rintro e w10 ⟨rfl, hbx⟩
  have HBF : Hid (Below w.heap.size w w10) := hid (bl_then HB9.out (below_trans (by exact blBy) hbx))
  clear hbx
  go_wp2
  go_ret
  exact ⟨rfl, HBF.out⟩
end Go.Proofs.YtmiemocdjkeefaaGreatDoor
namespace Go.Proofs.YtmiemocdjkeefaaGreatDoor
open Go.RowKit
set_option maxRecDepth 1000000
set_option linter.unusedVariables false
set_option linter.unusedSimpArgs false
set_option maxHeartbeats 1000000
theorem pths_row {w : World} {B : Nat} {v : Value} {ps : List (List Int)} (h : w.ownsRow B 9 1 v ps.length (ps.map (fun s => Value.string (strOfNums s)))) : RowS w AnyZ 1 v ps.length (ps.flatMap cSg) := by
  have e : ∀ l : List (List Int), l.flatMap cSg = l.map (fun s => Value.string (strOfNums s)) := fun l => by
    induction l with
    | nil => rfl
    | cons a r ih => rw [List.flatMap_cons, ih]; rfl
  rw [e]
  exact own_row h (fun _ _ => trivial)
theorem anyP {W : World} {Z : Nat → Prop} {d : Nat} {cs : List Value} {y : CM} (hy : MsgE W Z d cs y) : MsgE W AnyZ d cs y := MsgE.go (Keep.refl (fun _ => True) _) (fun _ _ => trivial) (fun _ _ => trivial) d _ _ hy
theorem mpaths_bad (w : World) (ta : Option Addr) (ln tc : Nat) (idx : Int) (m1 m2 : Option Addr) (n1 mc1 n2 mc2 : Nat) (n : Int) (hn : n ≠ 0) (HAW : Hid (∀ W, Below w.heap.size w W → Calls Tryz.prog 9 #[] W fun e w' => e = .returned (.bool true) ∧ Below W.heap.size W w'))
    (HP : Hid (∀ W, Below w.heap.size w W → Calls Tryz.prog 17 #[.agg #[.slice ta ln tc], .int .i64 idx, .agg #[.slice m1 n1 mc1, .slice m2 n2 mc2]] W (PthA W [] n))) :
    Calls Tryz.prog 4 #[.agg #[.slice ta ln tc], .int .i64 idx, .agg #[.slice m1 n1 mc1, .slice m2 n2 mc2]] w fun e w' => e = .returned (.bool true) ∧ Below w.heap.size w w' := by
  have kn : (n == 0) = false := by simpa using hn
  have jn : (n != 0) = true := by simpa using hn
  clear hn
  go_enter Tryz.func4, Tryz.ntmps4
  go_wp2_with fail
  refine (HAW.out _ (by exact blBy)).mono ?_
  rintro e w1 ⟨rfl, hb⟩
  have HB : Hid (Below w.heap.size w w1) := hid (bl_then (by exact blBy) hb)
  have Bt : Hid (Blk w1 w.heap.size 24 #[.slice ta ln tc]) := hid (((Blk.new _ _ _).kept (below_alloc _)).kept hb)
  have Bm : Hid (Blk w1 (w.heap.size + 1) 29 #[.slice m1 n1 mc1, .slice m2 n2 mc2]) := hid ((Blk.newAt (by simp)).kept hb)
  clear hb
  generalize w.heap.size + 1 = q1 at *
  have xt := Bt.out.cellF
  have zt := Bt.out.lt
  have xm := Bm.out.cellF
  have zm := Bm.out.lt
  go_wp2_with fail
  refine (HP.out _ (by have := HB.out; exact blBy)).mono ?_
  rintro e w2 ⟨pa, pc, rfl, ho, hb⟩
  have HB2 : Hid (Below w.heap.size w w2) := hid (bl_then HB.out hb)
  clear hb ho xt zt xm zm
  dsimp only [List.length_nil]
  go_wp2
  exact bodyPost_ret (v := .bool true) (by simp [results, Tryz.results4, go_sem]) rfl ⟨rfl, by have := HB2.out; exact blBy⟩
theorem mpaths_ok (w : World) (ta : Option Addr) (ln tc : Nat) (k : Int) (d : Nat) (m K : CM) (m1 m2 : Option Addr) (mc1 mc2 : Nat) (ps : List (List Int)) (hm : MsgE w AnyZ (d + 1) [.slice m1 m.fs.length mc1, .slice m2 m.us.length mc2] m) (hps : ps.length ≤ 4000000) (hK1 : K.fs.length = m.fs.length) (hK2 : K.us.length = 0) (hK3 : ∀ i (h1 : i < K.fs.length) (h2 : i < m.fs.length), K.fs[i].num = m.fs[i].num)
    (HAW : Hid (∀ W, Below w.heap.size w W → Calls Tryz.prog 9 #[] W fun e w' => e = .returned (.bool true) ∧ Below W.heap.size W w'))
    (HPT : Hid (∀ W, Below w.heap.size w W → ∀ cs y, MsgE W AnyZ (d + 1) cs y → (y = m ∨ y = K) → Calls Tryz.prog 17 #[.agg #[.slice ta ln tc], .int .i64 k, .agg cs.toArray] W (PthA W ps 0)))
    (HVL : Hid (∀ W, Below w.heap.size w W → ∀ p ∈ ps, ∀ cs, MsgE W AnyZ (d + 1) cs m → Calls Tryz.prog 13 #[.agg #[.slice ta ln tc], .int .i64 k, .agg cs.toArray, .string (strOfNums p)] W fun e w' => ∃ (n0 : Int) (ka va : Option Addr) (kn kc vn vc : Nat), e = .returned (.tuple #[.agg #[.int .i64 n0, .slice ka kn kc, .slice va vn vc], .int .i64 0]) ∧ Below W.heap.size W w'))
    (HKP : Hid (∀ W, Below w.heap.size w W → ∀ cs pa pc, MsgE W AnyZ (d + 1) cs m → RowS W AnyZ 1 (.slice pa ps.length pc) ps.length (ps.flatMap cSg) → Calls Tryz.prog 15 #[.agg #[.slice ta ln tc], .int .i64 k, .agg cs.toArray, .slice pa ps.length pc] W (MskA (d + 1) W (K, 0)))) :
    Calls Tryz.prog 4 #[.agg #[.slice ta ln tc], .int .i64 k, .agg #[.slice m1 m.fs.length mc1, .slice m2 m.us.length mc2]] w fun e w' => e = .returned (.bool true) ∧ Below w.heap.size w w' := by
  have HM0 := hid hm
  have HK3 := hid hK3
  obtain ⟨pn, HPN⟩ : ∃ pn, Hid (ps.length = pn) := ⟨_, hid rfl⟩
  have p63 : (pn : Int) ≤ 4000000 := by have := HPN.out; omega
  have m63 : (m.fs.length : Int) ≤ 4000000 := by
    obtain ⟨_, _, _, _, _, _, _, q, _⟩ := msg_open hm
    omega
  clear hm hps hK3
  go_enter Tryz.func4, Tryz.ntmps4
  go_wp2_with fail
  refine (HAW.out _ (by exact blBy)).mono ?_
  rintro e w1 ⟨rfl, hb⟩
  have HB : Hid (Below w.heap.size w w1) := hid (bl_then (by exact blBy) hb)
  have Bt : Hid (Blk w1 w.heap.size 24 #[.slice ta ln tc]) := hid (((Blk.new _ _ _).kept (below_alloc _)).kept hb)
  have Bm : Hid (Blk w1 (w.heap.size + 1) 29 #[.slice m1 m.fs.length mc1, .slice m2 m.us.length mc2]) := hid ((Blk.newAt (by simp)).kept hb)
  clear hb
  generalize hq1 : w.heap.size + 1 = q1 at *
  have HQ1 := hid hq1
  clear hq1
  have xt := Bt.out.cellF
  have zt := Bt.out.lt
  have xm := Bm.out.cellF
  have zm := Bm.out.lt
  go_wp2_with fail
  refine (HPT.out _ (by have := HB.out; exact blBy) [.slice m1 m.fs.length mc1, .slice m2 m.us.length mc2] m (HM0.out.kept HB.out) (Or.inl rfl)).mono ?_
  rintro e w2 ⟨pa, pc, rfl, ho, hb⟩
  have HR : Hid (RowS w2 AnyZ 1 (.slice pa ps.length pc) ps.length (ps.flatMap cSg)) := hid (pths_row ho)
  replace Bt := hid (Bt.out.kept hb)
  replace Bm := hid (Bm.out.kept hb)
  replace HB := hid (bl_then HB.out hb)
  clear xt zt xm zm ho hb
  rw [HPN.out] at HR HKP ⊢
  have HPJ : Hid (∀ j, j < pn → ∃ p ∈ ps, ∀ W, RowS W AnyZ 1 (.slice pa pn pc) pn (ps.flatMap cSg) → ∃ (pb po : Nat), pa = some ⟨pb, po, none⟩ ∧ W.cell? ⟨pb, po + j, none⟩ = some (.string (strOfNums p))) := hid (fun j hj => by
    have hj2 : j < ps.length := by rw [HPN.out]; exact hj
    refine ⟨ps[j], List.getElem_mem hj2, fun W hW => ?_⟩
    rw [← HPN.out] at hW
    obtain ⟨pb, po, epb, hc⟩ := rowAt (g := cSg) (fun _ => rfl) hW (i := j) (x := ps[j]) (by simp [hj2])
    refine ⟨pb, po, epb, ?_⟩
    have := hc 0 _ rfl
    simpa using this)
  go_wp2_with fail
  go_loopw [9] (fun s9 wr => ∃ (j : Nat), s9 = .int .i64 j ∧ j ≤ pn ∧ Hid (Below w2.heap.size w2 wr)) (fun s9 wr => pn - numAt wr s9)
  case atStart => exact ⟨0, rfl, by omega, hid (Below.refl _ _)⟩
  case round =>
    obtain ⟨j, rfl, hj, hb⟩ := hrel
    have Btr := hid (Bt.out.kept hb.out)
    have Bmr := hid (Bm.out.kept hb.out)
    have HBr : Hid (Below w.heap.size w wr) := hid (bl_then HB.out hb.out)
    have HRr := hid (HR.out.kept hb.out)
    by_cases hlt : j < pn
    · have j1 : (j : Int) < (pn : Int) := by omega
      obtain ⟨p, hp, HPC⟩ := HPJ.out j hlt
      obtain ⟨pb, po, epb, c0⟩ := HPC wr HRr.out
      subst epb
      have HVP := hid fun W (hW : Below w.heap.size w W) cs (hc : MsgE W AnyZ (d + 1) cs m) => HVL.out W hW p hp cs hc
      clear HPC hp
      have b0 : wr.cell? ⟨w.heap.size, 0, none⟩ = some (.slice ta ln tc) := Btr.out.cell 0 _ rfl
      have b1 : wr.cell? ⟨q1, 0, none⟩ = some (.slice m1 m.fs.length mc1) := Bmr.out.cell 0 _ rfl
      have b2 : wr.cell? ⟨q1, 1, none⟩ = some (.slice m2 m.us.length mc2) := Bmr.out.cell 1 _ rfl
      have jp : (0 : Int) ≤ (j : Int) := by omega
      have HSF : Hid (∀ W, Below wr.heap.size wr W → W.cell? ⟨w.heap.size, 0, none⟩ = some (.slice ta ln tc) ∧ W.cell? ⟨q1, 0, none⟩ = some (.slice m1 m.fs.length mc1) ∧ W.cell? ⟨q1, 1, none⟩ = some (.slice m2 m.us.length mc2) ∧ W.cell? ⟨pb, po + j, none⟩ = some (.string (strOfNums p))) := hid (fun W hW => ⟨cell_below b0 hW, cell_below b1 hW, cell_below b2 hW, cell_below c0 hW⟩)
      have HW : Hid (Below wr.heap.size wr wr) := hid (Below.refl _ _)
      have HL1 : Hid (wr.heap.size ≤ wr.heap.size) := hid (Nat.le_refl _)
      clear b0 b1 b2 c0 HVL HPJ HR HRr
      generalize strOfNums p = sp at *
      go_wp2_with fail
      go_region_held3 (fun W => W.cell? ⟨w.heap.size, 0, none⟩ = some (.slice ta ln tc) ∧ W.cell? ⟨q1, 0, none⟩ = some (.slice m1 m.fs.length mc1) ∧ W.cell? ⟨q1, 1, none⟩ = some (.slice m2 m.us.length mc2) ∧ W.cell? ⟨pb, po + j, none⟩ = some (.string sp)) (exact HSF.out _ (by have := HW.out; exact blBy)) (first | (go_at_call 13; refine (HVP.out _ (bl_then HBr.out (by have := HW.out; exact blBy)) [.slice m1 m.fs.length mc1, .slice m2 m.us.length mc2] (HM0.out.kept (bl_then HBr.out (by have := HW.out; exact blBy)))).mono ?_; rintro e w3 ⟨n0, ka, va, kn, kc, vn, vc, rfl, hbx⟩; (try (have BQ : Hid (Blk w3 wr.heap.size 33 #[.int .i64 0, .slice none 0 0, .slice none 0 0]) := hid (by first | exact (Blk.new _ _ _).kept hbx | exact ((Blk.new _ _ _).kept (below_drew1 _)).kept hbx); have xq := BQ.out.cellF; have zq := BQ.out.lt; have yq := BQ.out.frz)); replace HW := hid (below_trans HW.out (below_trans (by exact blBy) hbx)); clear hbx))
      all_goals
        have HWF := hid (bl_then hb.out HW.out)
        have hsr : w2.heap.size ≤ wr.heap.size := hb.out.size
        go_wp2
        exact ⟨⟨j + 1, by simp, by omega, hid (by have := HWF.out; exact blBy)⟩, by simp [numAt]; omega⟩
    · have j1 : ¬ (j : Int) < (pn : Int) := by omega
      have xt := Btr.out.cellF
      have zt := Btr.out.lt
      have xm := Bmr.out.cellF
      have zm := Bmr.out.lt
      have HKR := hid (HKP.out wr HBr.out [.slice m1 m.fs.length mc1, .slice m2 m.us.length mc2] pa pc (HM0.out.kept HBr.out) HRr.out)
      clear HKP HVL HAW Bt Bm HR
      go_wp2_with fail
      refine HKR.out.mono ?_
      rintro e w3 ⟨cs1, rfl, has, hb3⟩
      obtain ⟨ka, kc, ua, uc, rfl, -⟩ := msg_openD has
      dsimp only at *
      have HMK : Hid (MsgE w3 AnyZ (d + 1) [.slice ka K.fs.length kc, .slice ua K.us.length uc] K) := hid (anyP has)
      rw [hK1, hK2] at HMK ⊢
      have Bt3 := hid (Btr.out.kept hb3)
      have Bm3 := hid (Bmr.out.kept hb3)
      have HB3 : Hid (Below w.heap.size w w3) := hid (bl_then HBr.out hb3)
      have HR3 := hid (HRr.out.kept hb3)
      clear xt zt xm zm has hb3 HKR Btr Bmr HBr HRr hb
      have HNJ : Hid (∀ j, j < m.fs.length → ∃ n, ∀ W, Below w3.heap.size w3 W → ∃ (fb fo gb go : Nat), m1 = some ⟨fb, fo, none⟩ ∧ ka = some ⟨gb, go, none⟩ ∧ W.cell? ⟨fb, fo + j * 3, none⟩ = some (.int .i64 n) ∧ W.cell? ⟨gb, go + j * 3, none⟩ = some (.int .i64 n)) := hid (fun j hj => by
        have hj2 : j < K.fs.length := by rw [hK1]; exact hj
        refine ⟨m.fs[j].num, fun W hW => ?_⟩
        obtain ⟨_, _, _, _, e1, g1, -⟩ := msg_open (HM0.out.kept (bl_then HB3.out hW))
        obtain ⟨_, _, _, _, e2, g2, -⟩ := msg_open (HMK.out.kept hW)
        cases e1
        simp only [List.cons.injEq, Value.slice.injEq] at e2
        obtain ⟨⟨rfl, -, rfl⟩, -⟩ := e2
        obtain ⟨fb, fo, _, _, _, _, efa, -, -, d0, -⟩ := fls_at g1 hj
        obtain ⟨gb, go, _, _, _, _, ega, -, -, f0, -⟩ := fls_at g2 hj2
        exact ⟨fb, fo, gb, go, efa, ega, d0, by rw [← HK3.out j hj2 hj]; exact f0⟩)
      have xt := Bt3.out.cellF
      have zt := Bt3.out.lt
      have xm := Bm3.out.cellF
      have zm := Bm3.out.lt
      clear HK3
      go_wp2_with fail
      go_loopw [13] (fun s13 wr => ∃ (j : Nat), s13 = .int .i64 j ∧ j ≤ m.fs.length ∧ Hid (Blk wr w3.heap.size 29 #[.slice ka m.fs.length kc, .slice ua 0 uc]) ∧ Hid (Below w3.heap.size w3 wr)) (fun s13 wr => m.fs.length - numAt wr s13)
      case atStart => exact ⟨0, rfl, by omega, hid (Blk.new _ _ _), hid (below_alloc _)⟩
      case round =>
        clear xt zt xm zm
        obtain ⟨j, rfl, hj, BKr, hb⟩ := hrel
        have Btr := hid (Bt3.out.kept hb.out)
        have Bmr := hid (Bm3.out.kept hb.out)
        have HBr : Hid (Below w.heap.size w wr) := hid (bl_then HB3.out hb.out)
        have xt := Btr.out.cellF
        have zt := Btr.out.lt
        have xm := Bmr.out.cellF
        have zm := Bmr.out.lt
        have xk := BKr.out.cellF
        have zk := BKr.out.lt
        by_cases hlt : j < m.fs.length
        · have j1 : (j : Int) < (m.fs.length : Int) := by omega
          have jp : (0 : Int) ≤ (j : Int) := by omega
          obtain ⟨n, HNW⟩ := HNJ.out j hlt
          obtain ⟨fb, fo, gb, go, e1, e2, c1, c2⟩ := HNW wr hb.out
          subst e1 e2
          have hfb : fb < wr.heap.size := World.block_lt_of_cell? _ _ c1
          have hgb : gb < wr.heap.size := World.block_lt_of_cell? _ _ c2
          clear HNW HNJ HPT
          go_wp2_with fail
          go_region
          go_wp2
          exact ⟨⟨j + 1, by simp, by omega, hid (BKr.out.kept (by exact blBy)), hid (by have := hb.out; exact blBy)⟩, by simp [numAt]; omega⟩
        · have j1 : ¬ (j : Int) < (m.fs.length : Int) := by omega
          have HMKr := hid (HMK.out.kept hb.out)
          have HRr := hid (HR3.out.kept hb.out)
          have HPR := hid (HPT.out wr HBr.out [.slice ka m.fs.length kc, .slice ua 0 uc] K HMKr.out (Or.inr rfl))
          clear HPT HMK HR3 Bt3 Bm3 HB3 HNJ HMKr hb hj
          go_wp2_with fail
          refine HPR.out.mono ?_
          rintro e w4 ⟨qa, qc, rfl, ho, hb4⟩
          have HQ : Hid (RowS w4 AnyZ 1 (.slice qa ps.length qc) ps.length (ps.flatMap cSg)) := hid (pths_row ho)
          have HR4 := hid (HRr.out.kept hb4)
          have HB4 : Hid (Below w.heap.size w w4) := hid (bl_then HBr.out hb4)
          rw [HPN.out] at HQ ⊢
          clear xt zt xm zm xk zk ho hb4 HPR Btr Bmr BKr HBr HRr
          have HSJ : Hid (∀ j, j < pn → ∃ sp, ∀ W, Below w4.heap.size w4 W → ∃ (pb po qb qo : Nat), pa = some ⟨pb, po, none⟩ ∧ qa = some ⟨qb, qo, none⟩ ∧ W.cell? ⟨pb, po + j, none⟩ = some (.string sp) ∧ W.cell? ⟨qb, qo + j, none⟩ = some (.string sp)) := hid (fun j hj => by
            have hj2 : j < ps.length := by rw [HPN.out]; exact hj
            have h1 := HR4.out
            have h2 := HQ.out
            rw [← HPN.out] at h1 h2
            refine ⟨strOfNums ps[j], fun W hW => ?_⟩
            obtain ⟨pb, po, epb, hc⟩ := rowAt (g := cSg) (fun _ => rfl) (h1.kept hW) (i := j) (x := ps[j]) (by simp [hj2])
            obtain ⟨qb, qo, eqb, hd⟩ := rowAt (g := cSg) (fun _ => rfl) (h2.kept hW) (i := j) (x := ps[j]) (by simp [hj2])
            have c1 := hc 0 _ rfl
            have c2 := hd 0 _ rfl
            simp only [Nat.mul_one, Nat.add_zero] at c1 c2
            exact ⟨pb, po, qb, qo, epb, eqb, c1, c2⟩)
          clear HQ HR4 HPN HM0
          go_wp2_with fail
          go_loopw [15] (fun s15 wr => ∃ (j : Nat), s15 = .int .i64 j ∧ j ≤ pn ∧ Hid (Below w4.heap.size w4 wr)) (fun s15 wr => pn - numAt wr s15)
          case atStart => exact ⟨0, rfl, by omega, hid (Below.refl _ _)⟩
          case round =>
            obtain ⟨j, rfl, hj, hb⟩ := hrel
            by_cases hlt : j < pn
            · have j1 : (j : Int) < (pn : Int) := by omega
              have jp : (0 : Int) ≤ (j : Int) := by omega
              obtain ⟨sp, HNW⟩ := HSJ.out j hlt
              obtain ⟨pb, po, qb, qo, e1, e2, c1, c2⟩ := HNW wr hb.out
              subst e1 e2
              clear HNW HSJ
              go_wp2_with fail
              go_region
              go_wp2
              exact ⟨⟨j + 1, by simp, by omega, hid (by have := hb.out; exact blBy)⟩, by simp [numAt]; omega⟩
            · have j1 : ¬ (j : Int) < (pn : Int) := by omega
              have HBE : Hid (Below w.heap.size w wr) := hid (bl_then HB4.out hb.out)
              go_wp2
              exact bodyPost_ret (v := .bool true) (by simp [results, Tryz.results4, go_sem]) rfl ⟨rfl, by have := HBE.out; exact blBy⟩
end Go.Proofs.YtmiemocdjkeefaaGreatDoor
namespace Go.Proofs.YtmiemocdjkeefaaGreatDoor
open Go.RowKit
set_option maxRecDepth 1000000
set_option linter.unusedVariables false
set_option linter.unusedSimpArgs false
set_option maxHeartbeats 1000000
theorem kf1_num {K : List FT → CM → CM} {l : List TV} {fs : List FT} (y : CF CM) : (kf1 K l fs y).num = y.num := by
  unfold kf1
  split <;> rfl
theorem mergePathsW (w : World) (l : List TV) (ta : Option Addr) (tc : Nat) (h : TbR w (.slice ta l.length tc) l) (hk : ∀ x ∈ l, OkV x) (hnm : ∀ x ∈ l, ∀ f ∈ x.t.fs, f.name.length ≤ 4000000) (mx : Int) (hm0 : w.cell? ⟨0, 0, none⟩ = some (.int .i64 mx)) (idx : Int) (Z : Nat → Prop) (d : Nat) (cs : List Value) (m : CM) (hm : MsgE w Z (d + 1) cs m) (hc : cntM (d + 1) m ≤ 4000000) (hd : d + 1 ≤ 4000000) : Calls Tryz.prog 4 #[.agg #[.slice ta l.length tc], .int .i64 idx, .agg cs.toArray] w fun e w' => e = .returned (.bool true) ∧ Below w.heap.size w w' := by
  have HAW := hid fun W (hW : Below w.heap.size w W) => awake10 W mx (cell_below hm0 hW)
  obtain ⟨m1, mc1, m2, mc2, rfl, -⟩ := msg_openD hm
  cases q : isB l idx false with
  | false =>
    exact mpaths_bad w ta l.length tc idx m1 m2 _ mc1 _ mc2 18 (by decide) HAW (hid fun W hW => pathsNo W l ta tc (h.kept hW) hk mx (cell_below hm0 hW) idx q m1 m2 _ mc1 _ mc2)
  | true =>
    obtain ⟨k, hkl, rfl, hg, he⟩ := isB_at q
    have hX := List.getElem_mem hkl
    cases qk : keptB l (d + 1) l[k] m with
    | false =>
      exact mpaths_bad w ta l.length tc k m1 m2 _ mc1 _ mc2 10 (by decide) HAW (hid fun W hW => pathsBad W l ta tc (h.kept hW) hk mx (cell_below hm0 hW) k hkl hg he Z d _ m (hm.kept hW) qk)
    | true =>
      have hE : HasM (d + 1) m := ⟨w, Z, _, hm⟩
      have hd2 : (d + 1) * 4000001 ≤ 140737488355328 := by omega
      have eP : ptM l (d + 1) l[k].t.fs [] m = (pwM l (d + 1) l[k].t.fs m).map Prod.fst := pt_pw l (d + 1) l[k].t.fs [] m
      have lP : (ptM l (d + 1) l[k].t.fs [] m).length ≤ 4000000 := by
        rw [eP, List.length_map]
        exact Nat.le_trans (pw_cnt l (d + 1) _ m) hc
      have eM : mskM l l[k].t.fs ((pwM l (d + 1) l[k].t.fs m).map Prod.fst) = some ((pwM l (d + 1) l[k].t.fs m).map Prod.snd) := msk_pw _ (fun r hr => pw_way hg (d + 1) l[k] m hX qk hE r hr _ (Nat.lt_succ_self _))
      have eL := left_pw hg (d + 1) l[k] m hX qk hE
      have kA := left_kept hg true false (d + 1) l[k] m _ hX qk (mskM_wy _ _ eM)
      rw [eL] at kA
      have eK : ptM l (d + 1) l[k].t.fs [] (kfM l (d + 1) l[k].t.fs m) = ptM l (d + 1) l[k].t.fs [] m := by rw [pt_pw, pt_pw, kf_pw hg (d + 1) l[k] m hX qk hE]
      have hB := pw_bd hg hk hnm (d + 1) l[k] m hX qk hE
      have hpt : ∀ p ∈ ptM l (d + 1) l[k].t.fs [] m, ∃ r ∈ pwM l (d + 1) l[k].t.fs m, r.1 = p ∧ TxA p ∧ PLn p := fun p hp => by
        rw [eP] at hp
        obtain ⟨r, hr, rfl⟩ := List.mem_map.1 hp
        obtain ⟨b1, b2, b3⟩ := hB r hr
        exact ⟨r, hr, rfl, ⟨b1, by omega⟩, by omega, by omega⟩
      refine mpaths_ok w ta l.length tc k d m (kfM l (d + 1) l[k].t.fs m) m1 m2 mc1 mc2 (ptM l (d + 1) l[k].t.fs [] m) (anyP hm) lP ?_ ?_ ?_ HAW (hid fun W hW cs y hy e => ?_) (hid fun W hW p hp cs hy => ?_) (hid fun W hW cs pa pc hy hr => ?_)
      · rw [kfM]
        exact List.length_map ..
      · rw [kfM]
        rfl
      · intro i h1 h2
        have : (kfM l (d + 1) l[k].t.fs m).fs = m.fs.map (kf1 (kfM l d) l l[k].t.fs) := by rw [kfM]; rfl
        simp only [this, List.getElem_map, kf1_num]
      · rcases e with rfl | rfl
        · exact pathsT W l ta tc (h.kept hW) hk hnm mx (cell_below hm0 hW) k hkl hg he AnyZ d cs _ hy qk hd2 lP
        · have := pathsT W l ta tc (h.kept hW) hk hnm mx (cell_below hm0 hW) k hkl hg he AnyZ d cs _ hy kA hd2 (by rw [eK]; exact lP)
          rw [eK] at this
          exact this
      · obtain ⟨r, hr, rfl, t1, t2⟩ := hpt p hp
        refine (valueT W l ta tc (h.kept hW) hk mx (cell_below hm0 hW) k hkl hg he AnyZ d cs m hy qk r.1 t1 t2).mono ?_
        rintro e w' ⟨ds, rfl, hf, hb⟩
        rw [pw_some hg hX qk hE hr]
        obtain ⟨ka, kc, va, vc, rfl, -⟩ := fld_open hf
        exact ⟨_, _, _, _, _, _, _, rfl, hb⟩
      · obtain ⟨u, uc, v, vc, rfl, -⟩ := msg_openD hy
        have := keepC W (.slice ta l.length tc) (.int .i64 (k : Int)) [.slice u m.fs.length uc, .slice v m.us.length vc] (.slice pa (ptM l (d + 1) l[k].t.fs [] m).length pc) d _ (fun W2 h2 => maskedT _ true false W2 l ta tc (h.kept (below_trans hW h2)) hk mx (cell_below hm0 (below_trans hW h2)) k hkl hg he AnyZ d (keepL (d + 1)) _ m (hy.kept h2) qk _ pa pc (hr.kept h2) (fun p hp => by obtain ⟨_, _, _, t1, t2⟩ := hpt p hp; exact ⟨t1, t2⟩) lP) _ _ rfl
        rw [eP] at this ⊢
        rw [eM] at this
        unfold mskR at this
        dsimp only at this
        rw [eL] at this
        exact this
end Go.Proofs.YtmiemocdjkeefaaGreatDoor
namespace Go.Proofs.YtmiemocdjkeefaaGreatDoor
open Go.ChangeShapes Go.WideShapes Go.ChangeAt Go.RowKit Go.Deep
set_option maxRecDepth 1000000
section
variable {H : Type}
theorem bulk_one (d : DataW H) : 1 ≤ Rows.uptoBulk d := by
  cases d with
  | lit l => cases l <;> simp [Rows.uptoBulk]
  | nil => simp [Rows.uptoBulk]
  | ptr d => simp [Rows.uptoBulk]
  | slice elems spare => simp [Rows.uptoBulk]
  | agg parts => simp [Rows.uptoBulk]
  | iface t d => simp [Rows.uptoBulk]
  | map entries => simp [Rows.uptoBulk]
  | held h => simp [Rows.uptoBulk]
theorem bulk_length (l : List (DataW H)) : l.length ≤ Rows.uptoBulkAll l := by
  induction l with
  | nil => simp [Rows.uptoBulkAll]
  | cons x r ih => have := bulk_one x; simp only [Rows.uptoBulkAll, List.length_cons]; omega
theorem small_le {l : List (DataW H)} (hk : Rows.uptoSmall H l = true) : Rows.uptoBulkAll l ≤ 1048576 := of_decide_eq_true hk
end
/-- The numbers of a string's bytes. -/
def numsS (s : ByteArray) : List Int := s.data.toList.map fun b => (b.toNat : Int)
theorem numsS_str (s : ByteArray) : strOfNums (numsS s) = s := by
  apply ByteArray.ext
  apply Array.ext'
  simp [strOfNums, numsS, Function.comp_def]
theorem numsS_bd (s : ByteArray) : ∀ x ∈ numsS s, 0 ≤ x ∧ x ≤ 255 := by
  intro x hx
  obtain ⟨b, _, rfl⟩ := List.mem_map.1 hx
  have := b.toNat_lt
  omega
theorem numsS_len (s : ByteArray) : (numsS s).length = s.data.toList.length := by simp [numsS]
end Go.Proofs.YtmiemocdjkeefaaGreatDoor
