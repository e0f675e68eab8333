/-
  The law: any symbol by number or name; how deep any message can be.
  What comes in, opened: strings; and what the bound on it says.
  A table that comes in, opened.
  A table that comes in, opened: fields, symbols, ranges, types.
  A table that comes in, opened: with the bound on its symbols' names.
  The variables of Go's library that the rows list: a world that lays them; the one that is named alone.
  TableSymbols, round what comes in.
-/
import Derived.Test.YthdkmlfpgmgicaaDoorCOD
import Derived.Test.YthdkmlfpgmgicaaDoorCTY
import Derived.ProofKit
import Derived.OpenShut
import Derived.ShutString
import Derived.Lib.SmallJoins
import Derived.Deep.Slices
import Derived.Deep.Fields
import Derived.Test.YthdkmlfpgmgicaaDoorRows
import Derived.Stop.LaidErr
import Derived.Deep.DeepHandedRow
import Derived.Deep.DeepWitnessRowRef
import Derived.LaidLaws
namespace Go.Proofs.YthdkmlfpgmgicaaDoor
open Go.RowKit
set_option maxRecDepth 1000000
set_option linter.unusedVariables false
set_option linter.unusedSimpArgs false
set_option maxHeartbeats 1000000
theorem isB_other {l : List TV} {idx : Int} {s : Bool} (h : isB l idx s = true) : isB l idx (!s) = false := by
  obtain ⟨k, hk, rfl, hg, he⟩ := isB_at h
  unfold isB
  rw [Int.toNat_natCast, List.getElem?_eq_getElem hk]
  dsimp only
  rw [he]
  cases s <;> simp
theorem tableSymbolsW (w : World) (l : List TV) (ta : Option Addr) (tc : Nat) (h : TbR w (.slice ta l.length tc) l) (hk : ∀ x ∈ l, OkV x) (hz : ∀ x ∈ l, x.t.name.length < 4000000) (hzs : ∀ x ∈ l, ∀ s ∈ x.t.ss, s.name.length ≤ 4000000) (m : Int) (hm : w.cell? ⟨0, 0, none⟩ = some (.int .i64 m)) (idx n : Int) (nm : List Int) (hn : TxA nm) : Calls Tryd.prog 6 #[.agg #[.slice ta l.length tc], .int .i64 idx, .int .i64 n, .string (strOfNums nm)] w fun e w' => e = .returned (.bool true) ∧ Below w.heap.size w w' := by
  obtain ⟨_, _, e0, hn0⟩ := rowS_sl h.row
  clear e0
  have h63 : (l.length : Int) ≤ 9223372036854775807 := by omega
  clear hn0
  have H1 := hid fun W (hW : Below w.heap.size w W) => symbolPT W l ta tc (h.kept hW) hk hzs m (cell_below hm hW) idx n
  have H2 := hid fun W (hW : Below w.heap.size w W) => numberPT W l ta tc (h.kept hW) hk hzs m (cell_below hm hW) idx nm hn
  have H4 := hid fun W (hW : Below w.heap.size w W) => awake7 W m (cell_below hm hW)
  have H5 := hid fun W (hW : Below w.heap.size w W) => isR W l ta tc (h.kept hW) hk hz idx
  have HG : Hid (∀ W, Below w.heap.size w W → Calls Tryd.prog 15 #[.agg #[.slice ta l.length tc]] W fun e w' => e = .returned (.bool (goodB l)) ∧ Below W.heap.size W w') := hid fun W hW => by
    have := goodR W l ta tc (h.kept hW) hk hz
    rw [goodEq l hk] at this
    exact this
  have ez : strOfNums syZ.name = ⟨#[]⟩ := rfl
  have en : syZ.num = 0 := rfl
  cases q : isB l idx false with
  | true =>
    have V1 : symV l idx (syN n) = (syZ, 18) := by unfold symV; rw [if_neg (by rw [show isB l idx true = false from isB_other q]; simp)]
    have V2 : symV l idx (syS nm) = (syZ, 18) := by unfold symV; rw [if_neg (by rw [show isB l idx true = false from isB_other q]; simp)]
    obtain ⟨k, hkl, rfl, hg, he⟩ := isB_at q
    have H3 := hid fun W (hW : Below w.heap.size w W) => depthsOk W l ta tc (h.kept hW) hk m (cell_below hm hW) k hkl hg he
    have H6 := hid fun W (hW : Below w.heap.size w W) => depthsDR W l ta tc (h.kept hW) k hkl hg
    rw [V1] at H1
    rw [V2] at H2
    rw [q] at H5
    dsimp only at H1 H2
    rw [ez] at H1
    rw [en] at H2
    generalize depD l k = dv at *
    clear V1 V2 q h hk hz hzs hm hn HG ez en he hg hkl
    go_enter Tryd.func6, Tryd.ntmps6
    go_wp2_with fail
    refine (H1.out _ (by exact blBy)).mono ?_
    rintro e w1 ⟨rfl, hb⟩
    have Ba : Blk w1 w.heap.size 24 #[.slice ta l.length tc] := (Blk.new _ _ _).kept hb
    have hbz : Hid (Below w.heap.size w w1) := hid (bl_then (by exact blBy) hb)
    clear hb
    have xBa := Ba.cellF
    have zBa := Ba.lt
    go_wp2_with fail
    refine (H2.out _ (by have := hbz.out; exact blBy)).mono ?_
    rintro e w2 ⟨rfl, hb⟩
    replace Ba := Ba.kept hb
    replace hbz : Hid (Below w.heap.size w w2) := hid (bl_then (by have := hbz.out; exact blBy) hb)
    clear hb xBa zBa
    have xBa := Ba.cellF
    have zBa := Ba.lt
    go_wp2_with fail
    refine (H3.out _ (by have := hbz.out; exact blBy)).mono ?_
    rintro e w3 ⟨rfl, hb⟩
    replace Ba := Ba.kept hb
    replace hbz : Hid (Below w.heap.size w w3) := hid (bl_then (by have := hbz.out; exact blBy) hb)
    clear hb xBa zBa
    have xBa := Ba.cellF
    have zBa := Ba.lt
    go_wp2_with fail
    refine (H4.out _ (by have := hbz.out; exact blBy)).mono ?_
    rintro e w4 ⟨rfl, hb⟩
    replace Ba := Ba.kept hb
    replace hbz : Hid (Below w.heap.size w w4) := hid (bl_then (by have := hbz.out; exact blBy) hb)
    clear hb xBa zBa
    have xBa := Ba.cellF
    have zBa := Ba.lt
    go_wp2_with fail
    refine (H5.out _ (by have := hbz.out; exact blBy)).mono ?_
    rintro e w5 ⟨rfl, hb⟩
    replace Ba := Ba.kept hb
    replace hbz : Hid (Below w.heap.size w w5) := hid (bl_then (by have := hbz.out; exact blBy) hb)
    clear hb xBa zBa
    have xBa := Ba.cellF
    have zBa := Ba.lt
    go_wp2_with fail
    refine (H6.out _ (by have := hbz.out; exact blBy)).mono ?_
    rintro e w6 ⟨rfl, hb⟩
    replace Ba := Ba.kept hb
    replace hbz : Hid (Below w.heap.size w w6) := hid (bl_then (by have := hbz.out; exact blBy) hb)
    clear hb xBa zBa
    have xBa := Ba.cellF
    have zBa := Ba.lt
    go_wp2
    go_ret
    exact ⟨ret_bool (by simp), hbz.out⟩
  | false =>
    have H3 := hid fun W (hW : Below w.heap.size w W) => depthsNo W l ta tc (h.kept hW) hk m (cell_below hm hW) idx q
    rw [q] at H5
    cases q2 : isB l idx true with
    | false =>
      have V1 : symV l idx (syN n) = (syZ, 18) := by unfold symV; rw [if_neg (by rw [q2]; simp)]
      have V2 : symV l idx (syS nm) = (syZ, 18) := by unfold symV; rw [if_neg (by rw [q2]; simp)]
      have HNO : Hid (goodB l = true → idx < 0 ∨ (l.length : Int) ≤ idx) := hid fun hg => by
        apply Classical.byContradiction
        intro hc
        have h0 : 0 ≤ idx := by omega
        have hl : idx.toNat < l.length := by omega
        unfold isB at q q2
        rw [hg, List.getElem?_eq_getElem hl] at q q2
        simp only [Bool.true_and, decide_eq_true h0] at q q2
        cases he : l[idx.toNat].t.enum <;> simp [he] at q q2
      rw [V1] at H1
      rw [V2] at H2
      dsimp only at H1 H2
      rw [ez] at H1
      rw [en] at H2
      clear V1 V2 q q2 h hk hz hzs hm hn ez en
      go_enter Tryd.func6, Tryd.ntmps6
      go_wp2_with fail
      refine (H1.out _ (by exact blBy)).mono ?_
      rintro e w1 ⟨rfl, hb⟩
      have Ba : Blk w1 w.heap.size 24 #[.slice ta l.length tc] := (Blk.new _ _ _).kept hb
      have hbz : Hid (Below w.heap.size w w1) := hid (bl_then (by exact blBy) hb)
      clear hb
      have xBa := Ba.cellF
      have zBa := Ba.lt
      go_wp2_with fail
      refine (H2.out _ (by have := hbz.out; exact blBy)).mono ?_
      rintro e w2 ⟨rfl, hb⟩
      replace Ba := Ba.kept hb
      replace hbz : Hid (Below w.heap.size w w2) := hid (bl_then (by have := hbz.out; exact blBy) hb)
      clear hb xBa zBa
      have xBa := Ba.cellF
      have zBa := Ba.lt
      go_wp2_with fail
      refine (H3.out _ (by have := hbz.out; exact blBy)).mono ?_
      rintro e w3 ⟨rfl, hb⟩
      replace Ba := Ba.kept hb
      replace hbz : Hid (Below w.heap.size w w3) := hid (bl_then (by have := hbz.out; exact blBy) hb)
      clear hb xBa zBa
      have xBa := Ba.cellF
      have zBa := Ba.lt
      go_wp2_with fail
      refine (H4.out _ (by have := hbz.out; exact blBy)).mono ?_
      rintro e w4 ⟨rfl, hb⟩
      replace Ba := Ba.kept hb
      replace hbz : Hid (Below w.heap.size w w4) := hid (bl_then (by have := hbz.out; exact blBy) hb)
      clear hb xBa zBa
      have xBa := Ba.cellF
      have zBa := Ba.lt
      go_wp2_with fail
      refine (H5.out _ (by have := hbz.out; exact blBy)).mono ?_
      rintro e w5 ⟨rfl, hb⟩
      replace Ba := Ba.kept hb
      replace hbz : Hid (Below w.heap.size w w5) := hid (bl_then (by have := hbz.out; exact blBy) hb)
      clear hb xBa zBa
      have xBa := Ba.cellF
      have zBa := Ba.lt
      go_wp2_with fail
      refine (HG.out _ (by have := hbz.out; exact blBy)).mono ?_
      rintro e w6 ⟨rfl, hb⟩
      replace Ba := Ba.kept hb
      replace hbz : Hid (Below w.heap.size w w6) := hid (bl_then (by have := hbz.out; exact blBy) hb)
      clear hb xBa zBa
      have xBa := Ba.cellF
      have zBa := Ba.lt
      cases qg : goodB l with
      | false =>
        go_wp2
        go_ret
        exact ⟨ret_bool (by simp), hbz.out⟩
      | true =>
        rcases Decidable.em (idx < 0) with hi | hi
        · have k0 : (idx < 0) = True := eq_true hi
          clear hi
          go_wp2
          go_ret
          exact ⟨ret_bool (by simp), hbz.out⟩
        · have k1 : ((l.length : Int) ≤ idx) = True := eq_true ((HNO.out qg).resolve_left hi)
          have k0 : (idx < 0) = False := eq_false hi
          clear hi
          go_wp2
          go_ret
          exact ⟨ret_bool (by simp), hbz.out⟩
    | true =>
      obtain ⟨k, hkl, rfl, hg, he⟩ := isB_at q2
      have V1 := symV_at hkl (P := syN n) q2
      have V2 := symV_at hkl (P := syS nm) q2
      have H7 := hid fun W (hW : Below w.heap.size w W) => symbolDR W l ta tc (h.kept hW) k hkl n
      have H8 := hid fun W (hW : Below w.heap.size w W) => numberDR W l ta tc (h.kept hW) k hkl nm hn (fun s hs => ((hk _ (List.getElem_mem hkl)).ok.ss s hs).1)
      have k0 : ((k : Int) < 0) = False := eq_false (by omega)
      have k1 : ((l.length : Int) ≤ (k : Int)) = False := eq_false (by omega)
      have k2 : (l.length ≤ k) = False := eq_false (by omega)
      rw [V1] at H1
      rw [V2] at H2
      rw [hg] at HG
      clear V1 V2 q q2 h hk hz hzs hm hn he hg
      generalize l[k].t.ss.find? (syN n) = o1 at *
      generalize l[k].t.ss.find? (syS nm) = o2 at *
      clear hkl
      cases o1 <;> cases o2 <;> dsimp only [Option.getD, Option.isSome] at H1 H2 H7 H8 <;> (try rw [ez] at H1) <;> (try rw [ez] at H7) <;> (try rw [en] at H2) <;> (try rw [en] at H8)
      · go_enter Tryd.func6, Tryd.ntmps6
        go_wp2_with fail
        refine (H1.out _ (by exact blBy)).mono ?_
        rintro e w1 ⟨rfl, hb⟩
        have Ba : Blk w1 w.heap.size 24 #[.slice ta l.length tc] := (Blk.new _ _ _).kept hb
        have hbz : Hid (Below w.heap.size w w1) := hid (bl_then (by exact blBy) hb)
        clear hb
        have xBa := Ba.cellF
        have zBa := Ba.lt
        go_wp2_with fail
        refine (H2.out _ (by have := hbz.out; exact blBy)).mono ?_
        rintro e w2 ⟨rfl, hb⟩
        replace Ba := Ba.kept hb
        replace hbz : Hid (Below w.heap.size w w2) := hid (bl_then (by have := hbz.out; exact blBy) hb)
        clear hb xBa zBa
        have xBa := Ba.cellF
        have zBa := Ba.lt
        go_wp2_with fail
        refine (H3.out _ (by have := hbz.out; exact blBy)).mono ?_
        rintro e w3 ⟨rfl, hb⟩
        replace Ba := Ba.kept hb
        replace hbz : Hid (Below w.heap.size w w3) := hid (bl_then (by have := hbz.out; exact blBy) hb)
        clear hb xBa zBa
        have xBa := Ba.cellF
        have zBa := Ba.lt
        go_wp2_with fail
        refine (H4.out _ (by have := hbz.out; exact blBy)).mono ?_
        rintro e w4 ⟨rfl, hb⟩
        replace Ba := Ba.kept hb
        replace hbz : Hid (Below w.heap.size w w4) := hid (bl_then (by have := hbz.out; exact blBy) hb)
        clear hb xBa zBa
        have xBa := Ba.cellF
        have zBa := Ba.lt
        go_wp2_with fail
        refine (H5.out _ (by have := hbz.out; exact blBy)).mono ?_
        rintro e w5 ⟨rfl, hb⟩
        replace Ba := Ba.kept hb
        replace hbz : Hid (Below w.heap.size w w5) := hid (bl_then (by have := hbz.out; exact blBy) hb)
        clear hb xBa zBa
        have xBa := Ba.cellF
        have zBa := Ba.lt
        go_wp2_with fail
        refine (HG.out _ (by have := hbz.out; exact blBy)).mono ?_
        rintro e w6 ⟨rfl, hb⟩
        replace Ba := Ba.kept hb
        replace hbz : Hid (Below w.heap.size w w6) := hid (bl_then (by have := hbz.out; exact blBy) hb)
        clear hb xBa zBa
        have xBa := Ba.cellF
        have zBa := Ba.lt
        go_wp2_with fail
        refine (H7.out _ (by have := hbz.out; exact blBy)).mono ?_
        rintro e w7 ⟨rfl, hb⟩
        replace Ba := Ba.kept hb
        replace hbz : Hid (Below w.heap.size w w7) := hid (bl_then (by have := hbz.out; exact blBy) hb)
        clear hb xBa zBa
        have xBa := Ba.cellF
        have zBa := Ba.lt
        go_wp2_with fail
        refine (H8.out _ (by have := hbz.out; exact blBy)).mono ?_
        rintro e w8 ⟨rfl, hb⟩
        replace Ba := Ba.kept hb
        replace hbz : Hid (Below w.heap.size w w8) := hid (bl_then (by have := hbz.out; exact blBy) hb)
        clear hb xBa zBa
        have xBa := Ba.cellF
        have zBa := Ba.lt
        go_wp2
        go_ret
        exact ⟨ret_bool (by simp), hbz.out⟩
      · go_enter Tryd.func6, Tryd.ntmps6
        go_wp2_with fail
        refine (H1.out _ (by exact blBy)).mono ?_
        rintro e w1 ⟨rfl, hb⟩
        have Ba : Blk w1 w.heap.size 24 #[.slice ta l.length tc] := (Blk.new _ _ _).kept hb
        have hbz : Hid (Below w.heap.size w w1) := hid (bl_then (by exact blBy) hb)
        clear hb
        have xBa := Ba.cellF
        have zBa := Ba.lt
        go_wp2_with fail
        refine (H2.out _ (by have := hbz.out; exact blBy)).mono ?_
        rintro e w2 ⟨rfl, hb⟩
        replace Ba := Ba.kept hb
        replace hbz : Hid (Below w.heap.size w w2) := hid (bl_then (by have := hbz.out; exact blBy) hb)
        clear hb xBa zBa
        have xBa := Ba.cellF
        have zBa := Ba.lt
        go_wp2_with fail
        refine (H3.out _ (by have := hbz.out; exact blBy)).mono ?_
        rintro e w3 ⟨rfl, hb⟩
        replace Ba := Ba.kept hb
        replace hbz : Hid (Below w.heap.size w w3) := hid (bl_then (by have := hbz.out; exact blBy) hb)
        clear hb xBa zBa
        have xBa := Ba.cellF
        have zBa := Ba.lt
        go_wp2_with fail
        refine (H4.out _ (by have := hbz.out; exact blBy)).mono ?_
        rintro e w4 ⟨rfl, hb⟩
        replace Ba := Ba.kept hb
        replace hbz : Hid (Below w.heap.size w w4) := hid (bl_then (by have := hbz.out; exact blBy) hb)
        clear hb xBa zBa
        have xBa := Ba.cellF
        have zBa := Ba.lt
        go_wp2_with fail
        refine (H5.out _ (by have := hbz.out; exact blBy)).mono ?_
        rintro e w5 ⟨rfl, hb⟩
        replace Ba := Ba.kept hb
        replace hbz : Hid (Below w.heap.size w w5) := hid (bl_then (by have := hbz.out; exact blBy) hb)
        clear hb xBa zBa
        have xBa := Ba.cellF
        have zBa := Ba.lt
        go_wp2_with fail
        refine (HG.out _ (by have := hbz.out; exact blBy)).mono ?_
        rintro e w6 ⟨rfl, hb⟩
        replace Ba := Ba.kept hb
        replace hbz : Hid (Below w.heap.size w w6) := hid (bl_then (by have := hbz.out; exact blBy) hb)
        clear hb xBa zBa
        have xBa := Ba.cellF
        have zBa := Ba.lt
        go_wp2_with fail
        refine (H7.out _ (by have := hbz.out; exact blBy)).mono ?_
        rintro e w7 ⟨rfl, hb⟩
        replace Ba := Ba.kept hb
        replace hbz : Hid (Below w.heap.size w w7) := hid (bl_then (by have := hbz.out; exact blBy) hb)
        clear hb xBa zBa
        have xBa := Ba.cellF
        have zBa := Ba.lt
        go_wp2_with fail
        refine (H8.out _ (by have := hbz.out; exact blBy)).mono ?_
        rintro e w8 ⟨rfl, hb⟩
        replace Ba := Ba.kept hb
        replace hbz : Hid (Below w.heap.size w w8) := hid (bl_then (by have := hbz.out; exact blBy) hb)
        clear hb xBa zBa
        have xBa := Ba.cellF
        have zBa := Ba.lt
        go_wp2
        go_ret
        exact ⟨ret_bool (by simp), hbz.out⟩
      · go_enter Tryd.func6, Tryd.ntmps6
        go_wp2_with fail
        refine (H1.out _ (by exact blBy)).mono ?_
        rintro e w1 ⟨rfl, hb⟩
        have Ba : Blk w1 w.heap.size 24 #[.slice ta l.length tc] := (Blk.new _ _ _).kept hb
        have hbz : Hid (Below w.heap.size w w1) := hid (bl_then (by exact blBy) hb)
        clear hb
        have xBa := Ba.cellF
        have zBa := Ba.lt
        go_wp2_with fail
        refine (H2.out _ (by have := hbz.out; exact blBy)).mono ?_
        rintro e w2 ⟨rfl, hb⟩
        replace Ba := Ba.kept hb
        replace hbz : Hid (Below w.heap.size w w2) := hid (bl_then (by have := hbz.out; exact blBy) hb)
        clear hb xBa zBa
        have xBa := Ba.cellF
        have zBa := Ba.lt
        go_wp2_with fail
        refine (H3.out _ (by have := hbz.out; exact blBy)).mono ?_
        rintro e w3 ⟨rfl, hb⟩
        replace Ba := Ba.kept hb
        replace hbz : Hid (Below w.heap.size w w3) := hid (bl_then (by have := hbz.out; exact blBy) hb)
        clear hb xBa zBa
        have xBa := Ba.cellF
        have zBa := Ba.lt
        go_wp2_with fail
        refine (H4.out _ (by have := hbz.out; exact blBy)).mono ?_
        rintro e w4 ⟨rfl, hb⟩
        replace Ba := Ba.kept hb
        replace hbz : Hid (Below w.heap.size w w4) := hid (bl_then (by have := hbz.out; exact blBy) hb)
        clear hb xBa zBa
        have xBa := Ba.cellF
        have zBa := Ba.lt
        go_wp2_with fail
        refine (H5.out _ (by have := hbz.out; exact blBy)).mono ?_
        rintro e w5 ⟨rfl, hb⟩
        replace Ba := Ba.kept hb
        replace hbz : Hid (Below w.heap.size w w5) := hid (bl_then (by have := hbz.out; exact blBy) hb)
        clear hb xBa zBa
        have xBa := Ba.cellF
        have zBa := Ba.lt
        go_wp2_with fail
        refine (HG.out _ (by have := hbz.out; exact blBy)).mono ?_
        rintro e w6 ⟨rfl, hb⟩
        replace Ba := Ba.kept hb
        replace hbz : Hid (Below w.heap.size w w6) := hid (bl_then (by have := hbz.out; exact blBy) hb)
        clear hb xBa zBa
        have xBa := Ba.cellF
        have zBa := Ba.lt
        go_wp2_with fail
        refine (H7.out _ (by have := hbz.out; exact blBy)).mono ?_
        rintro e w7 ⟨rfl, hb⟩
        replace Ba := Ba.kept hb
        replace hbz : Hid (Below w.heap.size w w7) := hid (bl_then (by have := hbz.out; exact blBy) hb)
        clear hb xBa zBa
        have xBa := Ba.cellF
        have zBa := Ba.lt
        go_wp2_with fail
        refine (H8.out _ (by have := hbz.out; exact blBy)).mono ?_
        rintro e w8 ⟨rfl, hb⟩
        replace Ba := Ba.kept hb
        replace hbz : Hid (Below w.heap.size w w8) := hid (bl_then (by have := hbz.out; exact blBy) hb)
        clear hb xBa zBa
        have xBa := Ba.cellF
        have zBa := Ba.lt
        go_wp2
        go_ret
        exact ⟨ret_bool (by simp), hbz.out⟩
      · go_enter Tryd.func6, Tryd.ntmps6
        go_wp2_with fail
        refine (H1.out _ (by exact blBy)).mono ?_
        rintro e w1 ⟨rfl, hb⟩
        have Ba : Blk w1 w.heap.size 24 #[.slice ta l.length tc] := (Blk.new _ _ _).kept hb
        have hbz : Hid (Below w.heap.size w w1) := hid (bl_then (by exact blBy) hb)
        clear hb
        have xBa := Ba.cellF
        have zBa := Ba.lt
        go_wp2_with fail
        refine (H2.out _ (by have := hbz.out; exact blBy)).mono ?_
        rintro e w2 ⟨rfl, hb⟩
        replace Ba := Ba.kept hb
        replace hbz : Hid (Below w.heap.size w w2) := hid (bl_then (by have := hbz.out; exact blBy) hb)
        clear hb xBa zBa
        have xBa := Ba.cellF
        have zBa := Ba.lt
        go_wp2_with fail
        refine (H3.out _ (by have := hbz.out; exact blBy)).mono ?_
        rintro e w3 ⟨rfl, hb⟩
        replace Ba := Ba.kept hb
        replace hbz : Hid (Below w.heap.size w w3) := hid (bl_then (by have := hbz.out; exact blBy) hb)
        clear hb xBa zBa
        have xBa := Ba.cellF
        have zBa := Ba.lt
        go_wp2_with fail
        refine (H4.out _ (by have := hbz.out; exact blBy)).mono ?_
        rintro e w4 ⟨rfl, hb⟩
        replace Ba := Ba.kept hb
        replace hbz : Hid (Below w.heap.size w w4) := hid (bl_then (by have := hbz.out; exact blBy) hb)
        clear hb xBa zBa
        have xBa := Ba.cellF
        have zBa := Ba.lt
        go_wp2_with fail
        refine (H5.out _ (by have := hbz.out; exact blBy)).mono ?_
        rintro e w5 ⟨rfl, hb⟩
        replace Ba := Ba.kept hb
        replace hbz : Hid (Below w.heap.size w w5) := hid (bl_then (by have := hbz.out; exact blBy) hb)
        clear hb xBa zBa
        have xBa := Ba.cellF
        have zBa := Ba.lt
        go_wp2_with fail
        refine (HG.out _ (by have := hbz.out; exact blBy)).mono ?_
        rintro e w6 ⟨rfl, hb⟩
        replace Ba := Ba.kept hb
        replace hbz : Hid (Below w.heap.size w w6) := hid (bl_then (by have := hbz.out; exact blBy) hb)
        clear hb xBa zBa
        have xBa := Ba.cellF
        have zBa := Ba.lt
        go_wp2_with fail
        refine (H7.out _ (by have := hbz.out; exact blBy)).mono ?_
        rintro e w7 ⟨rfl, hb⟩
        replace Ba := Ba.kept hb
        replace hbz : Hid (Below w.heap.size w w7) := hid (bl_then (by have := hbz.out; exact blBy) hb)
        clear hb xBa zBa
        have xBa := Ba.cellF
        have zBa := Ba.lt
        go_wp2_with fail
        refine (H8.out _ (by have := hbz.out; exact blBy)).mono ?_
        rintro e w8 ⟨rfl, hb⟩
        replace Ba := Ba.kept hb
        replace hbz : Hid (Below w.heap.size w w8) := hid (bl_then (by have := hbz.out; exact blBy) hb)
        clear hb xBa zBa
        have xBa := Ba.cellF
        have zBa := Ba.lt
        go_wp2
        go_ret
        exact ⟨ret_bool (by simp), hbz.out⟩
end Go.Proofs.YthdkmlfpgmgicaaDoor
namespace Go.Proofs.YthdkmlfpgmgicaaDoor
open Go.ChangeShapes Go.WideShapes Go.ChangeAt Go.RowKit Go.Deep
set_option maxRecDepth 1000000
section
variable {H : Type}
theorem bulk_one (d : DataW H) : 1 ≤ Rows.uptoBulk d := by
  cases d with
  | lit l => cases l <;> simp [Rows.uptoBulk]
  | nil => simp [Rows.uptoBulk]
  | ptr d => simp [Rows.uptoBulk]
  | slice elems spare => simp [Rows.uptoBulk]
  | agg parts => simp [Rows.uptoBulk]
  | iface t d => simp [Rows.uptoBulk]
  | map entries => simp [Rows.uptoBulk]
  | held h => simp [Rows.uptoBulk]
theorem bulk_length (l : List (DataW H)) : l.length ≤ Rows.uptoBulkAll l := by
  induction l with
  | nil => simp [Rows.uptoBulkAll]
  | cons x r ih => have := bulk_one x; simp only [Rows.uptoBulkAll, List.length_cons]; omega
theorem small_le {l : List (DataW H)} (hk : Rows.uptoSmall H l = true) : Rows.uptoBulkAll l ≤ 1048576 := of_decide_eq_true hk
end
/-- The numbers of a string's bytes. -/
def numsS (s : ByteArray) : List Int := s.data.toList.map fun b => (b.toNat : Int)
theorem numsS_str (s : ByteArray) : strOfNums (numsS s) = s := by
  apply ByteArray.ext
  apply Array.ext'
  simp [strOfNums, numsS, Function.comp_def]
theorem numsS_bd (s : ByteArray) : ∀ x ∈ numsS s, 0 ≤ x ∧ x ≤ 255 := by
  intro x hx
  obtain ⟨b, _, rfl⟩ := List.mem_map.1 hx
  have := b.toNat_lt
  omega
theorem numsS_len (s : ByteArray) : (numsS s).length = s.data.toList.length := by simp [numsS]
end Go.Proofs.YthdkmlfpgmgicaaDoor
namespace Go.Proofs.YthdkmlfpgmgicaaDoor
open Go.ChangeShapes Go.WideShapes Go.ChangeAt Go.RowKit Go.Deep
set_option maxRecDepth 1000000
set_option linter.unusedVariables false
set_option linter.unusedSimpArgs false
set_option maxHeartbeats 1000000
section
variable {H : Type} {enc : TypeId × Value → H} {W : World} {spare : Nat → Bool} {held : Bool}
/-- A struct of fields of one cell each, opened. -/
theorem struct_open {t : TypeId} {fs : Array Field} (ht : Tryd.prog.underlying t = some (.struct fs)) (hone : oneCellFields Tryd.prog fs = true) (hsz : Tryd.prog.cellsOf t = fs.size) {fuel : Nat} {cs : List Value} {y : DataW H × List MemPlace} (h : DataW.trod enc Tryd.prog W 0 spare held fuel t cs = some y) :
    ∃ (xs : List (DataW H × List MemPlace)) (n : Nat), y.1 = .agg (xs.map (·.1)) ∧ xs.length = fs.size ∧ cs.length = fs.size ∧ ∀ (i : Nat) (f : Field), fs[i]? = some f → ∃ v yi, cs[i]? = some v ∧ xs[i]? = some yi ∧ DataW.trod enc Tryd.prog W 0 spare held n f.type [v] = some yi := by
  obtain ⟨xs, n, _, rfl, hl, hlen, hf⟩ := DataW.trod_struct ht h
  refine ⟨xs, n, rfl, hlen, hl.trans hsz, fun i f hi => ?_⟩
  have hlt : i < fs.size := (Array.getElem?_eq_some_iff.1 hi).1
  obtain ⟨o1, o2⟩ := hone_of hone i f hi
  have hc : i < cs.length := by omega
  have hx : i < xs.length := by omega
  refine ⟨cs[i], xs[i], by simp [hc], by simp [hx], ?_⟩
  have := hf i f hi
  have e : (cs.drop i).take 1 = [cs[i]] := by rw [List.drop_eq_getElem_cons hc]; rfl
  rw [o1, o2, e] at this
  rw [this]
  simp [hx]
theorem bulk_mem {l : List (DataW H)} {d : DataW H} (h : d ∈ l) : Rows.uptoBulk d ≤ Rows.uptoBulkAll l := by
  induction l with
  | nil => cases h
  | cons x r ih =>
    simp only [Rows.uptoBulkAll]
    rcases List.mem_cons.1 h with rfl | h
    · omega
    · have := ih h; omega
theorem bulk_get {xs : List (DataW H × List MemPlace)} {i : Nat} {y : DataW H × List MemPlace} (h : xs[i]? = some y) : Rows.uptoBulk y.1 + 1 ≤ Rows.uptoBulk (DataW.agg (xs.map (·.1))) := by
  have := bulk_mem (l := xs.map (·.1)) (d := y.1) (List.mem_map.2 ⟨y, List.mem_of_getElem? h, rfl⟩)
  simp only [Rows.uptoBulk]
  omega
/-- A row of structs, opened. -/
theorem rows_open {α : Type} (g : α → List Value) (K : Nat) (hK0 : 0 < K) (Q : α → DataW H → Prop) {t e : TypeId} (ht : Tryd.prog.underlying t = some (.slice e)) (hK : Tryd.prog.cellsOf e = K) (hg : ∀ x, (g x).length = K)
    (hel : ∀ (n : Nat) (cs : List Value) (y : DataW H × List MemPlace), DataW.trod enc Tryd.prog W 0 spare held n e cs = some y → ∃ x, cs = g x ∧ Q x y.1) {fuel : Nat} {v : Value} {y : DataW H × List MemPlace} (hf : DataW.trod enc Tryd.prog W 0 spare held fuel t [v] = some y) :
    ∃ (a : Option Addr) (cap : Nat) (xs : List α), v = .slice a xs.length cap ∧ RowS W AnyZ K v xs.length (xs.flatMap g) ∧ xs.length + 1 ≤ Rows.uptoBulk y.1 ∧ ∀ x ∈ xs, ∃ d, Q x d ∧ Rows.uptoBulk d ≤ Rows.uptoBulk y.1 := by
  rcases open_slice ht hf with ⟨hcs, rfl⟩ | ⟨a, len, cap, m, n, D, Pl, hcs, _, hl, hm, hmm, rfl, hx⟩
  · simp at hcs
    subst hcs
    exact ⟨none, 0, [], rfl, rowS_nil _ _ _, by simp [Rows.uptoBulk], fun x hx => by cases hx⟩
  · simp at hcs
    subst hcs
    rw [hK] at hx
    have hlm : len ≤ m := by rw [hmm]; split <;> omega
    have hc : ∀ i, i < len → ∃ x : α, W.cells? 0 (a.add (i * K)) K = some (g x) ∧ Q x (D i) := fun i hi => by
      obtain ⟨cs', h1, h2⟩ := hx i (by omega)
      obtain ⟨x, rfl, hq⟩ := hel _ _ _ h2
      exact ⟨x, h1, hq⟩
    obtain ⟨xs, hxl, hxs⟩ : ∃ xs : List α, xs.length = len ∧ ∀ i (h : i < xs.length), W.cells? 0 (a.add (i * K)) K = some (g xs[i]) ∧ Q xs[i] (D i) := by
      clear hx hl hlm hmm hf
      induction len with
      | zero => exact ⟨[], rfl, fun i h => by simp at h⟩
      | succ k ih =>
        obtain ⟨xs, h1, h2⟩ := ih (fun i hi => hc i (by omega))
        obtain ⟨x, h3, h4⟩ := hc k (by omega)
        refine ⟨xs ++ [x], by simp [h1], fun i h => ?_⟩
        by_cases e : i < xs.length
        · rw [List.getElem_append_left e]; exact h2 i e
        · have ei : i = k := by simp at h; omega
          subst ei
          rw [List.getElem_append_right (by omega)]
          simp [h1, h3, h4]
    subst hxl
    have hb : ∀ i, i < xs.length → D i ∈ (List.range xs.length).map D := fun i hi => List.mem_map.2 ⟨i, List.mem_range.2 hi, rfl⟩
    refine ⟨some a, cap, xs, rfl, ⟨some a, cap, rfl, flatM_len hg xs, hl, by unfold maxLen at hm; omega, ?_⟩, ?_, fun x hxm => ?_⟩
    · by_cases h0 : xs.length = 0
      · exact .inl ⟨h0, fun e => by cases e⟩
      · obtain ⟨b, off, spot⟩ := a
        have hspot : spot = none := by
          have h1 := (World.cells?_some (hxs 0 (by omega)).1).2.2 0 hK0
          have h2 : (g xs[0])[0]? = some ((g xs[0])[0]'(by rw [hg]; exact hK0)) := by simp
          rw [h2] at h1
          simpa [Addr.add] using World.cell?_spot h1
        subst hspot
        refine .inr ⟨b, off, rfl, trivial, fun j u hu => ?_⟩
        have hj : j < xs.length * K := by rw [← flatM_len hg xs]; exact (List.getElem?_eq_some_iff.1 hu).1
        have hi : j / K < xs.length := (Nat.div_lt_iff_lt_mul hK0).2 hj
        have hr : j % K < K := Nat.mod_lt _ hK0
        have hjj : j / K * K + j % K = j := by rw [Nat.mul_comm]; exact Nat.div_add_mod j K
        have h2 : (g xs[j / K])[j % K]? = some ((g xs[j / K])[j % K]'(by rw [hg]; exact hr)) := by simp
        have h3 := flatM_get hg xs (j / K) (j % K) xs[j / K] _ (by simp [hi]) h2
        rw [hjj] at h3
        rw [h3] at hu
        have h1 := (World.cells?_some (hxs (j / K) hi).1).2.2 (j % K) hr
        have hadd : ((⟨b, off, none⟩ : Addr).add (j / K * K)).add (j % K) = ⟨b, off + j, none⟩ := by
          have e1 : ∀ (o i : Nat), (⟨b, o, none⟩ : Addr).add i = ⟨b, o + i, none⟩ := fun o i => by unfold Addr.add; split <;> simp_all
          rw [e1, e1, Nat.add_assoc, hjj]
        rw [hadd, h2] at h1
        rw [h1]
        exact hu
    · simp only [Rows.uptoBulk]
      have := bulk_length ((List.range xs.length).map D)
      simp at this
      omega
    · obtain ⟨i, hi, rfl⟩ := List.mem_iff_getElem.1 hxm
      refine ⟨D i, (hxs i hi).2, ?_⟩
      have := bulk_mem (hb i hi)
      simp only [Rows.uptoBulk]
      omega
/-- What a text that was read is. -/
def okX (b : Nat) (x : List Int) : Prop := TxA x ∧ x.length + 1 ≤ b
theorem str_open {n : Nat} {v : Value} {y : DataW H × List MemPlace} (h : DataW.trod enc Tryd.prog W 0 spare held n 9 [v] = some y) : ∃ x : List Int, v = .string (strOfNums x) ∧ okX (Rows.uptoBulk y.1) x := by
  obtain ⟨s, e, rfl, hs⟩ := DataW.trod_string Tryd.underlying9 h
  simp at e
  subst e
  refine ⟨numsS s, by rw [numsS_str], ⟨numsS_bd s, ?_⟩, ?_⟩
  · rw [numsS_len]
    unfold maxLen at hs
    simpa using hs
  · rw [numsS_len]
    simp [Rows.uptoBulk]
theorem int_open {n : Nat} {v : Value} {y : DataW H × List MemPlace} (h : DataW.trod enc Tryd.prog W 0 spare held n 3 [v] = some y) : ∃ x : Int, v = .int .i64 x ∧ I64 x := by
  obtain ⟨x, e, rfl, hs⟩ := DataW.trod_int Tryd.underlying3 h
  simp at e
  subst e
  refine ⟨x, rfl, ?_⟩
  unfold I64
  simp [Lit.wf, IntKind.min, IntKind.max, IntKind.signed, IntKind.bits] at hs
  omega
end
end Go.Proofs.YthdkmlfpgmgicaaDoor
namespace Go.Proofs.YthdkmlfpgmgicaaDoor
open Go.ChangeShapes Go.WideShapes Go.ChangeAt Go.RowKit Go.Deep
set_option maxRecDepth 1000000
set_option linter.unusedVariables false
set_option linter.unusedSimpArgs false
set_option maxHeartbeats 1000000
theorem fieldsF : ∃ f0 f1 f2 f3 f4 f5 f6, Tryd.prog.underlying 39 = some (.struct #[f0, f1, f2, f3, f4, f5, f6]) ∧ oneCellFields Tryd.prog #[f0, f1, f2, f3, f4, f5, f6] = true ∧ Tryd.prog.cellsOf 39 = 7 ∧ f0.type = 9 ∧ f1.type = 3 ∧ f2.type = 3 ∧ f3.type = 3 ∧ f4.type = 3 ∧ f5.type = 3 ∧ f6.type = 3 :=
  ⟨_, _, _, _, _, _, _, Tryd.underlying39, by kernel_rfl, by kernel_rfl, by kernel_rfl, by kernel_rfl, by kernel_rfl, by kernel_rfl, by kernel_rfl, by kernel_rfl, by kernel_rfl⟩
theorem fieldsS : ∃ f0 f1, Tryd.prog.underlying 56 = some (.struct #[f0, f1]) ∧ oneCellFields Tryd.prog #[f0, f1] = true ∧ Tryd.prog.cellsOf 56 = 2 ∧ f0.type = 9 ∧ f1.type = 3 :=
  ⟨_, _, Tryd.underlying56, by kernel_rfl, by kernel_rfl, by kernel_rfl, by kernel_rfl⟩
theorem fieldsR : ∃ f0 f1, Tryd.prog.underlying 97 = some (.struct #[f0, f1]) ∧ oneCellFields Tryd.prog #[f0, f1] = true ∧ Tryd.prog.cellsOf 97 = 2 ∧ f0.type = 3 ∧ f1.type = 3 :=
  ⟨_, _, Tryd.underlying97, by kernel_rfl, by kernel_rfl, by kernel_rfl, by kernel_rfl⟩
theorem fieldsT : ∃ f0 f1 f2 f3 f4 f5, Tryd.prog.underlying 62 = some (.struct #[f0, f1, f2, f3, f4, f5]) ∧ oneCellFields Tryd.prog #[f0, f1, f2, f3, f4, f5] = true ∧ Tryd.prog.cellsOf 62 = 6 ∧ f0.type = 9 ∧ f1.type = 4 ∧ f2.type = 58 ∧ f3.type = 59 ∧ f4.type = 57 ∧ f5.type = 60 :=
  ⟨_, _, _, _, _, _, Tryd.underlying62, by kernel_rfl, by kernel_rfl, by kernel_rfl, by kernel_rfl, by kernel_rfl, by kernel_rfl, by kernel_rfl, by kernel_rfl⟩
theorem list_eq {cs : List Value} : ∀ (l : List Value), cs.length = l.length → (∀ (i : Nat) (v : Value), l[i]? = some v → cs[i]? = some v) → cs = l := fun l hl h => by
  apply List.ext_getElem? 
  intro i
  by_cases hi : i < l.length
  · rw [h i l[i] (by simp [hi])]; simp [hi]
  · rw [List.getElem?_eq_none (by omega), List.getElem?_eq_none (by omega)]
section
variable {H : Type} {enc : TypeId × Value → H} {W : World} {spare : Nat → Bool} {held : Bool}
theorem ft_open (n : Nat) (cs : List Value) (y : DataW H × List MemPlace) (h : DataW.trod enc Tryd.prog W 0 spare held n 39 cs = some y) : ∃ x : FT, cs = cFT x ∧ okX (Rows.uptoBulk y.1) x.name := by
  obtain ⟨f0, f1, f2, f3, f4, f5, f6, hs, hone, hsz, t0, t1, t2, t3, t4, t5, t6⟩ := fieldsF
  obtain ⟨xs, m, hy, hxl, hcl, hi⟩ := struct_open hs hone hsz h
  obtain ⟨v0, y0, c0, x0, h0⟩ := hi 0 f0 rfl
  rw [t0] at h0
  obtain ⟨v1, y1, c1, x1, h1⟩ := hi 1 f1 rfl
  rw [t1] at h1
  obtain ⟨v2, y2, c2, x2, h2⟩ := hi 2 f2 rfl
  rw [t2] at h2
  obtain ⟨v3, y3, c3, x3, h3⟩ := hi 3 f3 rfl
  rw [t3] at h3
  obtain ⟨v4, y4, c4, x4, h4⟩ := hi 4 f4 rfl
  rw [t4] at h4
  obtain ⟨v5, y5, c5, x5, h5⟩ := hi 5 f5 rfl
  rw [t5] at h5
  obtain ⟨v6, y6, c6, x6, h6⟩ := hi 6 f6 rfl
  rw [t6] at h6
  obtain ⟨a0, rfl, k0⟩ := str_open h0
  obtain ⟨a1, rfl, k1⟩ := int_open h1
  obtain ⟨a2, rfl, k2⟩ := int_open h2
  obtain ⟨a3, rfl, k3⟩ := int_open h3
  obtain ⟨a4, rfl, k4⟩ := int_open h4
  obtain ⟨a5, rfl, k5⟩ := int_open h5
  obtain ⟨a6, rfl, k6⟩ := int_open h6
  refine ⟨⟨a0, a1, a2, a3, a4, a5, a6⟩, list_eq _ (by rw [hcl]; rfl) fun i v hv => ?_, k0.1, ?_⟩
  · match i, hv with
    | 0, hv => simp [cFT] at hv; subst hv; exact c0
    | 1, hv => simp [cFT] at hv; subst hv; exact c1
    | 2, hv => simp [cFT] at hv; subst hv; exact c2
    | 3, hv => simp [cFT] at hv; subst hv; exact c3
    | 4, hv => simp [cFT] at hv; subst hv; exact c4
    | 5, hv => simp [cFT] at hv; subst hv; exact c5
    | 6, hv => simp [cFT] at hv; subst hv; exact c6
    | i + 7, hv => simp [cFT] at hv
  · have := bulk_get x0
    rw [hy]
    have := k0.2
    dsimp only
    omega
theorem sy_open (n : Nat) (cs : List Value) (y : DataW H × List MemPlace) (h : DataW.trod enc Tryd.prog W 0 spare held n 56 cs = some y) : ∃ x : SY, cs = cSY x ∧ (okX (Rows.uptoBulk y.1) x.name ∧ I64 x.num) := by
  obtain ⟨f0, f1, hs, hone, hsz, t0, t1⟩ := fieldsS
  obtain ⟨xs, m, hy, hxl, hcl, hi⟩ := struct_open hs hone hsz h
  obtain ⟨v0, y0, c0, x0, h0⟩ := hi 0 f0 rfl
  rw [t0] at h0
  obtain ⟨v1, y1, c1, x1, h1⟩ := hi 1 f1 rfl
  rw [t1] at h1
  obtain ⟨a0, rfl, k0⟩ := str_open h0
  obtain ⟨a1, rfl, k1⟩ := int_open h1
  refine ⟨⟨a0, a1⟩, list_eq _ (by rw [hcl]; rfl) fun i v hv => ?_, ⟨k0.1, ?_⟩, k1⟩
  · match i, hv with
    | 0, hv => simp [cSY] at hv; subst hv; exact c0
    | 1, hv => simp [cSY] at hv; subst hv; exact c1
    | i + 2, hv => simp [cSY] at hv
  · have := bulk_get x0
    rw [hy]
    have := k0.2
    dsimp only
    omega
theorem rg_open (n : Nat) (cs : List Value) (y : DataW H × List MemPlace) (h : DataW.trod enc Tryd.prog W 0 spare held n 97 cs = some y) : ∃ x : RG, cs = cRG x ∧ True := by
  obtain ⟨f0, f1, hs, hone, hsz, t0, t1⟩ := fieldsR
  obtain ⟨xs, m, hy, hxl, hcl, hi⟩ := struct_open hs hone hsz h
  obtain ⟨v0, y0, c0, x0, h0⟩ := hi 0 f0 rfl
  rw [t0] at h0
  obtain ⟨v1, y1, c1, x1, h1⟩ := hi 1 f1 rfl
  rw [t1] at h1
  obtain ⟨a0, rfl, k0⟩ := int_open h0
  obtain ⟨a1, rfl, k1⟩ := int_open h1
  refine ⟨⟨a0, a1⟩, list_eq _ (by rw [hcl]; rfl) fun i v hv => ?_, trivial⟩
  match i, hv with
  | 0, hv => simp [cRG] at hv; subst hv; exact c0
  | 1, hv => simp [cRG] at hv; subst hv; exact c1
  | i + 2, hv => simp [cRG] at hv
theorem st_open (n : Nat) (cs : List Value) (y : DataW H × List MemPlace) (h : DataW.trod enc Tryd.prog W 0 spare held n 9 cs = some y) : ∃ x : List Int, cs = cN x ∧ okX (Rows.uptoBulk y.1) x := by
  obtain ⟨s, e, _⟩ := DataW.trod_string Tryd.underlying9 h
  subst e
  obtain ⟨x, e, k⟩ := str_open h
  exact ⟨x, by rw [e]; rfl, k⟩
theorem fieldsB : ∃ f0, Tryd.prog.underlying 24 = some (.struct #[f0]) ∧ oneCellFields Tryd.prog #[f0] = true ∧ Tryd.prog.cellsOf 24 = 1 ∧ Tryd.prog.underlying f0.type = some (.slice 62) :=
  ⟨_, Tryd.underlying24, by kernel_rfl, by kernel_rfl, by kernel_rfl⟩
end
end Go.Proofs.YthdkmlfpgmgicaaDoor
namespace Go.Proofs.YthdkmlfpgmgicaaDoor
open Go.ChangeShapes Go.WideShapes Go.ChangeAt Go.RowKit Go.Deep
set_option maxRecDepth 1000000
set_option linter.unusedVariables false
set_option linter.unusedSimpArgs false
set_option maxHeartbeats 1000000
section
variable {H : Type} {enc : TypeId × Value → H} {W : World} {spare : Nat → Bool} {held : Bool}
theorem tvs_open (n : Nat) (cs : List Value) (y : DataW H × List MemPlace) (h : DataW.trod enc Tryd.prog W 0 spare held n 62 cs = some y) : ∃ x : TV, cs = cTV x ∧ (TyR W x ∧ (Rows.uptoBulk y.1 ≤ 1048576 → OkV x ∧ x.t.name.length < 4000000 ∧ ∀ s ∈ x.t.ss, s.name.length ≤ 4000000)) := by
  obtain ⟨f0, f1, f2, f3, f4, f5, hs, hone, hsz, t0, t1, t2, t3, t4, t5⟩ := fieldsT
  obtain ⟨xs, m, hy, hxl, hcl, hi⟩ := struct_open hs hone hsz h
  obtain ⟨v0, y0, c0, x0, h0⟩ := hi 0 f0 rfl
  rw [t0] at h0
  have b0 := bulk_get x0
  obtain ⟨v1, y1, c1, x1, h1⟩ := hi 1 f1 rfl
  rw [t1] at h1
  have b1 := bulk_get x1
  obtain ⟨v2, y2, c2, x2, h2⟩ := hi 2 f2 rfl
  rw [t2] at h2
  have b2 := bulk_get x2
  obtain ⟨v3, y3, c3, x3, h3⟩ := hi 3 f3 rfl
  rw [t3] at h3
  have b3 := bulk_get x3
  obtain ⟨v4, y4, c4, x4, h4⟩ := hi 4 f4 rfl
  rw [t4] at h4
  have b4 := bulk_get x4
  obtain ⟨v5, y5, c5, x5, h5⟩ := hi 5 f5 rfl
  rw [t5] at h5
  have b5 := bulk_get x5
  rw [← hy] at b0 b1 b2 b3 b4 b5
  obtain ⟨a0, rfl, k0⟩ := str_open h0
  obtain ⟨e1, he1, _⟩ := DataW.trod_bool Tryd.underlying4 h1
  simp at he1
  subst he1
  obtain ⟨fa, fc, fs, rfl, rf, lf, qf⟩ := rows_open cFT 7 (by decide) (fun x d => okX (Rows.uptoBulk d) x.name) Tryd.underlying58 (by kernel_rfl) (fun _ => rfl) ft_open h2
  obtain ⟨oa, oc, os, rfl, ro, lo, qo⟩ := rows_open cN 1 (by decide) (fun x d => okX (Rows.uptoBulk d) x) Tryd.underlying59 (by kernel_rfl) (fun _ => rfl) st_open h3
  obtain ⟨sa, sc, ss, rfl, rs, ls, qs⟩ := rows_open cSY 2 (by decide) (fun x d => okX (Rows.uptoBulk d) x.name ∧ I64 x.num) Tryd.underlying57 (by kernel_rfl) (fun _ => rfl) sy_open h4
  obtain ⟨ra, rc, gs, rfl, rr, lr, qr⟩ := rows_open cRG 2 (by decide) (fun _ _ => True) Tryd.underlying60 (by kernel_rfl) (fun _ => rfl) rg_open h5
  refine ⟨⟨⟨a0, e1, fs, os, ss, gs⟩, _, _, _, _⟩, list_eq _ (by rw [hcl]; rfl) fun i v hv => ?_, ⟨rf, ro, rs, rr⟩, fun hb => ⟨⟨⟨k0.1, fun x hx => ?_, fun x hx => ?_, fun x hx => ?_⟩, ?_, ?_⟩, ?_, fun f hf => ?_⟩⟩
  · match i, hv with
    | 0, hv => simp [cTV] at hv; subst hv; exact c0
    | 1, hv => simp [cTV] at hv; subst hv; exact c1
    | 2, hv => simp [cTV] at hv; subst hv; exact c2
    | 3, hv => simp [cTV] at hv; subst hv; exact c3
    | 4, hv => simp [cTV] at hv; subst hv; exact c4
    | 5, hv => simp [cTV] at hv; subst hv; exact c5
    | i + 6, hv => simp [cTV] at hv
  · obtain ⟨d, hd, _⟩ := qf x hx
    exact hd.1
  · obtain ⟨d, hd, _⟩ := qo x hx
    exact hd.1
  · obtain ⟨d, hd, _⟩ := qs x hx
    exact ⟨hd.1.1, hd.2⟩
  · have := k0.2
    dsimp only
    omega
  · dsimp only
    omega
  · have := k0.2
    dsimp only
    omega
  · obtain ⟨d, hd, hdb⟩ := qs f hf
    have := hd.1.2
    omega
theorem tbs_open {n : Nat} {v : Value} {y : DataW H × List MemPlace} (h : DataW.trod enc Tryd.prog W 0 spare held n 24 [v] = some y) : ∃ (a : Option Addr) (c : Nat) (l : List TV), v = .slice a l.length c ∧ TbR W (.slice a l.length c) l ∧ (Rows.uptoBulk y.1 ≤ 1048576 → ∀ x ∈ l, OkV x ∧ x.t.name.length < 4000000 ∧ ∀ s ∈ x.t.ss, s.name.length ≤ 4000000) := by
  obtain ⟨f0, hs, hone, hsz, t0⟩ := fieldsB
  obtain ⟨xs, m, hy, hxl, hcl, hi⟩ := struct_open hs hone hsz h
  obtain ⟨v0, y0, c0, x0, h0⟩ := hi 0 f0 rfl
  simp at c0
  subst c0
  have b0 := bulk_get x0
  rw [← hy] at b0
  obtain ⟨a, c, l, rfl, r, hl, q⟩ := rows_open cTV 6 (by decide) (fun x d => TyR W x ∧ (Rows.uptoBulk d ≤ 1048576 → OkV x ∧ x.t.name.length < 4000000 ∧ ∀ s ∈ x.t.ss, s.name.length ≤ 4000000)) t0 (by kernel_rfl) (fun _ => rfl) tvs_open h0
  exact ⟨a, c, l, rfl, ⟨r, fun x hx => by obtain ⟨d, hd, _⟩ := q x hx; exact hd.1⟩, fun hb x hx => by obtain ⟨d, hd, hdb⟩ := q x hx; exact hd.2 (by omega)⟩
end
end Go.Proofs.YthdkmlfpgmgicaaDoor
namespace Go.Proofs.YthdkmlfpgmgicaaDoor
open Go.ChangeShapes Go.WideShapes Go.ChangeAt Go.RowKit
set_option maxRecDepth 1000000
set_option maxRecDepth 100000
/-- The rows' list. -/
def laidL : List (String × DataW Unit) := [("unicode/utf8.acceptRanges", Rows.laid_unicode_utf8_acceptRanges), ("unicode/utf8.first", Rows.laid_unicode_utf8_first)]
theorem laid_plain {W : World} (h : laidMetH Tryd.prog laidL W) : laidMet Tryd.prog laidL W := h
/-- A block's cells laid anew. -/
noncomputable def layAt (g : Nat) (cs : Array Value) (w : World) : World := { w with heap := w.heap.modify g fun
      | .cells _ t frozen => .cells cs t frozen
      | o => o }
def numV : DataW Unit → Value
  | .lit (.int k n) => .int k n
  | _ => undef
def rowV : DataW Unit → List Value
  | .agg ds => ds.map numV
  | _ => []
def rowsV : DataW Unit → List Value
  | .agg ds => ds.flatMap rowV
  | _ => []
noncomputable def laidWorld (os : Os) : World :=
  layAt 2 (List.toArray (rowsV Rows.laid_unicode_utf8_acceptRanges)) (layAt 1 (List.toArray (rowV Rows.laid_unicode_utf8_first)) (World.holding Tryd.prog os ⟨#[], #[], []⟩))
theorem laid_met (os : Os) (args : Array Value) : laidMet Tryd.prog laidL ((laidWorld os).forCall (fun _ _ => 0) ⟨#[], args, []⟩).memory :=
  laidMet_of_run' 8 (by kernel_rfl) (by kernel_rfl)
theorem maxLen_cell {W : World} (h : W.ShapedOpen Tryd.prog) : ∃ m, W.cell? ⟨0, 0, none⟩ = some (.int .i64 m) :=
  Go.Proofs.cell_of_shapedOpen_int (zero := #[.int .i64 0]) (t := 3) h (of_decide_eq_true (by kernel_rfl)) (by kernel_rfl) rfl (by kernel_rfl) (by kernel_rfl) Tryd.underlying3
end Go.Proofs.YthdkmlfpgmgicaaDoor
namespace Go.Proofs.YthdkmlfpgmgicaaDoor
open Go.ChangeShapes Go.WideShapes Go.ChangeAt Go.RowKit
set_option maxRecDepth 1000000
theorem tableSymbolsS (W : World) (l : List TV) (a : Option Addr) (c : Nat) (h : TbR W (.slice a l.length c) l) (hk : ∀ x ∈ l, OkV x ∧ x.t.name.length < 4000000 ∧ ∀ s ∈ x.t.ss, s.name.length ≤ 4000000) (m : Int) (hm : W.cell? ⟨0, 0, none⟩ = some (.int .i64 m)) (idx n : Int) (t : ByteArray) (ht : t.data.toList.length ≤ 9223372036854775807) : Calls Tryd.prog 6 #[.agg #[.slice a l.length c], .int .i64 idx, .int .i64 n, .string t] W fun e w' => e = .returned (.bool true) ∧ Below W.heap.size W w' := by
  have := tableSymbolsW W l a c h (fun x hx => (hk x hx).1) (fun x hx => (hk x hx).2.1) (fun x hx => (hk x hx).2.2) m hm idx n (numsS t) ⟨numsS_bd t, by rw [numsS_len]; exact ht⟩
  rw [numsS_str] at this
  exact this
end Go.Proofs.YthdkmlfpgmgicaaDoor
