/-
  The law: any symbol by number or name; how deep any message can be.
  A table that comes in, opened: with the bound on its symbols' names.
  TableSymbols, round what comes in.
-/
import Derived.Test.YtbiohlfcikdldaaDoorCOD1
import Derived.Test.YtbiohlfcikdldaaDoorCNG
namespace Go.Proofs.YtbiohlfcikdldaaDoor
open Go.RowKit
set_option maxRecDepth 1000000
set_option linter.unusedVariables false
set_option linter.unusedSimpArgs false
set_option maxHeartbeats 1000000
theorem isB_other {l : List TV} {idx : Int} {s : Bool} (h : isB l idx s = true) : isB l idx (!s) = false := by
  obtain ⟨k, hk, rfl, hg, he⟩ := isB_at h
  unfold isB
  rw [Int.toNat_natCast, List.getElem?_eq_getElem hk]
  dsimp only
  rw [he]
  cases s <;> simp
theorem tableSymbolsW (w : World) (l : List TV) (ta : Option Addr) (tc : Nat) (h : TbR w (.slice ta l.length tc) l) (hk : ∀ x ∈ l, OkV x) (hz : ∀ x ∈ l, x.t.name.length < 4000000) (hzs : ∀ x ∈ l, ∀ s ∈ x.t.ss, s.name.length ≤ 4000000) (m : Int) (hm : w.cell? ⟨0, 0, none⟩ = some (.int .i64 m)) (idx n : Int) (nm : List Int) (hn : TxA nm) : Calls Tryd.prog 6 #[.agg #[.slice ta l.length tc], .int .i64 idx, .int .i64 n, .string (strOfNums nm)] w fun e w' => e = .returned (.bool true) ∧ Below w.heap.size w w' := by
  obtain ⟨_, _, e0, hn0⟩ := rowS_sl h.row
  clear e0
  have h63 : (l.length : Int) ≤ 9223372036854775807 := by omega
  clear hn0
  have H1 := hid fun W (hW : Below w.heap.size w W) => symbolPT W l ta tc (h.kept hW) hk hzs m (cell_below hm hW) idx n
  have H2 := hid fun W (hW : Below w.heap.size w W) => numberPT W l ta tc (h.kept hW) hk hzs m (cell_below hm hW) idx nm hn
  have H4 := hid fun W (hW : Below w.heap.size w W) => awake7 W m (cell_below hm hW)
  have H5 := hid fun W (hW : Below w.heap.size w W) => isR W l ta tc (h.kept hW) hk hz idx
  have HG : Hid (∀ W, Below w.heap.size w W → Calls Tryd.prog 15 #[.agg #[.slice ta l.length tc]] W fun e w' => e = .returned (.bool (goodB l)) ∧ Below W.heap.size W w') := hid fun W hW => by
    have := goodR W l ta tc (h.kept hW) hk hz
    rw [goodEq l hk] at this
    exact this
  have ez : strOfNums syZ.name = ⟨#[]⟩ := rfl
  have en : syZ.num = 0 := rfl
  cases q : isB l idx false with
  | true =>
    have V1 : symV l idx (syN n) = (syZ, 18) := by unfold symV; rw [if_neg (by rw [show isB l idx true = false from isB_other q]; simp)]
    have V2 : symV l idx (syS nm) = (syZ, 18) := by unfold symV; rw [if_neg (by rw [show isB l idx true = false from isB_other q]; simp)]
    obtain ⟨k, hkl, rfl, hg, he⟩ := isB_at q
    have H3 := hid fun W (hW : Below w.heap.size w W) => depthsOk W l ta tc (h.kept hW) hk m (cell_below hm hW) k hkl hg he
    have H6 := hid fun W (hW : Below w.heap.size w W) => depthsDR W l ta tc (h.kept hW) k hkl hg
    rw [V1] at H1
    rw [V2] at H2
    rw [q] at H5
    dsimp only at H1 H2
    rw [ez] at H1
    rw [en] at H2
    generalize depD l k = dv at *
    clear V1 V2 q h hk hz hzs hm hn HG ez en he hg hkl
    go_enter Tryd.func6, Tryd.ntmps6
    go_wp2_with fail
    refine (H1.out _ (by exact blBy)).mono ?_
    rintro e w1 ⟨rfl, hb⟩
    have Ba : Blk w1 w.heap.size 24 #[.slice ta l.length tc] := (Blk.new _ _ _).kept hb
    have hbz : Hid (Below w.heap.size w w1) := hid (bl_then (by exact blBy) hb)
    clear hb
    have xBa := Ba.cellF
    have zBa := Ba.lt
    go_wp2_with fail
    refine (H2.out _ (by have := hbz.out; exact blBy)).mono ?_
    rintro e w2 ⟨rfl, hb⟩
    replace Ba := Ba.kept hb
    replace hbz : Hid (Below w.heap.size w w2) := hid (bl_then (by have := hbz.out; exact blBy) hb)
    clear hb xBa zBa
    have xBa := Ba.cellF
    have zBa := Ba.lt
    go_wp2_with fail
    refine (H3.out _ (by have := hbz.out; exact blBy)).mono ?_
    rintro e w3 ⟨rfl, hb⟩
    replace Ba := Ba.kept hb
    replace hbz : Hid (Below w.heap.size w w3) := hid (bl_then (by have := hbz.out; exact blBy) hb)
    clear hb xBa zBa
    have xBa := Ba.cellF
    have zBa := Ba.lt
    go_wp2_with fail
    refine (H4.out _ (by have := hbz.out; exact blBy)).mono ?_
    rintro e w4 ⟨rfl, hb⟩
    replace Ba := Ba.kept hb
    replace hbz : Hid (Below w.heap.size w w4) := hid (bl_then (by have := hbz.out; exact blBy) hb)
    clear hb xBa zBa
    have xBa := Ba.cellF
    have zBa := Ba.lt
    go_wp2_with fail
    refine (H5.out _ (by have := hbz.out; exact blBy)).mono ?_
    rintro e w5 ⟨rfl, hb⟩
    replace Ba := Ba.kept hb
    replace hbz : Hid (Below w.heap.size w w5) := hid (bl_then (by have := hbz.out; exact blBy) hb)
    clear hb xBa zBa
    have xBa := Ba.cellF
    have zBa := Ba.lt
    go_wp2_with fail
    refine (H6.out _ (by have := hbz.out; exact blBy)).mono ?_
    rintro e w6 ⟨rfl, hb⟩
    replace Ba := Ba.kept hb
    replace hbz : Hid (Below w.heap.size w w6) := hid (bl_then (by have := hbz.out; exact blBy) hb)
    clear hb xBa zBa
    have xBa := Ba.cellF
    have zBa := Ba.lt
    go_wp2
    go_ret
    exact ⟨ret_bool (by simp), hbz.out⟩
  | false =>
    have H3 := hid fun W (hW : Below w.heap.size w W) => depthsNo W l ta tc (h.kept hW) hk m (cell_below hm hW) idx q
    rw [q] at H5
    cases q2 : isB l idx true with
    | false =>
      have V1 : symV l idx (syN n) = (syZ, 18) := by unfold symV; rw [if_neg (by rw [q2]; simp)]
      have V2 : symV l idx (syS nm) = (syZ, 18) := by unfold symV; rw [if_neg (by rw [q2]; simp)]
      have HNO : Hid (goodB l = true → idx < 0 ∨ (l.length : Int) ≤ idx) := hid fun hg => by
        apply Classical.byContradiction
        intro hc
        have h0 : 0 ≤ idx := by omega
        have hl : idx.toNat < l.length := by omega
        unfold isB at q q2
        rw [hg, List.getElem?_eq_getElem hl] at q q2
        simp only [Bool.true_and, decide_eq_true h0] at q q2
        cases he : l[idx.toNat].t.enum <;> simp [he] at q q2
      rw [V1] at H1
      rw [V2] at H2
      dsimp only at H1 H2
      rw [ez] at H1
      rw [en] at H2
      clear V1 V2 q q2 h hk hz hzs hm hn ez en
      go_enter Tryd.func6, Tryd.ntmps6
      go_wp2_with fail
      refine (H1.out _ (by exact blBy)).mono ?_
      rintro e w1 ⟨rfl, hb⟩
      have Ba : Blk w1 w.heap.size 24 #[.slice ta l.length tc] := (Blk.new _ _ _).kept hb
      have hbz : Hid (Below w.heap.size w w1) := hid (bl_then (by exact blBy) hb)
      clear hb
      have xBa := Ba.cellF
      have zBa := Ba.lt
      go_wp2_with fail
      refine (H2.out _ (by have := hbz.out; exact blBy)).mono ?_
      rintro e w2 ⟨rfl, hb⟩
      replace Ba := Ba.kept hb
      replace hbz : Hid (Below w.heap.size w w2) := hid (bl_then (by have := hbz.out; exact blBy) hb)
      clear hb xBa zBa
      have xBa := Ba.cellF
      have zBa := Ba.lt
      go_wp2_with fail
      refine (H3.out _ (by have := hbz.out; exact blBy)).mono ?_
      rintro e w3 ⟨rfl, hb⟩
      replace Ba := Ba.kept hb
      replace hbz : Hid (Below w.heap.size w w3) := hid (bl_then (by have := hbz.out; exact blBy) hb)
      clear hb xBa zBa
      have xBa := Ba.cellF
      have zBa := Ba.lt
      go_wp2_with fail
      refine (H4.out _ (by have := hbz.out; exact blBy)).mono ?_
      rintro e w4 ⟨rfl, hb⟩
      replace Ba := Ba.kept hb
      replace hbz : Hid (Below w.heap.size w w4) := hid (bl_then (by have := hbz.out; exact blBy) hb)
      clear hb xBa zBa
      have xBa := Ba.cellF
      have zBa := Ba.lt
      go_wp2_with fail
      refine (H5.out _ (by have := hbz.out; exact blBy)).mono ?_
      rintro e w5 ⟨rfl, hb⟩
      replace Ba := Ba.kept hb
      replace hbz : Hid (Below w.heap.size w w5) := hid (bl_then (by have := hbz.out; exact blBy) hb)
      clear hb xBa zBa
      have xBa := Ba.cellF
      have zBa := Ba.lt
      go_wp2_with fail
      refine (HG.out _ (by have := hbz.out; exact blBy)).mono ?_
      rintro e w6 ⟨rfl, hb⟩
      replace Ba := Ba.kept hb
      replace hbz : Hid (Below w.heap.size w w6) := hid (bl_then (by have := hbz.out; exact blBy) hb)
      clear hb xBa zBa
      have xBa := Ba.cellF
      have zBa := Ba.lt
      cases qg : goodB l with
      | false =>
        go_wp2
        go_ret
        exact ⟨ret_bool (by simp), hbz.out⟩
      | true =>
        rcases Decidable.em (idx < 0) with hi | hi
        · have k0 : (idx < 0) = True := eq_true hi
          clear hi
          go_wp2
          go_ret
          exact ⟨ret_bool (by simp), hbz.out⟩
        · have k1 : ((l.length : Int) ≤ idx) = True := eq_true ((HNO.out qg).resolve_left hi)
          have k0 : (idx < 0) = False := eq_false hi
          clear hi
          go_wp2
          go_ret
          exact ⟨ret_bool (by simp), hbz.out⟩
    | true =>
      obtain ⟨k, hkl, rfl, hg, he⟩ := isB_at q2
      have V1 := symV_at hkl (P := syN n) q2
      have V2 := symV_at hkl (P := syS nm) q2
      have H7 := hid fun W (hW : Below w.heap.size w W) => symbolDR W l ta tc (h.kept hW) k hkl n
      have H8 := hid fun W (hW : Below w.heap.size w W) => numberDR W l ta tc (h.kept hW) k hkl nm hn (fun s hs => ((hk _ (List.getElem_mem hkl)).ok.ss s hs).1)
      have k0 : ((k : Int) < 0) = False := eq_false (by omega)
      have k1 : ((l.length : Int) ≤ (k : Int)) = False := eq_false (by omega)
      have k2 : (l.length ≤ k) = False := eq_false (by omega)
      rw [V1] at H1
      rw [V2] at H2
      rw [hg] at HG
      clear V1 V2 q q2 h hk hz hzs hm hn he hg
      generalize l[k].t.ss.find? (syN n) = o1 at *
      generalize l[k].t.ss.find? (syS nm) = o2 at *
      clear hkl
      cases o1 <;> cases o2 <;> dsimp only [Option.getD, Option.isSome] at H1 H2 H7 H8 <;> (try rw [ez] at H1) <;> (try rw [ez] at H7) <;> (try rw [en] at H2) <;> (try rw [en] at H8)
      · go_enter Tryd.func6, Tryd.ntmps6
        go_wp2_with fail
        refine (H1.out _ (by exact blBy)).mono ?_
        rintro e w1 ⟨rfl, hb⟩
        have Ba : Blk w1 w.heap.size 24 #[.slice ta l.length tc] := (Blk.new _ _ _).kept hb
        have hbz : Hid (Below w.heap.size w w1) := hid (bl_then (by exact blBy) hb)
        clear hb
        have xBa := Ba.cellF
        have zBa := Ba.lt
        go_wp2_with fail
        refine (H2.out _ (by have := hbz.out; exact blBy)).mono ?_
        rintro e w2 ⟨rfl, hb⟩
        replace Ba := Ba.kept hb
        replace hbz : Hid (Below w.heap.size w w2) := hid (bl_then (by have := hbz.out; exact blBy) hb)
        clear hb xBa zBa
        have xBa := Ba.cellF
        have zBa := Ba.lt
        go_wp2_with fail
        refine (H3.out _ (by have := hbz.out; exact blBy)).mono ?_
        rintro e w3 ⟨rfl, hb⟩
        replace Ba := Ba.kept hb
        replace hbz : Hid (Below w.heap.size w w3) := hid (bl_then (by have := hbz.out; exact blBy) hb)
        clear hb xBa zBa
        have xBa := Ba.cellF
        have zBa := Ba.lt
        go_wp2_with fail
        refine (H4.out _ (by have := hbz.out; exact blBy)).mono ?_
        rintro e w4 ⟨rfl, hb⟩
        replace Ba := Ba.kept hb
        replace hbz : Hid (Below w.heap.size w w4) := hid (bl_then (by have := hbz.out; exact blBy) hb)
        clear hb xBa zBa
        have xBa := Ba.cellF
        have zBa := Ba.lt
        go_wp2_with fail
        refine (H5.out _ (by have := hbz.out; exact blBy)).mono ?_
        rintro e w5 ⟨rfl, hb⟩
        replace Ba := Ba.kept hb
        replace hbz : Hid (Below w.heap.size w w5) := hid (bl_then (by have := hbz.out; exact blBy) hb)
        clear hb xBa zBa
        have xBa := Ba.cellF
        have zBa := Ba.lt
        go_wp2_with fail
        refine (HG.out _ (by have := hbz.out; exact blBy)).mono ?_
        rintro e w6 ⟨rfl, hb⟩
        replace Ba := Ba.kept hb
        replace hbz : Hid (Below w.heap.size w w6) := hid (bl_then (by have := hbz.out; exact blBy) hb)
        clear hb xBa zBa
        have xBa := Ba.cellF
        have zBa := Ba.lt
        go_wp2_with fail
        refine (H7.out _ (by have := hbz.out; exact blBy)).mono ?_
        rintro e w7 ⟨rfl, hb⟩
        replace Ba := Ba.kept hb
        replace hbz : Hid (Below w.heap.size w w7) := hid (bl_then (by have := hbz.out; exact blBy) hb)
        clear hb xBa zBa
        have xBa := Ba.cellF
        have zBa := Ba.lt
        go_wp2_with fail
        refine (H8.out _ (by have := hbz.out; exact blBy)).mono ?_
        rintro e w8 ⟨rfl, hb⟩
        replace Ba := Ba.kept hb
        replace hbz : Hid (Below w.heap.size w w8) := hid (bl_then (by have := hbz.out; exact blBy) hb)
        clear hb xBa zBa
        have xBa := Ba.cellF
        have zBa := Ba.lt
        go_wp2
        go_ret
        exact ⟨ret_bool (by simp), hbz.out⟩
      · go_enter Tryd.func6, Tryd.ntmps6
        go_wp2_with fail
        refine (H1.out _ (by exact blBy)).mono ?_
        rintro e w1 ⟨rfl, hb⟩
        have Ba : Blk w1 w.heap.size 24 #[.slice ta l.length tc] := (Blk.new _ _ _).kept hb
        have hbz : Hid (Below w.heap.size w w1) := hid (bl_then (by exact blBy) hb)
        clear hb
        have xBa := Ba.cellF
        have zBa := Ba.lt
        go_wp2_with fail
        refine (H2.out _ (by have := hbz.out; exact blBy)).mono ?_
        rintro e w2 ⟨rfl, hb⟩
        replace Ba := Ba.kept hb
        replace hbz : Hid (Below w.heap.size w w2) := hid (bl_then (by have := hbz.out; exact blBy) hb)
        clear hb xBa zBa
        have xBa := Ba.cellF
        have zBa := Ba.lt
        go_wp2_with fail
        refine (H3.out _ (by have := hbz.out; exact blBy)).mono ?_
        rintro e w3 ⟨rfl, hb⟩
        replace Ba := Ba.kept hb
        replace hbz : Hid (Below w.heap.size w w3) := hid (bl_then (by have := hbz.out; exact blBy) hb)
        clear hb xBa zBa
        have xBa := Ba.cellF
        have zBa := Ba.lt
        go_wp2_with fail
        refine (H4.out _ (by have := hbz.out; exact blBy)).mono ?_
        rintro e w4 ⟨rfl, hb⟩
        replace Ba := Ba.kept hb
        replace hbz : Hid (Below w.heap.size w w4) := hid (bl_then (by have := hbz.out; exact blBy) hb)
        clear hb xBa zBa
        have xBa := Ba.cellF
        have zBa := Ba.lt
        go_wp2_with fail
        refine (H5.out _ (by have := hbz.out; exact blBy)).mono ?_
        rintro e w5 ⟨rfl, hb⟩
        replace Ba := Ba.kept hb
        replace hbz : Hid (Below w.heap.size w w5) := hid (bl_then (by have := hbz.out; exact blBy) hb)
        clear hb xBa zBa
        have xBa := Ba.cellF
        have zBa := Ba.lt
        go_wp2_with fail
        refine (HG.out _ (by have := hbz.out; exact blBy)).mono ?_
        rintro e w6 ⟨rfl, hb⟩
        replace Ba := Ba.kept hb
        replace hbz : Hid (Below w.heap.size w w6) := hid (bl_then (by have := hbz.out; exact blBy) hb)
        clear hb xBa zBa
        have xBa := Ba.cellF
        have zBa := Ba.lt
        go_wp2_with fail
        refine (H7.out _ (by have := hbz.out; exact blBy)).mono ?_
        rintro e w7 ⟨rfl, hb⟩
        replace Ba := Ba.kept hb
        replace hbz : Hid (Below w.heap.size w w7) := hid (bl_then (by have := hbz.out; exact blBy) hb)
        clear hb xBa zBa
        have xBa := Ba.cellF
        have zBa := Ba.lt
        go_wp2_with fail
        refine (H8.out _ (by have := hbz.out; exact blBy)).mono ?_
        rintro e w8 ⟨rfl, hb⟩
        replace Ba := Ba.kept hb
        replace hbz : Hid (Below w.heap.size w w8) := hid (bl_then (by have := hbz.out; exact blBy) hb)
        clear hb xBa zBa
        have xBa := Ba.cellF
        have zBa := Ba.lt
        go_wp2
        go_ret
        exact ⟨ret_bool (by simp), hbz.out⟩
      · go_enter Tryd.func6, Tryd.ntmps6
        go_wp2_with fail
        refine (H1.out _ (by exact blBy)).mono ?_
        rintro e w1 ⟨rfl, hb⟩
        have Ba : Blk w1 w.heap.size 24 #[.slice ta l.length tc] := (Blk.new _ _ _).kept hb
        have hbz : Hid (Below w.heap.size w w1) := hid (bl_then (by exact blBy) hb)
        clear hb
        have xBa := Ba.cellF
        have zBa := Ba.lt
        go_wp2_with fail
        refine (H2.out _ (by have := hbz.out; exact blBy)).mono ?_
        rintro e w2 ⟨rfl, hb⟩
        replace Ba := Ba.kept hb
        replace hbz : Hid (Below w.heap.size w w2) := hid (bl_then (by have := hbz.out; exact blBy) hb)
        clear hb xBa zBa
        have xBa := Ba.cellF
        have zBa := Ba.lt
        go_wp2_with fail
        refine (H3.out _ (by have := hbz.out; exact blBy)).mono ?_
        rintro e w3 ⟨rfl, hb⟩
        replace Ba := Ba.kept hb
        replace hbz : Hid (Below w.heap.size w w3) := hid (bl_then (by have := hbz.out; exact blBy) hb)
        clear hb xBa zBa
        have xBa := Ba.cellF
        have zBa := Ba.lt
        go_wp2_with fail
        refine (H4.out _ (by have := hbz.out; exact blBy)).mono ?_
        rintro e w4 ⟨rfl, hb⟩
        replace Ba := Ba.kept hb
        replace hbz : Hid (Below w.heap.size w w4) := hid (bl_then (by have := hbz.out; exact blBy) hb)
        clear hb xBa zBa
        have xBa := Ba.cellF
        have zBa := Ba.lt
        go_wp2_with fail
        refine (H5.out _ (by have := hbz.out; exact blBy)).mono ?_
        rintro e w5 ⟨rfl, hb⟩
        replace Ba := Ba.kept hb
        replace hbz : Hid (Below w.heap.size w w5) := hid (bl_then (by have := hbz.out; exact blBy) hb)
        clear hb xBa zBa
        have xBa := Ba.cellF
        have zBa := Ba.lt
        go_wp2_with fail
        refine (HG.out _ (by have := hbz.out; exact blBy)).mono ?_
        rintro e w6 ⟨rfl, hb⟩
        replace Ba := Ba.kept hb
        replace hbz : Hid (Below w.heap.size w w6) := hid (bl_then (by have := hbz.out; exact blBy) hb)
        clear hb xBa zBa
        have xBa := Ba.cellF
        have zBa := Ba.lt
        go_wp2_with fail
        refine (H7.out _ (by have := hbz.out; exact blBy)).mono ?_
        rintro e w7 ⟨rfl, hb⟩
        replace Ba := Ba.kept hb
        replace hbz : Hid (Below w.heap.size w w7) := hid (bl_then (by have := hbz.out; exact blBy) hb)
        clear hb xBa zBa
        have xBa := Ba.cellF
        have zBa := Ba.lt
        go_wp2_with fail
        refine (H8.out _ (by have := hbz.out; exact blBy)).mono ?_
        rintro e w8 ⟨rfl, hb⟩
        replace Ba := Ba.kept hb
        replace hbz : Hid (Below w.heap.size w w8) := hid (bl_then (by have := hbz.out; exact blBy) hb)
        clear hb xBa zBa
        have xBa := Ba.cellF
        have zBa := Ba.lt
        go_wp2
        go_ret
        exact ⟨ret_bool (by simp), hbz.out⟩
      · go_enter Tryd.func6, Tryd.ntmps6
        go_wp2_with fail
        refine (H1.out _ (by exact blBy)).mono ?_
        rintro e w1 ⟨rfl, hb⟩
        have Ba : Blk w1 w.heap.size 24 #[.slice ta l.length tc] := (Blk.new _ _ _).kept hb
        have hbz : Hid (Below w.heap.size w w1) := hid (bl_then (by exact blBy) hb)
        clear hb
        have xBa := Ba.cellF
        have zBa := Ba.lt
        go_wp2_with fail
        refine (H2.out _ (by have := hbz.out; exact blBy)).mono ?_
        rintro e w2 ⟨rfl, hb⟩
        replace Ba := Ba.kept hb
        replace hbz : Hid (Below w.heap.size w w2) := hid (bl_then (by have := hbz.out; exact blBy) hb)
        clear hb xBa zBa
        have xBa := Ba.cellF
        have zBa := Ba.lt
        go_wp2_with fail
        refine (H3.out _ (by have := hbz.out; exact blBy)).mono ?_
        rintro e w3 ⟨rfl, hb⟩
        replace Ba := Ba.kept hb
        replace hbz : Hid (Below w.heap.size w w3) := hid (bl_then (by have := hbz.out; exact blBy) hb)
        clear hb xBa zBa
        have xBa := Ba.cellF
        have zBa := Ba.lt
        go_wp2_with fail
        refine (H4.out _ (by have := hbz.out; exact blBy)).mono ?_
        rintro e w4 ⟨rfl, hb⟩
        replace Ba := Ba.kept hb
        replace hbz : Hid (Below w.heap.size w w4) := hid (bl_then (by have := hbz.out; exact blBy) hb)
        clear hb xBa zBa
        have xBa := Ba.cellF
        have zBa := Ba.lt
        go_wp2_with fail
        refine (H5.out _ (by have := hbz.out; exact blBy)).mono ?_
        rintro e w5 ⟨rfl, hb⟩
        replace Ba := Ba.kept hb
        replace hbz : Hid (Below w.heap.size w w5) := hid (bl_then (by have := hbz.out; exact blBy) hb)
        clear hb xBa zBa
        have xBa := Ba.cellF
        have zBa := Ba.lt
        go_wp2_with fail
        refine (HG.out _ (by have := hbz.out; exact blBy)).mono ?_
        rintro e w6 ⟨rfl, hb⟩
        replace Ba := Ba.kept hb
        replace hbz : Hid (Below w.heap.size w w6) := hid (bl_then (by have := hbz.out; exact blBy) hb)
        clear hb xBa zBa
        have xBa := Ba.cellF
        have zBa := Ba.lt
        go_wp2_with fail
        refine (H7.out _ (by have := hbz.out; exact blBy)).mono ?_
        rintro e w7 ⟨rfl, hb⟩
        replace Ba := Ba.kept hb
        replace hbz : Hid (Below w.heap.size w w7) := hid (bl_then (by have := hbz.out; exact blBy) hb)
        clear hb xBa zBa
        have xBa := Ba.cellF
        have zBa := Ba.lt
        go_wp2_with fail
        refine (H8.out _ (by have := hbz.out; exact blBy)).mono ?_
        rintro e w8 ⟨rfl, hb⟩
        replace Ba := Ba.kept hb
        replace hbz : Hid (Below w.heap.size w w8) := hid (bl_then (by have := hbz.out; exact blBy) hb)
        clear hb xBa zBa
        have xBa := Ba.cellF
        have zBa := Ba.lt
        go_wp2
        go_ret
        exact ⟨ret_bool (by simp), hbz.out⟩
end Go.Proofs.YtbiohlfcikdldaaDoor
namespace Go.Proofs.YtbiohlfcikdldaaDoor
open Go.ChangeShapes Go.WideShapes Go.ChangeAt Go.RowKit Go.Deep
set_option maxRecDepth 1000000
set_option linter.unusedVariables false
set_option linter.unusedSimpArgs false
set_option maxHeartbeats 1000000
section
variable {H : Type} {enc : TypeId × Value → H} {W : World} {spare : Nat → Bool} {held : Bool}
theorem tvs_open (n : Nat) (cs : List Value) (y : DataW H × List MemPlace) (h : DataW.trod enc Tryd.prog W 0 spare held n 62 cs = some y) : ∃ x : TV, cs = cTV x ∧ (TyR W x ∧ (Rows.uptoBulk y.1 ≤ 1048576 → OkV x ∧ x.t.name.length < 4000000 ∧ ∀ s ∈ x.t.ss, s.name.length ≤ 4000000)) := by
  obtain ⟨f0, f1, f2, f3, f4, f5, hs, hone, hsz, t0, t1, t2, t3, t4, t5⟩ := fieldsT
  obtain ⟨xs, m, hy, hxl, hcl, hi⟩ := struct_open hs hone hsz h
  obtain ⟨v0, y0, c0, x0, h0⟩ := hi 0 f0 rfl
  rw [t0] at h0
  have b0 := bulk_get x0
  obtain ⟨v1, y1, c1, x1, h1⟩ := hi 1 f1 rfl
  rw [t1] at h1
  have b1 := bulk_get x1
  obtain ⟨v2, y2, c2, x2, h2⟩ := hi 2 f2 rfl
  rw [t2] at h2
  have b2 := bulk_get x2
  obtain ⟨v3, y3, c3, x3, h3⟩ := hi 3 f3 rfl
  rw [t3] at h3
  have b3 := bulk_get x3
  obtain ⟨v4, y4, c4, x4, h4⟩ := hi 4 f4 rfl
  rw [t4] at h4
  have b4 := bulk_get x4
  obtain ⟨v5, y5, c5, x5, h5⟩ := hi 5 f5 rfl
  rw [t5] at h5
  have b5 := bulk_get x5
  rw [← hy] at b0 b1 b2 b3 b4 b5
  obtain ⟨a0, rfl, k0⟩ := str_open h0
  obtain ⟨e1, he1, _⟩ := DataW.trod_bool Tryd.underlying4 h1
  simp at he1
  subst he1
  obtain ⟨fa, fc, fs, rfl, rf, lf, qf⟩ := rows_open cFT 7 (by decide) (fun x d => okX (Rows.uptoBulk d) x.name) Tryd.underlying58 (by kernel_rfl) (fun _ => rfl) ft_open h2
  obtain ⟨oa, oc, os, rfl, ro, lo, qo⟩ := rows_open cN 1 (by decide) (fun x d => okX (Rows.uptoBulk d) x) Tryd.underlying59 (by kernel_rfl) (fun _ => rfl) st_open h3
  obtain ⟨sa, sc, ss, rfl, rs, ls, qs⟩ := rows_open cSY 2 (by decide) (fun x d => okX (Rows.uptoBulk d) x.name ∧ I64 x.num) Tryd.underlying57 (by kernel_rfl) (fun _ => rfl) sy_open h4
  obtain ⟨ra, rc, gs, rfl, rr, lr, qr⟩ := rows_open cRG 2 (by decide) (fun _ _ => True) Tryd.underlying60 (by kernel_rfl) (fun _ => rfl) rg_open h5
  refine ⟨⟨⟨a0, e1, fs, os, ss, gs⟩, _, _, _, _⟩, list_eq _ (by rw [hcl]; rfl) fun i v hv => ?_, ⟨rf, ro, rs, rr⟩, fun hb => ⟨⟨⟨k0.1, fun x hx => ?_, fun x hx => ?_, fun x hx => ?_⟩, ?_, ?_⟩, ?_, fun f hf => ?_⟩⟩
  · match i, hv with
    | 0, hv => simp [cTV] at hv; subst hv; exact c0
    | 1, hv => simp [cTV] at hv; subst hv; exact c1
    | 2, hv => simp [cTV] at hv; subst hv; exact c2
    | 3, hv => simp [cTV] at hv; subst hv; exact c3
    | 4, hv => simp [cTV] at hv; subst hv; exact c4
    | 5, hv => simp [cTV] at hv; subst hv; exact c5
    | i + 6, hv => simp [cTV] at hv
  · obtain ⟨d, hd, _⟩ := qf x hx
    exact hd.1
  · obtain ⟨d, hd, _⟩ := qo x hx
    exact hd.1
  · obtain ⟨d, hd, _⟩ := qs x hx
    exact ⟨hd.1.1, hd.2⟩
  · have := k0.2
    dsimp only
    omega
  · dsimp only
    omega
  · have := k0.2
    dsimp only
    omega
  · obtain ⟨d, hd, hdb⟩ := qs f hf
    have := hd.1.2
    omega
theorem tbs_open {n : Nat} {v : Value} {y : DataW H × List MemPlace} (h : DataW.trod enc Tryd.prog W 0 spare held n 24 [v] = some y) : ∃ (a : Option Addr) (c : Nat) (l : List TV), v = .slice a l.length c ∧ TbR W (.slice a l.length c) l ∧ (Rows.uptoBulk y.1 ≤ 1048576 → ∀ x ∈ l, OkV x ∧ x.t.name.length < 4000000 ∧ ∀ s ∈ x.t.ss, s.name.length ≤ 4000000) := by
  obtain ⟨f0, hs, hone, hsz, t0⟩ := fieldsB
  obtain ⟨xs, m, hy, hxl, hcl, hi⟩ := struct_open hs hone hsz h
  obtain ⟨v0, y0, c0, x0, h0⟩ := hi 0 f0 rfl
  simp at c0
  subst c0
  have b0 := bulk_get x0
  rw [← hy] at b0
  obtain ⟨a, c, l, rfl, r, hl, q⟩ := rows_open cTV 6 (by decide) (fun x d => TyR W x ∧ (Rows.uptoBulk d ≤ 1048576 → OkV x ∧ x.t.name.length < 4000000 ∧ ∀ s ∈ x.t.ss, s.name.length ≤ 4000000)) t0 (by kernel_rfl) (fun _ => rfl) tvs_open h0
  exact ⟨a, c, l, rfl, ⟨r, fun x hx => by obtain ⟨d, hd, _⟩ := q x hx; exact hd.1⟩, fun hb x hx => by obtain ⟨d, hd, hdb⟩ := q x hx; exact hd.2 (by omega)⟩
end
end Go.Proofs.YtbiohlfcikdldaaDoor
namespace Go.Proofs.YtbiohlfcikdldaaDoor
open Go.ChangeShapes Go.WideShapes Go.ChangeAt Go.RowKit
set_option maxRecDepth 1000000
theorem tableSymbolsS (W : World) (l : List TV) (a : Option Addr) (c : Nat) (h : TbR W (.slice a l.length c) l) (hk : ∀ x ∈ l, OkV x ∧ x.t.name.length < 4000000 ∧ ∀ s ∈ x.t.ss, s.name.length ≤ 4000000) (m : Int) (hm : W.cell? ⟨0, 0, none⟩ = some (.int .i64 m)) (idx n : Int) (t : ByteArray) (ht : t.data.toList.length ≤ 9223372036854775807) : Calls Tryd.prog 6 #[.agg #[.slice a l.length c], .int .i64 idx, .int .i64 n, .string t] W fun e w' => e = .returned (.bool true) ∧ Below W.heap.size W w' := by
  have := tableSymbolsW W l a c h (fun x hx => (hk x hx).1) (fun x hx => (hk x hx).2.1) (fun x hx => (hk x hx).2.2) m hm idx n (numsS t) ⟨numsS_bd t, by rw [numsS_len]; exact ht⟩
  rw [numsS_str] at this
  exact this
end Go.Proofs.YtbiohlfcikdldaaDoor
