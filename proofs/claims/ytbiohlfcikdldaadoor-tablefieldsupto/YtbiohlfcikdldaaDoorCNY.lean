/-
  The law: any field by number or name; what any entry is taken as.
  A table that comes in, opened: with the bound on its fields' names.
  TableFields, round what comes in.
-/
import Derived.Test.YtbiohlfcikdldaaDoorCNR
import Derived.Test.YtbiohlfcikdldaaDoorCNG
namespace Go.Proofs.YtbiohlfcikdldaaDoor
open Go.RowKit
set_option maxRecDepth 1000000
set_option linter.unusedVariables false
set_option linter.unusedSimpArgs false
set_option maxHeartbeats 1000000
theorem tableFieldsW (w : World) (l : List TV) (ta : Option Addr) (tc : Nat) (h : TbR w (.slice ta l.length tc) l) (hk : ∀ x ∈ l, OkV x) (hz : ∀ x ∈ l, x.t.name.length < 4000000) (hzf : ∀ x ∈ l, ∀ f ∈ x.t.fs, f.name.length ≤ 4000000) (m : Int) (hm : w.cell? ⟨0, 0, none⟩ = some (.int .i64 m)) (idx n : Int) (nm : List Int) (hn : TxA nm) (kd : Int) : Calls Tryd.prog 5 #[.agg #[.slice ta l.length tc], .int .i64 idx, .int .i64 n, .string (strOfNums nm), .int .i64 kd] w fun e w' => e = .returned (.bool true) ∧ Below w.heap.size w w' := by
  have HT := hid h
  have HM := hid hm
  have HK := hid hk
  have HN := hid hn
  have H1 := hid fun W (hW : Below w.heap.size w W) => fieldPT W l ta tc (h.kept hW) hk hzf m (cell_below hm hW) idx n
  have H2 := hid fun W (hW : Below w.heap.size w W) => namedPT W l ta tc (h.kept hW) hk hzf m (cell_below hm hW) idx nm hn
  have H3 := hid fun W (hW : Below w.heap.size w W) => takesPT W l ta tc (h.kept hW) hk m (cell_below hm hW) idx n kd
  have H4 := hid fun W (hW : Below w.heap.size w W) => awake7 W m (cell_below hm hW)
  have H5 := hid fun W (hW : Below w.heap.size w W) => isR W l ta tc (h.kept hW) hk hz idx
  clear h hk hz hzf hm hn
  cases q : isB l idx false with
  | false =>
    have V1 : fieldV l idx n = (ftZ, 18) := by unfold fieldV; rw [if_neg (by rw [q]; simp)]
    have V2 : namedV l idx nm = (ftZ, 18) := by unfold namedV; rw [if_neg (by rw [q]; simp)]
    have V3 : takesV l idx n kd = (0, 18) := by unfold takesV; rw [if_neg (by rw [q]; simp)]
    rw [V1] at H1
    rw [V2] at H2
    rw [V3] at H3
    rw [q] at H5
    have e1 : aFT ftZ = .agg #[.string ⟨#[]⟩, .int .i64 0, .int .i64 0, .int .i64 0, .int .i64 0, .int .i64 0, .int .i64 0] := rfl
    rw [e1] at H1 H2
    dsimp only at H1 H2 H3
    clear V1 V2 V3 e1 q
    go_enter Tryd.func5, Tryd.ntmps5
    have hbz : Hid (Below w.heap.size w w) := hid (Below.refl _ _)
    go_wp2_with fail
    refine (H1.out _ (by have := hbz.out; exact blBy)).mono ?_
    rintro e w1 ⟨rfl, hb⟩
    have Ba : Blk w1 w.heap.size 24 #[.slice ta l.length tc] := (Blk.new _ _ _).kept hb
    replace hbz : Hid (Below w.heap.size w w1) := hid (bl_then (by have := hbz.out; exact blBy) hb)
    clear hb
    try clear xBa zBa
    have xBa := Ba.cellF
    have zBa := Ba.lt
    go_wp2_with fail
    refine (H2.out _ (by have := hbz.out; exact blBy)).mono ?_
    rintro e w2 ⟨rfl, hb⟩
    replace Ba := (Ba.kept (by exact blBy : Below w1.heap.size w1 _)).kept hb
    have Bp : Blk w2 w1.heap.size 39 #[.string ⟨#[]⟩, .int .i64 0, .int .i64 0, .int .i64 0, .int .i64 0, .int .i64 0, .int .i64 0] := (Blk.newAt (by simp)).kept hb
    replace hbz : Hid (Below w.heap.size w w2) := hid (bl_then (by have := hbz.out; exact blBy) hb)
    clear hb
    try clear xBa zBa
    try clear xBp zBp
    have xBa := Ba.cellF
    have zBa := Ba.lt
    have xBp := Bp.cellF
    have zBp := Bp.lt
    go_wp2_with fail
    refine (H3.out _ (by have := hbz.out; exact blBy)).mono ?_
    rintro e w3 ⟨rfl, hb⟩
    replace Ba := (Ba.kept (by exact blBy : Below w2.heap.size w2 _)).kept hb
    replace Bp := (Bp.kept (by exact blBy : Below w2.heap.size w2 _)).kept hb
    have Bq : Blk w3 w2.heap.size 39 #[.string ⟨#[]⟩, .int .i64 0, .int .i64 0, .int .i64 0, .int .i64 0, .int .i64 0, .int .i64 0] := (Blk.newAt (by simp)).kept hb
    replace hbz : Hid (Below w.heap.size w w3) := hid (bl_then (by have := hbz.out; exact blBy) hb)
    clear hb
    try clear xBa zBa
    try clear xBp zBp
    try clear xBq zBq
    have xBa := Ba.cellF
    have zBa := Ba.lt
    have xBp := Bp.cellF
    have zBp := Bp.lt
    have xBq := Bq.cellF
    have zBq := Bq.lt
    go_wp2_with fail
    refine (H4.out _ (by have := hbz.out; exact blBy)).mono ?_
    rintro e w4 ⟨rfl, hb⟩
    replace Ba := Ba.kept hb
    replace Bp := Bp.kept hb
    replace Bq := Bq.kept hb
    replace hbz : Hid (Below w.heap.size w w4) := hid (bl_then (by have := hbz.out; exact blBy) hb)
    clear hb
    try clear xBa zBa
    try clear xBp zBp
    try clear xBq zBq
    have xBa := Ba.cellF
    have zBa := Ba.lt
    have xBp := Bp.cellF
    have zBp := Bp.lt
    have xBq := Bq.cellF
    have zBq := Bq.lt
    go_wp2_with fail
    refine (H5.out _ (by have := hbz.out; exact blBy)).mono ?_
    rintro e w5 ⟨rfl, hb⟩
    replace Ba := (Ba.kept (by exact blBy : Below w4.heap.size w4 _)).kept hb
    replace Bp := (Bp.kept (by exact blBy : Below w4.heap.size w4 _)).kept hb
    replace Bq := (Bq.kept (by exact blBy : Below w4.heap.size w4 _)).kept hb
    have Bn : Blk w5 w4.heap.size 39 #[.string ⟨#[]⟩, .int .i64 0, .int .i64 0, .int .i64 0, .int .i64 0, .int .i64 0, .int .i64 0] := (Blk.newAt (by simp)).kept hb
    replace hbz : Hid (Below w.heap.size w w5) := hid (bl_then (by have := hbz.out; exact blBy) hb)
    clear hb
    try clear xBa zBa
    try clear xBp zBp
    try clear xBq zBq
    try clear xBn zBn
    have xBa := Ba.cellF
    have zBa := Ba.lt
    have xBp := Bp.cellF
    have zBp := Bp.lt
    have xBq := Bq.cellF
    have zBq := Bq.lt
    have xBn := Bn.cellF
    have zBn := Bn.lt
    go_wp2
    go_ret
    exact ⟨rfl, hbz.out⟩
  | true =>
  obtain ⟨k, hkl, rfl, hg, he⟩ := isB_at q
  have V1 := fieldV_at hkl (n := n) q
  have V2 := namedV_at hkl (nm := nm) q
  have V3 := takesV_at hkl (n := n) (kd := kd) q
  rw [V1] at H1
  rw [V2] at H2
  rw [V3] at H3
  rw [q] at H5
  have H6 := hid fun W (hW : Below w.heap.size w W) => fieldDR W l ta tc (HT.out.kept hW) k hkl n
  have H7 := hid fun W (hW : Below w.heap.size w W) => namedDR W l ta tc (HT.out.kept hW) k hkl nm HN.out ((HK.out _ (List.getElem_mem hkl)).ok.fs)
  have H8 := hid fun W (hW : Below w.heap.size w W) => takesDR W l ta tc (HT.out.kept hW) k hkl n kd
  have HKD : ∀ f, fldOf l[k].t.fs n = some f → takenD f kd = takenF f kd := fun f hf => takenEq (kind_ok hg hkl he (List.mem_of_find?_eq_some hf)) kd
  have e8 : takesD l[k].t.fs n kd = match fldOf l[k].t.fs n with | some f => takenD f kd | none => 0 := rfl
  rw [e8] at H8
  rw [show l[k].t.fs.find? (fun f => decide (f.num = n)) = fldOf l[k].t.fs n from rfl] at H6
  clear V1 V2 V3 q hg he e8 HK HN HT
  generalize fldOf l[k].t.fs n = o1 at *
  generalize l[k].t.fs.find? (nmP nm) = o2 at *
  clear hkl
  have e1 : aFT ftZ = .agg #[.string ⟨#[]⟩, .int .i64 0, .int .i64 0, .int .i64 0, .int .i64 0, .int .i64 0, .int .i64 0] := rfl
  cases o1 with
  | none =>
    cases o2 with
    | none =>
      dsimp only [Option.getD_some, Option.isSome_some, Option.getD_none, Option.isSome_none] at H1 H2 H3 H6 H7 H8
      simp only [e1] at H1 H6
      simp only [e1] at H2 H7
      clear HKD
      go_enter Tryd.func5, Tryd.ntmps5
      have hbz : Hid (Below w.heap.size w w) := hid (Below.refl _ _)
      go_wp2_with fail
      refine (H1.out _ (by have := hbz.out; exact blBy)).mono ?_
      rintro e w1 ⟨rfl, hb⟩
      have Ba : Blk w1 w.heap.size 24 #[.slice ta l.length tc] := (Blk.new _ _ _).kept hb
      replace hbz : Hid (Below w.heap.size w w1) := hid (bl_then (by have := hbz.out; exact blBy) hb)
      clear hb
      try clear xBa zBa
      have xBa := Ba.cellF
      have zBa := Ba.lt
      go_wp2_with fail
      refine (H2.out _ (by have := hbz.out; exact blBy)).mono ?_
      rintro e w2 ⟨rfl, hb⟩
      replace Ba := (Ba.kept (by exact blBy : Below w1.heap.size w1 _)).kept hb
      have Bp : Blk w2 w1.heap.size 39 #[.string ⟨#[]⟩, .int .i64 0, .int .i64 0, .int .i64 0, .int .i64 0, .int .i64 0, .int .i64 0] := (Blk.newAt (by simp)).kept hb
      replace hbz : Hid (Below w.heap.size w w2) := hid (bl_then (by have := hbz.out; exact blBy) hb)
      clear hb
      try clear xBa zBa
      try clear xBp zBp
      have xBa := Ba.cellF
      have zBa := Ba.lt
      have xBp := Bp.cellF
      have zBp := Bp.lt
      go_wp2_with fail
      refine (H3.out _ (by have := hbz.out; exact blBy)).mono ?_
      rintro e w3 ⟨rfl, hb⟩
      replace Ba := (Ba.kept (by exact blBy : Below w2.heap.size w2 _)).kept hb
      replace Bp := (Bp.kept (by exact blBy : Below w2.heap.size w2 _)).kept hb
      have Bq : Blk w3 w2.heap.size 39 #[.string ⟨#[]⟩, .int .i64 0, .int .i64 0, .int .i64 0, .int .i64 0, .int .i64 0, .int .i64 0] := (Blk.newAt (by simp)).kept hb
      replace hbz : Hid (Below w.heap.size w w3) := hid (bl_then (by have := hbz.out; exact blBy) hb)
      clear hb
      try clear xBa zBa
      try clear xBp zBp
      try clear xBq zBq
      have xBa := Ba.cellF
      have zBa := Ba.lt
      have xBp := Bp.cellF
      have zBp := Bp.lt
      have xBq := Bq.cellF
      have zBq := Bq.lt
      go_wp2_with fail
      refine (H4.out _ (by have := hbz.out; exact blBy)).mono ?_
      rintro e w4 ⟨rfl, hb⟩
      replace Ba := Ba.kept hb
      replace Bp := Bp.kept hb
      replace Bq := Bq.kept hb
      replace hbz : Hid (Below w.heap.size w w4) := hid (bl_then (by have := hbz.out; exact blBy) hb)
      clear hb
      try clear xBa zBa
      try clear xBp zBp
      try clear xBq zBq
      have xBa := Ba.cellF
      have zBa := Ba.lt
      have xBp := Bp.cellF
      have zBp := Bp.lt
      have xBq := Bq.cellF
      have zBq := Bq.lt
      go_wp2_with fail
      refine (H5.out _ (by have := hbz.out; exact blBy)).mono ?_
      rintro e w5 ⟨rfl, hb⟩
      replace Ba := (Ba.kept (by exact blBy : Below w4.heap.size w4 _)).kept hb
      replace Bp := (Bp.kept (by exact blBy : Below w4.heap.size w4 _)).kept hb
      replace Bq := (Bq.kept (by exact blBy : Below w4.heap.size w4 _)).kept hb
      have Bn : Blk w5 w4.heap.size 39 #[.string ⟨#[]⟩, .int .i64 0, .int .i64 0, .int .i64 0, .int .i64 0, .int .i64 0, .int .i64 0] := (Blk.newAt (by simp)).kept hb
      replace hbz : Hid (Below w.heap.size w w5) := hid (bl_then (by have := hbz.out; exact blBy) hb)
      clear hb
      try clear xBa zBa
      try clear xBp zBp
      try clear xBq zBq
      try clear xBn zBn
      have xBa := Ba.cellF
      have zBa := Ba.lt
      have xBp := Bp.cellF
      have zBp := Bp.lt
      have xBq := Bq.cellF
      have zBq := Bq.lt
      have xBn := Bn.cellF
      have zBn := Bn.lt
      go_wp2_with fail
      refine (H6.out _ (by have := hbz.out; exact blBy)).mono ?_
      rintro e w6 ⟨rfl, hb⟩
      replace Ba := Ba.kept hb
      replace Bp := Bp.kept hb
      replace Bq := Bq.kept hb
      replace Bn := Bn.kept hb
      replace hbz : Hid (Below w.heap.size w w6) := hid (bl_then (by have := hbz.out; exact blBy) hb)
      clear hb
      try clear xBa zBa
      try clear xBp zBp
      try clear xBq zBq
      try clear xBn zBn
      have xBa := Ba.cellF
      have zBa := Ba.lt
      have xBp := Bp.cellF
      have zBp := Bp.lt
      have xBq := Bq.cellF
      have zBq := Bq.lt
      have xBn := Bn.cellF
      have zBn := Bn.lt
      go_wp2_with fail
      refine (H7.out _ (by have := hbz.out; exact blBy)).mono ?_
      rintro e w7 ⟨rfl, hb⟩
      replace Ba := (Ba.kept (by exact blBy : Below w6.heap.size w6 _)).kept hb
      replace Bp := (Bp.kept (by exact blBy : Below w6.heap.size w6 _)).kept hb
      replace Bq := (Bq.kept (by exact blBy : Below w6.heap.size w6 _)).kept hb
      replace Bn := (Bn.kept (by exact blBy : Below w6.heap.size w6 _)).kept hb
      have Bx : Blk w7 w6.heap.size 39 #[.string ⟨#[]⟩, .int .i64 0, .int .i64 0, .int .i64 0, .int .i64 0, .int .i64 0, .int .i64 0] := (Blk.newAt (by simp)).kept hb
      replace hbz : Hid (Below w.heap.size w w7) := hid (bl_then (by have := hbz.out; exact blBy) hb)
      clear hb
      try clear xBa zBa
      try clear xBp zBp
      try clear xBq zBq
      try clear xBn zBn
      try clear xBx zBx
      have xBa := Ba.cellF
      have zBa := Ba.lt
      have xBp := Bp.cellF
      have zBp := Bp.lt
      have xBq := Bq.cellF
      have zBq := Bq.lt
      have xBn := Bn.cellF
      have zBn := Bn.lt
      have xBx := Bx.cellF
      have zBx := Bx.lt
      go_wp2_with fail
      refine (H8.out _ (by have := hbz.out; exact blBy)).mono ?_
      rintro e w8 ⟨rfl, hb⟩
      replace Ba := (Ba.kept (by exact blBy : Below w7.heap.size w7 _)).kept hb
      replace Bp := (Bp.kept (by exact blBy : Below w7.heap.size w7 _)).kept hb
      replace Bq := (Bq.kept (by exact blBy : Below w7.heap.size w7 _)).kept hb
      replace Bn := (Bn.kept (by exact blBy : Below w7.heap.size w7 _)).kept hb
      replace Bx := (Bx.kept (by exact blBy : Below w7.heap.size w7 _)).kept hb
      have By : Blk w8 w7.heap.size 39 #[.string ⟨#[]⟩, .int .i64 0, .int .i64 0, .int .i64 0, .int .i64 0, .int .i64 0, .int .i64 0] := (Blk.newAt (by simp)).kept hb
      replace hbz : Hid (Below w.heap.size w w8) := hid (bl_then (by have := hbz.out; exact blBy) hb)
      clear hb
      try clear xBa zBa
      try clear xBp zBp
      try clear xBq zBq
      try clear xBn zBn
      try clear xBx zBx
      try clear xBy zBy
      have xBa := Ba.cellF
      have zBa := Ba.lt
      have xBp := Bp.cellF
      have zBp := Bp.lt
      have xBq := Bq.cellF
      have zBq := Bq.lt
      have xBn := Bn.cellF
      have zBn := Bn.lt
      have xBx := Bx.cellF
      have zBx := Bx.lt
      have xBy := By.cellF
      have zBy := By.lt
      go_wp2
      go_ret
      exact ⟨ret_bool (by simp), hbz.out⟩
    | some g =>
      dsimp only [Option.getD_some, Option.isSome_some, Option.getD_none, Option.isSome_none] at H1 H2 H3 H6 H7 H8
      simp only [e1] at H1 H6
      unfold aFT at H2 H7
      clear HKD
      go_enter Tryd.func5, Tryd.ntmps5
      have hbz : Hid (Below w.heap.size w w) := hid (Below.refl _ _)
      go_wp2_with fail
      refine (H1.out _ (by have := hbz.out; exact blBy)).mono ?_
      rintro e w1 ⟨rfl, hb⟩
      have Ba : Blk w1 w.heap.size 24 #[.slice ta l.length tc] := (Blk.new _ _ _).kept hb
      replace hbz : Hid (Below w.heap.size w w1) := hid (bl_then (by have := hbz.out; exact blBy) hb)
      clear hb
      try clear xBa zBa
      have xBa := Ba.cellF
      have zBa := Ba.lt
      go_wp2_with fail
      refine (H2.out _ (by have := hbz.out; exact blBy)).mono ?_
      rintro e w2 ⟨rfl, hb⟩
      replace Ba := (Ba.kept (by exact blBy : Below w1.heap.size w1 _)).kept hb
      have Bp : Blk w2 w1.heap.size 39 #[.string ⟨#[]⟩, .int .i64 0, .int .i64 0, .int .i64 0, .int .i64 0, .int .i64 0, .int .i64 0] := (Blk.newAt (by simp)).kept hb
      replace hbz : Hid (Below w.heap.size w w2) := hid (bl_then (by have := hbz.out; exact blBy) hb)
      clear hb
      try clear xBa zBa
      try clear xBp zBp
      have xBa := Ba.cellF
      have zBa := Ba.lt
      have xBp := Bp.cellF
      have zBp := Bp.lt
      go_wp2_with fail
      refine (H3.out _ (by have := hbz.out; exact blBy)).mono ?_
      rintro e w3 ⟨rfl, hb⟩
      replace Ba := (Ba.kept (by exact blBy : Below w2.heap.size w2 _)).kept hb
      replace Bp := (Bp.kept (by exact blBy : Below w2.heap.size w2 _)).kept hb
      have Bq : Blk w3 w2.heap.size 39 #[.string (strOfNums g.name), .int .i64 g.num, .int .i64 g.kind, .int .i64 g.ref, .int .i64 g.lab, .int .i64 g.one, .int .i64 g.key] := (Blk.newAt (by simp)).kept hb
      replace hbz : Hid (Below w.heap.size w w3) := hid (bl_then (by have := hbz.out; exact blBy) hb)
      clear hb
      try clear xBa zBa
      try clear xBp zBp
      try clear xBq zBq
      have xBa := Ba.cellF
      have zBa := Ba.lt
      have xBp := Bp.cellF
      have zBp := Bp.lt
      have xBq := Bq.cellF
      have zBq := Bq.lt
      go_wp2_with fail
      refine (H4.out _ (by have := hbz.out; exact blBy)).mono ?_
      rintro e w4 ⟨rfl, hb⟩
      replace Ba := Ba.kept hb
      replace Bp := Bp.kept hb
      replace Bq := Bq.kept hb
      replace hbz : Hid (Below w.heap.size w w4) := hid (bl_then (by have := hbz.out; exact blBy) hb)
      clear hb
      try clear xBa zBa
      try clear xBp zBp
      try clear xBq zBq
      have xBa := Ba.cellF
      have zBa := Ba.lt
      have xBp := Bp.cellF
      have zBp := Bp.lt
      have xBq := Bq.cellF
      have zBq := Bq.lt
      go_wp2_with fail
      refine (H5.out _ (by have := hbz.out; exact blBy)).mono ?_
      rintro e w5 ⟨rfl, hb⟩
      replace Ba := (Ba.kept (by exact blBy : Below w4.heap.size w4 _)).kept hb
      replace Bp := (Bp.kept (by exact blBy : Below w4.heap.size w4 _)).kept hb
      replace Bq := (Bq.kept (by exact blBy : Below w4.heap.size w4 _)).kept hb
      have Bn : Blk w5 w4.heap.size 39 #[.string ⟨#[]⟩, .int .i64 0, .int .i64 0, .int .i64 0, .int .i64 0, .int .i64 0, .int .i64 0] := (Blk.newAt (by simp)).kept hb
      replace hbz : Hid (Below w.heap.size w w5) := hid (bl_then (by have := hbz.out; exact blBy) hb)
      clear hb
      try clear xBa zBa
      try clear xBp zBp
      try clear xBq zBq
      try clear xBn zBn
      have xBa := Ba.cellF
      have zBa := Ba.lt
      have xBp := Bp.cellF
      have zBp := Bp.lt
      have xBq := Bq.cellF
      have zBq := Bq.lt
      have xBn := Bn.cellF
      have zBn := Bn.lt
      go_wp2_with fail
      refine (H6.out _ (by have := hbz.out; exact blBy)).mono ?_
      rintro e w6 ⟨rfl, hb⟩
      replace Ba := Ba.kept hb
      replace Bp := Bp.kept hb
      replace Bq := Bq.kept hb
      replace Bn := Bn.kept hb
      replace hbz : Hid (Below w.heap.size w w6) := hid (bl_then (by have := hbz.out; exact blBy) hb)
      clear hb
      try clear xBa zBa
      try clear xBp zBp
      try clear xBq zBq
      try clear xBn zBn
      have xBa := Ba.cellF
      have zBa := Ba.lt
      have xBp := Bp.cellF
      have zBp := Bp.lt
      have xBq := Bq.cellF
      have zBq := Bq.lt
      have xBn := Bn.cellF
      have zBn := Bn.lt
      go_wp2_with fail
      refine (H7.out _ (by have := hbz.out; exact blBy)).mono ?_
      rintro e w7 ⟨rfl, hb⟩
      replace Ba := (Ba.kept (by exact blBy : Below w6.heap.size w6 _)).kept hb
      replace Bp := (Bp.kept (by exact blBy : Below w6.heap.size w6 _)).kept hb
      replace Bq := (Bq.kept (by exact blBy : Below w6.heap.size w6 _)).kept hb
      replace Bn := (Bn.kept (by exact blBy : Below w6.heap.size w6 _)).kept hb
      have Bx : Blk w7 w6.heap.size 39 #[.string ⟨#[]⟩, .int .i64 0, .int .i64 0, .int .i64 0, .int .i64 0, .int .i64 0, .int .i64 0] := (Blk.newAt (by simp)).kept hb
      replace hbz : Hid (Below w.heap.size w w7) := hid (bl_then (by have := hbz.out; exact blBy) hb)
      clear hb
      try clear xBa zBa
      try clear xBp zBp
      try clear xBq zBq
      try clear xBn zBn
      try clear xBx zBx
      have xBa := Ba.cellF
      have zBa := Ba.lt
      have xBp := Bp.cellF
      have zBp := Bp.lt
      have xBq := Bq.cellF
      have zBq := Bq.lt
      have xBn := Bn.cellF
      have zBn := Bn.lt
      have xBx := Bx.cellF
      have zBx := Bx.lt
      go_wp2_with fail
      refine (H8.out _ (by have := hbz.out; exact blBy)).mono ?_
      rintro e w8 ⟨rfl, hb⟩
      replace Ba := (Ba.kept (by exact blBy : Below w7.heap.size w7 _)).kept hb
      replace Bp := (Bp.kept (by exact blBy : Below w7.heap.size w7 _)).kept hb
      replace Bq := (Bq.kept (by exact blBy : Below w7.heap.size w7 _)).kept hb
      replace Bn := (Bn.kept (by exact blBy : Below w7.heap.size w7 _)).kept hb
      replace Bx := (Bx.kept (by exact blBy : Below w7.heap.size w7 _)).kept hb
      have By : Blk w8 w7.heap.size 39 #[.string (strOfNums g.name), .int .i64 g.num, .int .i64 g.kind, .int .i64 g.ref, .int .i64 g.lab, .int .i64 g.one, .int .i64 g.key] := (Blk.newAt (by simp)).kept hb
      replace hbz : Hid (Below w.heap.size w w8) := hid (bl_then (by have := hbz.out; exact blBy) hb)
      clear hb
      try clear xBa zBa
      try clear xBp zBp
      try clear xBq zBq
      try clear xBn zBn
      try clear xBx zBx
      try clear xBy zBy
      have xBa := Ba.cellF
      have zBa := Ba.lt
      have xBp := Bp.cellF
      have zBp := Bp.lt
      have xBq := Bq.cellF
      have zBq := Bq.lt
      have xBn := Bn.cellF
      have zBn := Bn.lt
      have xBx := Bx.cellF
      have zBx := Bx.lt
      have xBy := By.cellF
      have zBy := By.lt
      go_wp2
      go_ret
      exact ⟨ret_bool (by simp), hbz.out⟩
  | some f =>
    cases o2 with
    | none =>
      dsimp only [Option.getD_some, Option.isSome_some, Option.getD_none, Option.isSome_none] at H1 H2 H3 H6 H7 H8
      unfold aFT at H1 H6
      simp only [e1] at H2 H7
      rw [HKD f rfl] at H8
      clear HKD
      generalize takenF f kd = tk at *
      go_enter Tryd.func5, Tryd.ntmps5
      have hbz : Hid (Below w.heap.size w w) := hid (Below.refl _ _)
      go_wp2_with fail
      refine (H1.out _ (by have := hbz.out; exact blBy)).mono ?_
      rintro e w1 ⟨rfl, hb⟩
      have Ba : Blk w1 w.heap.size 24 #[.slice ta l.length tc] := (Blk.new _ _ _).kept hb
      replace hbz : Hid (Below w.heap.size w w1) := hid (bl_then (by have := hbz.out; exact blBy) hb)
      clear hb
      try clear xBa zBa
      have xBa := Ba.cellF
      have zBa := Ba.lt
      go_wp2_with fail
      refine (H2.out _ (by have := hbz.out; exact blBy)).mono ?_
      rintro e w2 ⟨rfl, hb⟩
      replace Ba := (Ba.kept (by exact blBy : Below w1.heap.size w1 _)).kept hb
      have Bp : Blk w2 w1.heap.size 39 #[.string (strOfNums f.name), .int .i64 f.num, .int .i64 f.kind, .int .i64 f.ref, .int .i64 f.lab, .int .i64 f.one, .int .i64 f.key] := (Blk.newAt (by simp)).kept hb
      replace hbz : Hid (Below w.heap.size w w2) := hid (bl_then (by have := hbz.out; exact blBy) hb)
      clear hb
      try clear xBa zBa
      try clear xBp zBp
      have xBa := Ba.cellF
      have zBa := Ba.lt
      have xBp := Bp.cellF
      have zBp := Bp.lt
      go_wp2_with fail
      refine (H3.out _ (by have := hbz.out; exact blBy)).mono ?_
      rintro e w3 ⟨rfl, hb⟩
      replace Ba := (Ba.kept (by exact blBy : Below w2.heap.size w2 _)).kept hb
      replace Bp := (Bp.kept (by exact blBy : Below w2.heap.size w2 _)).kept hb
      have Bq : Blk w3 w2.heap.size 39 #[.string ⟨#[]⟩, .int .i64 0, .int .i64 0, .int .i64 0, .int .i64 0, .int .i64 0, .int .i64 0] := (Blk.newAt (by simp)).kept hb
      replace hbz : Hid (Below w.heap.size w w3) := hid (bl_then (by have := hbz.out; exact blBy) hb)
      clear hb
      try clear xBa zBa
      try clear xBp zBp
      try clear xBq zBq
      have xBa := Ba.cellF
      have zBa := Ba.lt
      have xBp := Bp.cellF
      have zBp := Bp.lt
      have xBq := Bq.cellF
      have zBq := Bq.lt
      go_wp2_with fail
      refine (H4.out _ (by have := hbz.out; exact blBy)).mono ?_
      rintro e w4 ⟨rfl, hb⟩
      replace Ba := Ba.kept hb
      replace Bp := Bp.kept hb
      replace Bq := Bq.kept hb
      replace hbz : Hid (Below w.heap.size w w4) := hid (bl_then (by have := hbz.out; exact blBy) hb)
      clear hb
      try clear xBa zBa
      try clear xBp zBp
      try clear xBq zBq
      have xBa := Ba.cellF
      have zBa := Ba.lt
      have xBp := Bp.cellF
      have zBp := Bp.lt
      have xBq := Bq.cellF
      have zBq := Bq.lt
      go_wp2_with fail
      refine (H5.out _ (by have := hbz.out; exact blBy)).mono ?_
      rintro e w5 ⟨rfl, hb⟩
      replace Ba := (Ba.kept (by exact blBy : Below w4.heap.size w4 _)).kept hb
      replace Bp := (Bp.kept (by exact blBy : Below w4.heap.size w4 _)).kept hb
      replace Bq := (Bq.kept (by exact blBy : Below w4.heap.size w4 _)).kept hb
      have Bn : Blk w5 w4.heap.size 39 #[.string ⟨#[]⟩, .int .i64 0, .int .i64 0, .int .i64 0, .int .i64 0, .int .i64 0, .int .i64 0] := (Blk.newAt (by simp)).kept hb
      replace hbz : Hid (Below w.heap.size w w5) := hid (bl_then (by have := hbz.out; exact blBy) hb)
      clear hb
      try clear xBa zBa
      try clear xBp zBp
      try clear xBq zBq
      try clear xBn zBn
      have xBa := Ba.cellF
      have zBa := Ba.lt
      have xBp := Bp.cellF
      have zBp := Bp.lt
      have xBq := Bq.cellF
      have zBq := Bq.lt
      have xBn := Bn.cellF
      have zBn := Bn.lt
      go_wp2_with fail
      refine (H6.out _ (by have := hbz.out; exact blBy)).mono ?_
      rintro e w6 ⟨rfl, hb⟩
      replace Ba := Ba.kept hb
      replace Bp := Bp.kept hb
      replace Bq := Bq.kept hb
      replace Bn := Bn.kept hb
      replace hbz : Hid (Below w.heap.size w w6) := hid (bl_then (by have := hbz.out; exact blBy) hb)
      clear hb
      try clear xBa zBa
      try clear xBp zBp
      try clear xBq zBq
      try clear xBn zBn
      have xBa := Ba.cellF
      have zBa := Ba.lt
      have xBp := Bp.cellF
      have zBp := Bp.lt
      have xBq := Bq.cellF
      have zBq := Bq.lt
      have xBn := Bn.cellF
      have zBn := Bn.lt
      go_wp2_with fail
      refine (H7.out _ (by have := hbz.out; exact blBy)).mono ?_
      rintro e w7 ⟨rfl, hb⟩
      replace Ba := (Ba.kept (by exact blBy : Below w6.heap.size w6 _)).kept hb
      replace Bp := (Bp.kept (by exact blBy : Below w6.heap.size w6 _)).kept hb
      replace Bq := (Bq.kept (by exact blBy : Below w6.heap.size w6 _)).kept hb
      replace Bn := (Bn.kept (by exact blBy : Below w6.heap.size w6 _)).kept hb
      have Bx : Blk w7 w6.heap.size 39 #[.string (strOfNums f.name), .int .i64 f.num, .int .i64 f.kind, .int .i64 f.ref, .int .i64 f.lab, .int .i64 f.one, .int .i64 f.key] := (Blk.newAt (by simp)).kept hb
      replace hbz : Hid (Below w.heap.size w w7) := hid (bl_then (by have := hbz.out; exact blBy) hb)
      clear hb
      try clear xBa zBa
      try clear xBp zBp
      try clear xBq zBq
      try clear xBn zBn
      try clear xBx zBx
      have xBa := Ba.cellF
      have zBa := Ba.lt
      have xBp := Bp.cellF
      have zBp := Bp.lt
      have xBq := Bq.cellF
      have zBq := Bq.lt
      have xBn := Bn.cellF
      have zBn := Bn.lt
      have xBx := Bx.cellF
      have zBx := Bx.lt
      go_wp2_with fail
      refine (H8.out _ (by have := hbz.out; exact blBy)).mono ?_
      rintro e w8 ⟨rfl, hb⟩
      replace Ba := (Ba.kept (by exact blBy : Below w7.heap.size w7 _)).kept hb
      replace Bp := (Bp.kept (by exact blBy : Below w7.heap.size w7 _)).kept hb
      replace Bq := (Bq.kept (by exact blBy : Below w7.heap.size w7 _)).kept hb
      replace Bn := (Bn.kept (by exact blBy : Below w7.heap.size w7 _)).kept hb
      replace Bx := (Bx.kept (by exact blBy : Below w7.heap.size w7 _)).kept hb
      have By : Blk w8 w7.heap.size 39 #[.string ⟨#[]⟩, .int .i64 0, .int .i64 0, .int .i64 0, .int .i64 0, .int .i64 0, .int .i64 0] := (Blk.newAt (by simp)).kept hb
      replace hbz : Hid (Below w.heap.size w w8) := hid (bl_then (by have := hbz.out; exact blBy) hb)
      clear hb
      try clear xBa zBa
      try clear xBp zBp
      try clear xBq zBq
      try clear xBn zBn
      try clear xBx zBx
      try clear xBy zBy
      have xBa := Ba.cellF
      have zBa := Ba.lt
      have xBp := Bp.cellF
      have zBp := Bp.lt
      have xBq := Bq.cellF
      have zBq := Bq.lt
      have xBn := Bn.cellF
      have zBn := Bn.lt
      have xBx := Bx.cellF
      have zBx := Bx.lt
      have xBy := By.cellF
      have zBy := By.lt
      go_wp2
      go_ret
      exact ⟨ret_bool (by simp), hbz.out⟩
    | some g =>
      dsimp only [Option.getD_some, Option.isSome_some, Option.getD_none, Option.isSome_none] at H1 H2 H3 H6 H7 H8
      unfold aFT at H1 H6
      unfold aFT at H2 H7
      rw [HKD f rfl] at H8
      clear HKD
      generalize takenF f kd = tk at *
      go_enter Tryd.func5, Tryd.ntmps5
      have hbz : Hid (Below w.heap.size w w) := hid (Below.refl _ _)
      go_wp2_with fail
      refine (H1.out _ (by have := hbz.out; exact blBy)).mono ?_
      rintro e w1 ⟨rfl, hb⟩
      have Ba : Blk w1 w.heap.size 24 #[.slice ta l.length tc] := (Blk.new _ _ _).kept hb
      replace hbz : Hid (Below w.heap.size w w1) := hid (bl_then (by have := hbz.out; exact blBy) hb)
      clear hb
      try clear xBa zBa
      have xBa := Ba.cellF
      have zBa := Ba.lt
      go_wp2_with fail
      refine (H2.out _ (by have := hbz.out; exact blBy)).mono ?_
      rintro e w2 ⟨rfl, hb⟩
      replace Ba := (Ba.kept (by exact blBy : Below w1.heap.size w1 _)).kept hb
      have Bp : Blk w2 w1.heap.size 39 #[.string (strOfNums f.name), .int .i64 f.num, .int .i64 f.kind, .int .i64 f.ref, .int .i64 f.lab, .int .i64 f.one, .int .i64 f.key] := (Blk.newAt (by simp)).kept hb
      replace hbz : Hid (Below w.heap.size w w2) := hid (bl_then (by have := hbz.out; exact blBy) hb)
      clear hb
      try clear xBa zBa
      try clear xBp zBp
      have xBa := Ba.cellF
      have zBa := Ba.lt
      have xBp := Bp.cellF
      have zBp := Bp.lt
      go_wp2_with fail
      refine (H3.out _ (by have := hbz.out; exact blBy)).mono ?_
      rintro e w3 ⟨rfl, hb⟩
      replace Ba := (Ba.kept (by exact blBy : Below w2.heap.size w2 _)).kept hb
      replace Bp := (Bp.kept (by exact blBy : Below w2.heap.size w2 _)).kept hb
      have Bq : Blk w3 w2.heap.size 39 #[.string (strOfNums g.name), .int .i64 g.num, .int .i64 g.kind, .int .i64 g.ref, .int .i64 g.lab, .int .i64 g.one, .int .i64 g.key] := (Blk.newAt (by simp)).kept hb
      replace hbz : Hid (Below w.heap.size w w3) := hid (bl_then (by have := hbz.out; exact blBy) hb)
      clear hb
      try clear xBa zBa
      try clear xBp zBp
      try clear xBq zBq
      have xBa := Ba.cellF
      have zBa := Ba.lt
      have xBp := Bp.cellF
      have zBp := Bp.lt
      have xBq := Bq.cellF
      have zBq := Bq.lt
      go_wp2_with fail
      refine (H4.out _ (by have := hbz.out; exact blBy)).mono ?_
      rintro e w4 ⟨rfl, hb⟩
      replace Ba := Ba.kept hb
      replace Bp := Bp.kept hb
      replace Bq := Bq.kept hb
      replace hbz : Hid (Below w.heap.size w w4) := hid (bl_then (by have := hbz.out; exact blBy) hb)
      clear hb
      try clear xBa zBa
      try clear xBp zBp
      try clear xBq zBq
      have xBa := Ba.cellF
      have zBa := Ba.lt
      have xBp := Bp.cellF
      have zBp := Bp.lt
      have xBq := Bq.cellF
      have zBq := Bq.lt
      go_wp2_with fail
      refine (H5.out _ (by have := hbz.out; exact blBy)).mono ?_
      rintro e w5 ⟨rfl, hb⟩
      replace Ba := (Ba.kept (by exact blBy : Below w4.heap.size w4 _)).kept hb
      replace Bp := (Bp.kept (by exact blBy : Below w4.heap.size w4 _)).kept hb
      replace Bq := (Bq.kept (by exact blBy : Below w4.heap.size w4 _)).kept hb
      have Bn : Blk w5 w4.heap.size 39 #[.string ⟨#[]⟩, .int .i64 0, .int .i64 0, .int .i64 0, .int .i64 0, .int .i64 0, .int .i64 0] := (Blk.newAt (by simp)).kept hb
      replace hbz : Hid (Below w.heap.size w w5) := hid (bl_then (by have := hbz.out; exact blBy) hb)
      clear hb
      try clear xBa zBa
      try clear xBp zBp
      try clear xBq zBq
      try clear xBn zBn
      have xBa := Ba.cellF
      have zBa := Ba.lt
      have xBp := Bp.cellF
      have zBp := Bp.lt
      have xBq := Bq.cellF
      have zBq := Bq.lt
      have xBn := Bn.cellF
      have zBn := Bn.lt
      go_wp2_with fail
      refine (H6.out _ (by have := hbz.out; exact blBy)).mono ?_
      rintro e w6 ⟨rfl, hb⟩
      replace Ba := Ba.kept hb
      replace Bp := Bp.kept hb
      replace Bq := Bq.kept hb
      replace Bn := Bn.kept hb
      replace hbz : Hid (Below w.heap.size w w6) := hid (bl_then (by have := hbz.out; exact blBy) hb)
      clear hb
      try clear xBa zBa
      try clear xBp zBp
      try clear xBq zBq
      try clear xBn zBn
      have xBa := Ba.cellF
      have zBa := Ba.lt
      have xBp := Bp.cellF
      have zBp := Bp.lt
      have xBq := Bq.cellF
      have zBq := Bq.lt
      have xBn := Bn.cellF
      have zBn := Bn.lt
      go_wp2_with fail
      refine (H7.out _ (by have := hbz.out; exact blBy)).mono ?_
      rintro e w7 ⟨rfl, hb⟩
      replace Ba := (Ba.kept (by exact blBy : Below w6.heap.size w6 _)).kept hb
      replace Bp := (Bp.kept (by exact blBy : Below w6.heap.size w6 _)).kept hb
      replace Bq := (Bq.kept (by exact blBy : Below w6.heap.size w6 _)).kept hb
      replace Bn := (Bn.kept (by exact blBy : Below w6.heap.size w6 _)).kept hb
      have Bx : Blk w7 w6.heap.size 39 #[.string (strOfNums f.name), .int .i64 f.num, .int .i64 f.kind, .int .i64 f.ref, .int .i64 f.lab, .int .i64 f.one, .int .i64 f.key] := (Blk.newAt (by simp)).kept hb
      replace hbz : Hid (Below w.heap.size w w7) := hid (bl_then (by have := hbz.out; exact blBy) hb)
      clear hb
      try clear xBa zBa
      try clear xBp zBp
      try clear xBq zBq
      try clear xBn zBn
      try clear xBx zBx
      have xBa := Ba.cellF
      have zBa := Ba.lt
      have xBp := Bp.cellF
      have zBp := Bp.lt
      have xBq := Bq.cellF
      have zBq := Bq.lt
      have xBn := Bn.cellF
      have zBn := Bn.lt
      have xBx := Bx.cellF
      have zBx := Bx.lt
      go_wp2_with fail
      refine (H8.out _ (by have := hbz.out; exact blBy)).mono ?_
      rintro e w8 ⟨rfl, hb⟩
      replace Ba := (Ba.kept (by exact blBy : Below w7.heap.size w7 _)).kept hb
      replace Bp := (Bp.kept (by exact blBy : Below w7.heap.size w7 _)).kept hb
      replace Bq := (Bq.kept (by exact blBy : Below w7.heap.size w7 _)).kept hb
      replace Bn := (Bn.kept (by exact blBy : Below w7.heap.size w7 _)).kept hb
      replace Bx := (Bx.kept (by exact blBy : Below w7.heap.size w7 _)).kept hb
      have By : Blk w8 w7.heap.size 39 #[.string (strOfNums g.name), .int .i64 g.num, .int .i64 g.kind, .int .i64 g.ref, .int .i64 g.lab, .int .i64 g.one, .int .i64 g.key] := (Blk.newAt (by simp)).kept hb
      replace hbz : Hid (Below w.heap.size w w8) := hid (bl_then (by have := hbz.out; exact blBy) hb)
      clear hb
      try clear xBa zBa
      try clear xBp zBp
      try clear xBq zBq
      try clear xBn zBn
      try clear xBx zBx
      try clear xBy zBy
      have xBa := Ba.cellF
      have zBa := Ba.lt
      have xBp := Bp.cellF
      have zBp := Bp.lt
      have xBq := Bq.cellF
      have zBq := Bq.lt
      have xBn := Bn.cellF
      have zBn := Bn.lt
      have xBx := Bx.cellF
      have zBx := Bx.lt
      have xBy := By.cellF
      have zBy := By.lt
      go_wp2
      go_ret
      exact ⟨ret_bool (by simp), hbz.out⟩
end Go.Proofs.YtbiohlfcikdldaaDoor
namespace Go.Proofs.YtbiohlfcikdldaaDoor
open Go.ChangeShapes Go.WideShapes Go.ChangeAt Go.RowKit Go.Deep
set_option maxRecDepth 1000000
set_option linter.unusedVariables false
set_option linter.unusedSimpArgs false
set_option maxHeartbeats 1000000
section
variable {H : Type} {enc : TypeId × Value → H} {W : World} {spare : Nat → Bool} {held : Bool}
theorem tvf_open (n : Nat) (cs : List Value) (y : DataW H × List MemPlace) (h : DataW.trod enc Tryd.prog W 0 spare held n 62 cs = some y) : ∃ x : TV, cs = cTV x ∧ (TyR W x ∧ (Rows.uptoBulk y.1 ≤ 1048576 → OkV x ∧ x.t.name.length < 4000000 ∧ ∀ f ∈ x.t.fs, f.name.length ≤ 4000000)) := by
  obtain ⟨f0, f1, f2, f3, f4, f5, hs, hone, hsz, t0, t1, t2, t3, t4, t5⟩ := fieldsT
  obtain ⟨xs, m, hy, hxl, hcl, hi⟩ := struct_open hs hone hsz h
  obtain ⟨v0, y0, c0, x0, h0⟩ := hi 0 f0 rfl
  rw [t0] at h0
  have b0 := bulk_get x0
  obtain ⟨v1, y1, c1, x1, h1⟩ := hi 1 f1 rfl
  rw [t1] at h1
  have b1 := bulk_get x1
  obtain ⟨v2, y2, c2, x2, h2⟩ := hi 2 f2 rfl
  rw [t2] at h2
  have b2 := bulk_get x2
  obtain ⟨v3, y3, c3, x3, h3⟩ := hi 3 f3 rfl
  rw [t3] at h3
  have b3 := bulk_get x3
  obtain ⟨v4, y4, c4, x4, h4⟩ := hi 4 f4 rfl
  rw [t4] at h4
  have b4 := bulk_get x4
  obtain ⟨v5, y5, c5, x5, h5⟩ := hi 5 f5 rfl
  rw [t5] at h5
  have b5 := bulk_get x5
  rw [← hy] at b0 b1 b2 b3 b4 b5
  obtain ⟨a0, rfl, k0⟩ := str_open h0
  obtain ⟨e1, he1, _⟩ := DataW.trod_bool Tryd.underlying4 h1
  simp at he1
  subst he1
  obtain ⟨fa, fc, fs, rfl, rf, lf, qf⟩ := rows_open cFT 7 (by decide) (fun x d => okX (Rows.uptoBulk d) x.name) Tryd.underlying58 (by kernel_rfl) (fun _ => rfl) ft_open h2
  obtain ⟨oa, oc, os, rfl, ro, lo, qo⟩ := rows_open cN 1 (by decide) (fun x d => okX (Rows.uptoBulk d) x) Tryd.underlying59 (by kernel_rfl) (fun _ => rfl) st_open h3
  obtain ⟨sa, sc, ss, rfl, rs, ls, qs⟩ := rows_open cSY 2 (by decide) (fun x d => okX (Rows.uptoBulk d) x.name ∧ I64 x.num) Tryd.underlying57 (by kernel_rfl) (fun _ => rfl) sy_open h4
  obtain ⟨ra, rc, gs, rfl, rr, lr, qr⟩ := rows_open cRG 2 (by decide) (fun _ _ => True) Tryd.underlying60 (by kernel_rfl) (fun _ => rfl) rg_open h5
  refine ⟨⟨⟨a0, e1, fs, os, ss, gs⟩, _, _, _, _⟩, list_eq _ (by rw [hcl]; rfl) fun i v hv => ?_, ⟨rf, ro, rs, rr⟩, fun hb => ⟨⟨⟨k0.1, fun x hx => ?_, fun x hx => ?_, fun x hx => ?_⟩, ?_, ?_⟩, ?_, fun f hf => ?_⟩⟩
  · match i, hv with
    | 0, hv => simp [cTV] at hv; subst hv; exact c0
    | 1, hv => simp [cTV] at hv; subst hv; exact c1
    | 2, hv => simp [cTV] at hv; subst hv; exact c2
    | 3, hv => simp [cTV] at hv; subst hv; exact c3
    | 4, hv => simp [cTV] at hv; subst hv; exact c4
    | 5, hv => simp [cTV] at hv; subst hv; exact c5
    | i + 6, hv => simp [cTV] at hv
  · obtain ⟨d, hd, _⟩ := qf x hx
    exact hd.1
  · obtain ⟨d, hd, _⟩ := qo x hx
    exact hd.1
  · obtain ⟨d, hd, _⟩ := qs x hx
    exact ⟨hd.1.1, hd.2⟩
  · have := k0.2
    dsimp only
    omega
  · dsimp only
    omega
  · have := k0.2
    dsimp only
    omega
  · obtain ⟨d, hd, hdb⟩ := qf f hf
    have := hd.2
    omega
theorem tbf_open {n : Nat} {v : Value} {y : DataW H × List MemPlace} (h : DataW.trod enc Tryd.prog W 0 spare held n 24 [v] = some y) : ∃ (a : Option Addr) (c : Nat) (l : List TV), v = .slice a l.length c ∧ TbR W (.slice a l.length c) l ∧ (Rows.uptoBulk y.1 ≤ 1048576 → ∀ x ∈ l, OkV x ∧ x.t.name.length < 4000000 ∧ ∀ f ∈ x.t.fs, f.name.length ≤ 4000000) := by
  obtain ⟨f0, hs, hone, hsz, t0⟩ := fieldsB
  obtain ⟨xs, m, hy, hxl, hcl, hi⟩ := struct_open hs hone hsz h
  obtain ⟨v0, y0, c0, x0, h0⟩ := hi 0 f0 rfl
  simp at c0
  subst c0
  have b0 := bulk_get x0
  rw [← hy] at b0
  obtain ⟨a, c, l, rfl, r, hl, q⟩ := rows_open cTV 6 (by decide) (fun x d => TyR W x ∧ (Rows.uptoBulk d ≤ 1048576 → OkV x ∧ x.t.name.length < 4000000 ∧ ∀ f ∈ x.t.fs, f.name.length ≤ 4000000)) t0 (by kernel_rfl) (fun _ => rfl) tvf_open h0
  exact ⟨a, c, l, rfl, ⟨r, fun x hx => by obtain ⟨d, hd, _⟩ := q x hx; exact hd.1⟩, fun hb x hx => by obtain ⟨d, hd, hdb⟩ := q x hx; exact hd.2 (by omega)⟩
end
end Go.Proofs.YtbiohlfcikdldaaDoor
namespace Go.Proofs.YtbiohlfcikdldaaDoor
open Go.ChangeShapes Go.WideShapes Go.ChangeAt Go.RowKit
set_option maxRecDepth 1000000
theorem tableFieldsS (W : World) (l : List TV) (a : Option Addr) (c : Nat) (h : TbR W (.slice a l.length c) l) (hk : ∀ x ∈ l, OkV x ∧ x.t.name.length < 4000000 ∧ ∀ f ∈ x.t.fs, f.name.length ≤ 4000000) (m : Int) (hm : W.cell? ⟨0, 0, none⟩ = some (.int .i64 m)) (idx n : Int) (t : ByteArray) (ht : t.data.toList.length ≤ 9223372036854775807) (kd : Int) : Calls Tryd.prog 5 #[.agg #[.slice a l.length c], .int .i64 idx, .int .i64 n, .string t, .int .i64 kd] W fun e w' => e = .returned (.bool true) ∧ Below W.heap.size W w' := by
  have := tableFieldsW W l a c h (fun x hx => (hk x hx).1) (fun x hx => (hk x hx).2.1) (fun x hx => (hk x hx).2.2) m hm idx n (numsS t) ⟨numsS_bd t, by rw [numsS_len]; exact ht⟩ kd
  rw [numsS_str] at this
  exact this
end Go.Proofs.YtbiohlfcikdldaaDoor
