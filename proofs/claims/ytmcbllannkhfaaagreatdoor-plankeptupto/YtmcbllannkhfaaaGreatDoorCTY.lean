/-
  What is around a type.
  A table is good: what the program answers.
  A type by its name: both answers.
  The table of the examples.
  What comes in, opened: strings; and what the bound on it says.
  A table that comes in, opened.
  A table that comes in, opened: fields, symbols, ranges, types.
  The variables of Go's library that the rows list: a world that lays them; the one that is named alone.
  Steps of programs, and the steps that a type is lowered to.
  A step of its numbers.
-/
import Derived.Test.YtmcbllannkhfaaaGreatDoorCTP
import Derived.ProofKit
import Derived.OpenShut
import Derived.ShutString
import Derived.Lib.SmallJoins
import Derived.Deep.Slices
import Derived.Deep.Fields
import Derived.Test.YtmcbllannkhfaaaGreatDoorRows
import Derived.Stop.LaidErr
import Derived.Deep.DeepHandedRow
import Derived.Deep.DeepWitnessRowRef
import Derived.LaidLaws
import Derived.Test.YtmcbllannkhfaaaGreatDoorCTA
import Derived.Test.YtmcbllannkhfaaaGreatDoorCTI
import Derived.Laws.CopyRow
import Derived.Laws.CopyOwn
import Derived.Lib.AppendZerosOnto
import Derived.Lib.AppendZeros
import Derived.Shelf.RegionOpenPlain
namespace Go.Proofs.YtmcbllannkhfaaaGreatDoor
open Go.RowKit
set_option maxRecDepth 1000000
set_option linter.unusedVariables false
set_option linter.unusedSimpArgs false
set_option maxHeartbeats 1000000
def lastD (x : List Int) : Int := Lib.lastIndexByte (strOfNums x) 46
theorem lastD_is (x : List Int) : lastD x = -1 ∨ ∃ i : Nat, lastD x = i ∧ i < x.length := by
  rcases Lib.lastIndexByte_spec (strOfNums x) 46 with ⟨e, _⟩ | ⟨i, hi, e, _⟩
  · exact .inl e
  · exact .inr ⟨i, e, by rw [strOfNums_size] at hi; exact hi⟩
theorem lastT (x : List Int) (w : World) (h : x.length < 4611686018427387904) : Calls Tryz.prog 64 #[.string (strOfNums x), .string dotS] w fun e w' => e = .returned (.int .i64 (lastD x)) ∧ w = w' := by
  refine (Tryz.strings_LastIndex_one (strOfNums x) dotS rfl (by rw [strOfNums_size]; exact h) w).mono ?_
  rintro e w' ⟨rfl, rfl⟩
  exact ⟨rfl, rfl⟩
def standB (l : List TV) (i : Nat) (x : List Int) : Bool := if lastD x < 0 then true else match (l.take i).find? (fun v => v.t.name == x.take (lastD x).toNat) with
  | none => false
  | some v => !v.t.enum
theorem standsRightT (w : World) (l : List TV) (ta : Option Addr) (tc : Nat) (b i : Nat) (x : List Int) (h : TbR w (.slice ta l.length tc) l) (hk : Kn w b l i) (hx : TxA x) (hl : x.length < 4294967281) : Calls Tryz.prog 40 #[.agg #[.slice ta l.length tc], .map (some b), .string (strOfNums x)] w fun e w' => e = .returned (.bool (standB l i x)) ∧ Below w.heap.size w w' := by
  have HX : Hid (standB l i x = if lastD x < 0 then true else match (l.take i).find? (fun v => v.t.name == x.take (lastD x).toNat) with
  | none => false
  | some v => !v.t.enum) := hid rfl
  have HC : Hid (∀ W, Calls Tryz.prog 64 #[.string (strOfNums x), .string dotS] W fun e w' => e = .returned (.int .i64 (lastD x)) ∧ W = w') := hid fun W => lastT x W (by omega)
  obtain ⟨_, _, e, hn⟩ := rowS_sl h.row
  clear e
  have h1 : (l.length : Int) ≤ 9223372036854775807 := by omega
  have HT := hid h
  have HK := hid hk
  rcases lastD_is x with e | ⟨k, e, hkx⟩
  · rw [e] at HX HC
    replace HX := hid (show standB l i x = true by rw [HX.out]; rfl)
    clear h hk hx
    go_enter Tryz.func40, Tryz.ntmps40
    go_wp2_with (first | (go_at_call 64; refine (HC.out _).mono ?_; rintro e w1 ⟨rfl, rfl⟩))
    go_ret
    exact ⟨ret_bool HX.out.symm, by exact blBy⟩
  rw [e] at HX HC
  have hy : TxA (x.take k) := ⟨fun c hc => hx.1 c (List.mem_of_mem_take hc), by have := hx.2; simp; omega⟩
  have HS : Hid ((strOfNums x).extract 0 k = strOfNums (x.take k)) := hid (by rw [str_cut]; rfl)
  have HSZ : (strOfNums x).size = x.length := strOfNums_size x
  replace HX := hid (show standB l i x = match (l.take i).find? (fun v => v.t.name == x.take k) with
  | none => false
  | some v => !v.t.enum by rw [HX.out, if_neg (by omega)]; rfl)
  have k0 : ¬ (k : Int) < 0 := by omega
  have hkx' : (k : Int) < (x.length : Int) := by omega
  obtain ⟨c, hr, hc⟩ := (HK.out.kept (below_alloc (w := w) (.cells #[.slice ta l.length tc] 31))).look hy
  rw [← HS.out] at hr
  cases hf : (l.take i).find? (fun v => v.t.name == x.take k) with
  | none =>
    have hno : named (l.take i) (x.take k) = false := by
      unfold named
      rw [List.any_eq_false]
      intro v hv
      exact List.find?_eq_none.1 hf v hv
    replace HX := hid (show standB l i x = false by rw [HX.out, hf])
    rw [hno] at hr
    clear h hk hx hno hf hc
    go_enter Tryz.func40, Tryz.ntmps40
    go_wp2_with (first | (go_at_call 64; refine (HC.out _).mono ?_; rintro e w1 ⟨rfl, rfl⟩))
    go_ret
    exact ⟨ret_bool HX.out.symm, by exact blBy⟩
  | some v =>
    have hyes : named (l.take i) (x.take k) = true := by
      unfold named
      rw [List.any_eq_true]
      exact ⟨v, List.mem_of_find?_eq_some hf, by simpa using List.find?_some hf⟩
    obtain ⟨j, hj, ej⟩ := List.mem_take_iff_getElem.1 (List.mem_of_find?_eq_some hf)
    have hjl : j < l.length := by omega
    have hcj : c = (j : Int) := hc j hjl (by omega) (by rw [ej]; simpa using List.find?_some hf)
    subst hcj
    replace HX := hid (show standB l i x = !l[j].t.enum by rw [HX.out, hf, ej])
    rw [hyes] at hr
    have hjl' : (j : Int) < (l.length : Int) := by omega
    obtain ⟨tb, tof, rfl, hbl, -, c1, -⟩ := row6 HT.out.row hjl
    clear h hk hx hyes hf hc ej
    generalize l[j].t.enum = en at *
    go_enter Tryz.func40, Tryz.ntmps40
    go_wp2_with (first | (go_at_call 64; refine (HC.out _).mono ?_; rintro e w1 ⟨rfl, rfl⟩))
    go_ret
    exact ⟨ret_bool HX.out.symm, by exact blBy⟩
end Go.Proofs.YtmcbllannkhfaaaGreatDoor
namespace Go.Proofs.YtmcbllannkhfaaaGreatDoor
open Go.RowKit
set_option maxRecDepth 1000000
set_option linter.unusedVariables false
set_option linter.unusedSimpArgs false
set_option maxHeartbeats 1000000
/-- What is asked of a table: that its texts and numbers can be. -/
structure OkV (x : TV) : Prop where
  ok : OkT x.t
  nl : x.t.name.length < 4294967281
  sz : x.t.fs.length + x.t.os.length + x.t.rs.length ≤ 9223372036854775807
def stepB (l : List TV) (j : Nat) (t : TT) : Bool := !named (l.take j) t.name && (fullB t && (standB l j t.name && typB l t))
def goodA (l : List TV) : List TV → Nat → Bool
  | [], _ => true
  | x :: r, j => stepB l j x.t && goodA l r (j + 1)
def goodB (l : List TV) : Bool := decide (l.length ≤ 128) && goodA l l 0
theorem run_makeMap0 {P : Program} (t : TypeId) (w : World) {ki e : TypeId} (ht : P.underlying t = some (.map ki e)) : (Instr.makeMap t none).run P w = .ok (.map (some w.heap.size)) (w.alloc (.map #[] 0)) := by
  simp [Instr.makeMap, run_underlying ht, Result.andThen]
theorem goodT (w : World) (l : List TV) (ta : Option Addr) (tc : Nat) (h : TbR w (.slice ta l.length tc) l) (hk : ∀ x ∈ l, OkV x) (m : Int) (hm : w.cell? ⟨0, 0, none⟩ = some (.int .i64 m)) : Calls Tryz.prog 21 #[.agg #[.slice ta l.length tc]] w fun e w' => e = .returned (.bool (goodB l)) ∧ Below w.heap.size w w' := by
  obtain ⟨_, _, e, hn⟩ := rowS_sl h.row
  clear e
  have h1 : (l.length : Int) ≤ 9223372036854775807 := by omega
  have HT := hid h
  have HK := hid hk
  have HM := hid hm
  clear h hk hm
  have HX : Hid (goodB l = (decide (l.length ≤ 128) && goodA l l 0)) := hid rfl
  by_cases hbig : 128 < l.length
  case pos =>
    have h2 : (128 : Int) < (l.length : Int) := by omega
    replace HX := hid (show goodB l = false by rw [HX.out, decide_eq_false (by omega)]; rfl)
    go_enter Tryz.func21, Tryz.ntmps21
    go_wp2
    go_ret
    exact ⟨ret_bool HX.out.symm, by exact blBy⟩
  have h2 : ¬ (128 : Int) < (l.length : Int) := by omega
  replace HX := hid (show goodB l = goodA l l 0 by rw [HX.out, decide_eq_true (by omega)]; rfl)
  have hmk := fun W => run_makeMap0 (P := Tryz.prog) 75 W Tryz.underlying75
  go_enter Tryz.func21, Tryz.ntmps21
  go_wp2
  clear hmk
  go_loopw [16] (fun r wr => ∃ j : Nat, r = .int .i64 j ∧ j ≤ l.length ∧ Hid (goodA l l 0 = goodA l (l.drop j) j) ∧ Hid (Kn wr (w.heap.size + 1) l j) ∧ Hid (Blk wr w.heap.size 31 #[.slice ta l.length tc]) ∧ Hid (Below w.heap.size w wr)) (fun r wr => l.length - numAt wr r)
  case atStart => exact ⟨0, rfl, by omega, hid rfl, hid (by have := Kn.new (w.alloc (Obj.cells #[Value.slice ta l.length tc] 31)) l; simpa using this), hid ((Blk.new _ _ _).kept (below_alloc _)), hid (by exact blBy)⟩
  case round =>
    obtain ⟨j, rfl, hj, hg, HKN, hB, hb⟩ := hrel
    by_cases hlt : j < l.length
    · have h3 : (j : Int) < (l.length : Int) := by omega
      have HST : Hid (goodA l (l.drop j) j = (stepB l j l[j].t && goodA l (l.drop (j + 1)) (j + 1))) := hid (by rw [List.drop_eq_getElem_cons hlt, goodA])
      have HTY := hid (HT.out.ty _ (List.getElem_mem hlt))
      have HOK := hid (HK.out _ (List.getElem_mem hlt))
      obtain ⟨tb, tof, rfl, hbl, c0, c1, c2, c3, c4, c5⟩ := row6 (HT.out.row.kept hb.out) hlt
      have HPUT : Hid (∀ W, Kn W (w.heap.size + 1) l j → named (l.take j) l[j].t.name = false → ∃ w', (Instr.mapUpdate 75 (.map (some (w.heap.size + 1))) (.string (strOfNums l[j].t.name)) (.int .i64 (j : Int))).run Tryz.prog W = .ok () w' ∧ Kn w' (w.heap.size + 1) l (j + 1) ∧ W.grownBy w' (some (w.heap.size + 1))) := hid fun W hW hN => hW.put hlt (by omega) (fun v hv => (HK.out v hv).ok.nm) hN
      generalize l[j] = x at *
      obtain ⟨t, f, o, s, r⟩ := x
      obtain ⟨fa, fc, ef, -⟩ := rowS_sl HTY.out.f
      obtain ⟨oa, oc, eo, -⟩ := rowS_sl HTY.out.o
      obtain ⟨sa, sc, es, -⟩ := rowS_sl HTY.out.s
      obtain ⟨ra, rc, er, -⟩ := rowS_sl HTY.out.r
      dsimp only at ef eo es er
      subst ef eo es er
      dsimp only at c0 c1 c2 c3 c4 c5
      obtain ⟨c, hr, -⟩ := (HKN.out.kept (below_alloc (w := wr) (.cells #[.string (strOfNums t.name), .bool t.enum, .slice fa t.fs.length fc, .slice oa t.os.length oc, .slice sa t.ss.length sc, .slice ra t.rs.length rc] 53))).look HOK.out.ok.nm
      try dsimp only at hr
      have Ba := hB.out
      have xa := Ba.cellF
      have ya := Ba.frz
      have za : w.heap.size < wr.heap.size := Ba.lt
      cases q0 : named (l.take j) t.name with
      | true =>
        rw [q0] at hr
        have HF : Hid (goodB l = false) := hid (by rw [HX.out, hg.out, HST.out]; simp [stepB, q0])
        go_wp2
        go_ret
        exact ⟨ret_bool HF.out.symm, by have := hb.out; exact blBy⟩
      | false =>
      rw [q0] at hr
      go_wp2_with fail
      refine (isFullNameT _ t _ _ _ _ m (cell_below HM.out (by have := hb.out; exact blBy)) HOK.out.ok.nm.1 HOK.out.nl).mono ?_
      rintro e w1 ⟨rfl, hb1⟩
      have Bb : Blk (wr.alloc (.cells #[.string (strOfNums t.name), .bool t.enum, .slice fa t.fs.length fc, .slice oa t.os.length oc, .slice sa t.ss.length sc, .slice ra t.rs.length rc] 53)) wr.heap.size 53 #[.string (strOfNums t.name), .bool t.enum, .slice fa t.fs.length fc, .slice oa t.os.length oc, .slice sa t.ss.length sc, .slice ra t.rs.length rc] := Blk.new _ _ _
      have Ba := Ba.kept (below_alloc (.cells #[.string (strOfNums t.name), .bool t.enum, .slice fa t.fs.length fc, .slice oa t.os.length oc, .slice sa t.ss.length sc, .slice ra t.rs.length rc] 53))
      replace HKN := hid (HKN.out.kept (below_alloc (.cells #[.string (strOfNums t.name), .bool t.enum, .slice fa t.fs.length fc, .slice oa t.os.length oc, .slice sa t.ss.length sc, .slice ra t.rs.length rc] 53)))
      have xb : True := trivial
      have yb : True := trivial
      have zb : True := trivial
      clear hr
      replace Ba : Blk w1 w.heap.size 31 #[.slice (some ⟨tb, tof, none⟩) l.length tc] := Blk.kept (Ba.is (by first | rfl | simp)) hb1
      replace Bb : Blk w1 wr.heap.size 53 #[.string (strOfNums t.name), .bool t.enum, .slice fa t.fs.length fc, .slice oa t.os.length oc, .slice sa t.ss.length sc, .slice ra t.rs.length rc] := Blk.kept (Bb.is (by first | rfl | simp)) hb1
      replace HKN := hid (HKN.out.kept hb1)
      clear xa ya xb yb
      have hs1 := hb1.size
      try simp at hs1
      have xa := Ba.cellF
      have ya := Ba.frz
      replace za : w.heap.size < w1.heap.size := by omega
      have xb := Bb.cellF
      have yb := Bb.frz
      replace zb : wr.heap.size < w1.heap.size := by omega
      replace hb1 : Hid (Below w.heap.size w w1) := hid (bl_then (by have := hb.out; exact blBy) hb1)
      cases q1 : fullB t with
      | false =>
        have HF : Hid (goodB l = false) := hid (by rw [HX.out, hg.out, HST.out]; simp [stepB, q0, q1])
        go_wp2
        go_ret
        exact ⟨ret_bool HF.out.symm, by have := hb1.out; exact blBy⟩
      | true =>
      go_wp2_with fail
      refine (standsRightT _ l _ tc (w.heap.size + 1) j t.name (HT.out.kept (by have := hb1.out; exact blBy)) HKN.out HOK.out.ok.nm HOK.out.nl).mono ?_
      rintro e w2 ⟨rfl, hb2⟩
      replace Ba : Blk w2 w.heap.size 31 #[.slice (some ⟨tb, tof, none⟩) l.length tc] := Blk.kept (Ba.is (by first | rfl | simp)) hb2
      replace Bb : Blk w2 wr.heap.size 53 #[.string (strOfNums t.name), .bool t.enum, .slice fa t.fs.length fc, .slice oa t.os.length oc, .slice sa t.ss.length sc, .slice ra t.rs.length rc] := Blk.kept (Bb.is (by first | rfl | simp)) hb2
      replace HKN := hid (HKN.out.kept hb2)
      clear xa ya xb yb
      have hs2 := hb2.size
      try simp at hs2
      have xa := Ba.cellF
      have ya := Ba.frz
      replace za : w.heap.size < w2.heap.size := by omega
      have xb := Bb.cellF
      have yb := Bb.frz
      replace zb : wr.heap.size < w2.heap.size := by omega
      replace hb2 : Hid (Below w.heap.size w w2) := hid (bl_then hb1.out hb2)
      cases q2 : standB l j t.name with
      | false =>
        have HF : Hid (goodB l = false) := hid (by rw [HX.out, hg.out, HST.out]; simp [stepB, q0, q1, q2])
        go_wp2
        go_ret
        exact ⟨ret_bool HF.out.symm, by have := hb2.out; exact blBy⟩
      | true =>
      go_wp2_with fail
      refine (isGoodTypeT _ l _ tc t fa oa sa ra fc oc sc rc (HT.out.kept (by have := hb2.out; exact blBy)) (HTY.out.kept (by have := hb2.out; exact blBy)) HOK.out.ok HOK.out.sz).mono ?_
      rintro e w3 ⟨rfl, hb3⟩
      replace Ba : Blk w3 w.heap.size 31 #[.slice (some ⟨tb, tof, none⟩) l.length tc] := Blk.kept (Ba.is (by first | rfl | simp)) hb3
      replace Bb : Blk w3 wr.heap.size 53 #[.string (strOfNums t.name), .bool t.enum, .slice fa t.fs.length fc, .slice oa t.os.length oc, .slice sa t.ss.length sc, .slice ra t.rs.length rc] := Blk.kept (Bb.is (by first | rfl | simp)) hb3
      replace HKN := hid (HKN.out.kept hb3)
      clear xa ya xb yb
      have hs3 := hb3.size
      try simp at hs3
      have xa := Ba.cellF
      have ya := Ba.frz
      replace za : w.heap.size < w3.heap.size := by omega
      have xb := Bb.cellF
      have yb := Bb.frz
      replace zb : wr.heap.size < w3.heap.size := by omega
      replace hb3 : Hid (Below w.heap.size w w3) := hid (bl_then hb2.out hb3)
      cases q3 : typB l t with
      | false =>
        have HF : Hid (goodB l = false) := hid (by rw [HX.out, hg.out, HST.out]; simp [stepB, q0, q1, q2, q3])
        go_wp2
        go_ret
        exact ⟨ret_bool HF.out.symm, by have := hb3.out; exact blBy⟩
      | true =>
      obtain ⟨w4, hr4, hk4, hg4⟩ := HPUT.out w3 HKN.out q0
      try dsimp only at hr4
      have HK4 := hid hk4
      have HB4 : Hid (Blk w4 w.heap.size 31 #[.slice (some ⟨tb, tof, none⟩) l.length tc]) := hid ((hg4.block _ za (by simp)).trans Ba)
      have HL4 : Hid (Below w.heap.size w w4) := hid (hb3.out.trans (grown_below hg4 (by omega) (by omega)))
      clear hk4 hg4
      go_wp2
      exact ⟨⟨j + 1, by simp, by omega, hid (by rw [hg.out, HST.out]; simp [stepB, q0, q1, q2, q3]), HK4, HB4, HL4⟩, by simp [numAt]; omega⟩
    · have h3 : ¬ (j : Int) < (l.length : Int) := by omega
      have HF : Hid (goodB l = true) := hid (by rw [HX.out, hg.out, List.drop_of_length_le (by omega)]; rfl)
      go_wp2
      go_ret
      exact ⟨ret_bool HF.out.symm, hb.out⟩
end Go.Proofs.YtmcbllannkhfaaaGreatDoor
namespace Go.Proofs.YtmcbllannkhfaaaGreatDoor
open Go.RowKit
set_option maxRecDepth 1000000
set_option linter.unusedVariables false
set_option linter.unusedSimpArgs false
set_option maxHeartbeats 1000000
end Go.Proofs.YtmcbllannkhfaaaGreatDoor
namespace Go.Proofs.YtmcbllannkhfaaaGreatDoor
open Go.RowKit
set_option maxRecDepth 1000000
set_option linter.unusedVariables false
set_option linter.unusedSimpArgs false
set_option maxHeartbeats 1000000
theorem rowOf {w : World} {b : Nat} {t : TypeId} {cs : Array Value} (B : Blk w b t cs) (k n : Nat) (fl : List Value) (h : cs = fl.toArray) (hl : fl.length = n * k) (hn : n ≤ 9223372036854775807) : RowS w AnyZ k (.slice (some ⟨b, 0, none⟩) n n) n fl :=
  ⟨some ⟨b, 0, none⟩, n, rfl, hl, Nat.le_refl _, hn, .inr ⟨b, 0, rfl, trivial, fun j u hu => by
    rw [Nat.zero_add]
    exact B.cell j u (by rw [h, List.getElem?_toArray]; exact hu)⟩⟩
def simE (h : Nat) : TV := ⟨⟨[69], true, [], [], [⟨[65], 0⟩], []⟩, .slice none 0 0, .slice none 0 0, .slice (some ⟨h + 1, 0, none⟩) 1 1, .slice none 0 0⟩
def simF : List FT := [⟨[120], 1, 2, 0, 0, 0, 0⟩, ⟨[108], 2, 4, 0, 3, 0, 0⟩, ⟨[109], 3, 17, 1, 1, 0, 0⟩]
def simM (h : Nat) : TV := ⟨⟨[77], false, simF, [], [], []⟩, .slice (some ⟨h + 1 + 1, 0, none⟩) 3 3, .slice none 0 0, .slice none 0 0, .slice none 0 0⟩
def simL (h : Nat) : List TV := [simE h, simM h]
theorem simpleW (w : World) : Calls Tryz.prog 10 #[] w fun e w' => e = .returned (.agg #[.slice (some ⟨w.heap.size + 1 + 1 + 1, 0, none⟩) (simL w.heap.size).length 2]) ∧ TbR w' (.slice (some ⟨w.heap.size + 1 + 1 + 1, 0, none⟩) (simL w.heap.size).length 2) (simL w.heap.size) ∧ Below w.heap.size w w' := by
  have HT : Hid (∀ W : World, Blk W (w.heap.size + 1) 61 #[.string ⟨#[65]⟩, .int .i64 0] → Blk W (w.heap.size + 1 + 1) 55 #[.string ⟨#[120]⟩, .int .i64 1, .int .i64 2, .int .i64 0, .int .i64 0, .int .i64 0, .int .i64 0, .string ⟨#[108]⟩, .int .i64 2, .int .i64 4, .int .i64 0, .int .i64 3, .int .i64 0, .int .i64 0, .string ⟨#[109]⟩, .int .i64 3, .int .i64 17, .int .i64 1, .int .i64 1, .int .i64 0, .int .i64 0] → Blk W (w.heap.size + 1 + 1 + 1) 53 #[.string ⟨#[69]⟩, .bool true, .slice none 0 0, .slice none 0 0, .slice (some ⟨w.heap.size + 1, 0, none⟩) 1 1, .slice none 0 0, .string ⟨#[77]⟩, .bool false, .slice (some ⟨w.heap.size + 1 + 1, 0, none⟩) 3 3, .slice none 0 0, .slice none 0 0, .slice none 0 0] → TbR W (.slice (some ⟨w.heap.size + 1 + 1 + 1, 0, none⟩) (simL w.heap.size).length 2) (simL w.heap.size)) := hid fun W B1 B2 B3 => by
    refine ⟨rowOf B3 6 2 _ rfl rfl (by decide), fun x hx => ?_⟩
    rcases List.mem_cons.1 hx with rfl | hx
    · exact ⟨rowS_nil _ _ _, rowS_nil _ _ _, rowOf B1 2 1 _ rfl rfl (by decide), rowS_nil _ _ _⟩
    · rcases List.mem_cons.1 hx with rfl | hx
      · exact ⟨rowOf B2 7 3 _ rfl rfl (by decide), rowS_nil _ _ _, rowS_nil _ _ _, rowS_nil _ _ _⟩
      · cases hx
  go_enter Tryz.func10, Tryz.ntmps10
  go_wp2
  refine bodyPost_ret (v := .agg #[.slice (some ⟨w.heap.size + 1 + 1 + 1, 0, none⟩) 2 2]) (by simp [results, Tryz.results10, go_sem]) rfl ⟨rfl, HT.out _ ?_ ?_ ?_, by exact blBy⟩
  · exact ((Blk.newAt (by simp)).kept (below_alloc _)).kept (below_alloc _)
  · exact (Blk.newAt (by simp)).kept (below_alloc _)
  · exact Blk.newAt (by simp)
theorem simGood (h : Nat) : goodB (simL h) = true := by kernel_rfl
theorem simOk (h : Nat) : ∀ x ∈ simL h, OkV x := by
  have tx : ∀ n : List Int, n ∈ ([[69], [77], [65], [120], [108], [109]] : List (List Int)) → TxA n := by
    intro n hn
    simp only [List.mem_cons, List.not_mem_nil, or_false] at hn
    rcases hn with rfl | rfl | rfl | rfl | rfl | rfl <;> exact ⟨by decide, by decide⟩
  intro x hx
  rcases List.mem_cons.1 hx with rfl | hx
  · refine ⟨⟨tx _ (by simp [simE]), by simp [simE], by simp [simE], fun s hs => ?_⟩, by simp [simE], by simp [simE]⟩
    simp [simE] at hs
    subst hs
    exact ⟨tx _ (by simp), by unfold I64; decide⟩
  · rcases List.mem_cons.1 hx with rfl | hx
    · refine ⟨⟨tx _ (by simp [simM]), fun f hf => ?_, by simp [simM], by simp [simM]⟩, by simp [simM], by simp [simM, simF]⟩
      simp [simM, simF] at hf
      rcases hf with rfl | rfl | rfl <;> exact tx _ (by simp)
    · cases hx
end Go.Proofs.YtmcbllannkhfaaaGreatDoor
namespace Go.Proofs.YtmcbllannkhfaaaGreatDoor
open Go.ChangeShapes Go.WideShapes Go.ChangeAt Go.RowKit Go.Deep
set_option maxRecDepth 1000000
section
variable {H : Type}
theorem bulk_one (d : DataW H) : 1 ≤ Rows.uptoBulk d := by
  cases d with
  | lit l => cases l <;> simp [Rows.uptoBulk]
  | nil => simp [Rows.uptoBulk]
  | ptr d => simp [Rows.uptoBulk]
  | slice elems spare => simp [Rows.uptoBulk]
  | agg parts => simp [Rows.uptoBulk]
  | iface t d => simp [Rows.uptoBulk]
  | map entries => simp [Rows.uptoBulk]
  | held h => simp [Rows.uptoBulk]
theorem bulk_length (l : List (DataW H)) : l.length ≤ Rows.uptoBulkAll l := by
  induction l with
  | nil => simp [Rows.uptoBulkAll]
  | cons x r ih => have := bulk_one x; simp only [Rows.uptoBulkAll, List.length_cons]; omega
theorem small_le {l : List (DataW H)} (hk : Rows.uptoSmall H l = true) : Rows.uptoBulkAll l ≤ 1048576 := of_decide_eq_true hk
end
/-- The numbers of a string's bytes. -/
def numsS (s : ByteArray) : List Int := s.data.toList.map fun b => (b.toNat : Int)
theorem numsS_str (s : ByteArray) : strOfNums (numsS s) = s := by
  apply ByteArray.ext
  apply Array.ext'
  simp [strOfNums, numsS, Function.comp_def]
theorem numsS_bd (s : ByteArray) : ∀ x ∈ numsS s, 0 ≤ x ∧ x ≤ 255 := by
  intro x hx
  obtain ⟨b, _, rfl⟩ := List.mem_map.1 hx
  have := b.toNat_lt
  omega
theorem numsS_len (s : ByteArray) : (numsS s).length = s.data.toList.length := by simp [numsS]
end Go.Proofs.YtmcbllannkhfaaaGreatDoor
namespace Go.Proofs.YtmcbllannkhfaaaGreatDoor
open Go.ChangeShapes Go.WideShapes Go.ChangeAt Go.RowKit Go.Deep
set_option maxRecDepth 1000000
set_option linter.unusedVariables false
set_option linter.unusedSimpArgs false
set_option maxHeartbeats 1000000
section
variable {H : Type} {enc : TypeId × Value → H} {W : World} {spare : Nat → Bool} {held : Bool}
/-- A struct of fields of one cell each, opened. -/
theorem struct_open {t : TypeId} {fs : Array Field} (ht : Tryz.prog.underlying t = some (.struct fs)) (hone : oneCellFields Tryz.prog fs = true) (hsz : Tryz.prog.cellsOf t = fs.size) {fuel : Nat} {cs : List Value} {y : DataW H × List MemPlace} (h : DataW.trod enc Tryz.prog W 0 spare held fuel t cs = some y) :
    ∃ (xs : List (DataW H × List MemPlace)) (n : Nat), y.1 = .agg (xs.map (·.1)) ∧ xs.length = fs.size ∧ cs.length = fs.size ∧ ∀ (i : Nat) (f : Field), fs[i]? = some f → ∃ v yi, cs[i]? = some v ∧ xs[i]? = some yi ∧ DataW.trod enc Tryz.prog W 0 spare held n f.type [v] = some yi := by
  obtain ⟨xs, n, _, rfl, hl, hlen, hf⟩ := DataW.trod_struct ht h
  refine ⟨xs, n, rfl, hlen, hl.trans hsz, fun i f hi => ?_⟩
  have hlt : i < fs.size := (Array.getElem?_eq_some_iff.1 hi).1
  obtain ⟨o1, o2⟩ := hone_of hone i f hi
  have hc : i < cs.length := by omega
  have hx : i < xs.length := by omega
  refine ⟨cs[i], xs[i], by simp [hc], by simp [hx], ?_⟩
  have := hf i f hi
  have e : (cs.drop i).take 1 = [cs[i]] := by rw [List.drop_eq_getElem_cons hc]; rfl
  rw [o1, o2, e] at this
  rw [this]
  simp [hx]
theorem bulk_mem {l : List (DataW H)} {d : DataW H} (h : d ∈ l) : Rows.uptoBulk d ≤ Rows.uptoBulkAll l := by
  induction l with
  | nil => cases h
  | cons x r ih =>
    simp only [Rows.uptoBulkAll]
    rcases List.mem_cons.1 h with rfl | h
    · omega
    · have := ih h; omega
theorem bulk_get {xs : List (DataW H × List MemPlace)} {i : Nat} {y : DataW H × List MemPlace} (h : xs[i]? = some y) : Rows.uptoBulk y.1 + 1 ≤ Rows.uptoBulk (DataW.agg (xs.map (·.1))) := by
  have := bulk_mem (l := xs.map (·.1)) (d := y.1) (List.mem_map.2 ⟨y, List.mem_of_getElem? h, rfl⟩)
  simp only [Rows.uptoBulk]
  omega
/-- A row of structs, opened. -/
theorem rows_open {α : Type} (g : α → List Value) (K : Nat) (hK0 : 0 < K) (Q : α → DataW H → Prop) {t e : TypeId} (ht : Tryz.prog.underlying t = some (.slice e)) (hK : Tryz.prog.cellsOf e = K) (hg : ∀ x, (g x).length = K)
    (hel : ∀ (n : Nat) (cs : List Value) (y : DataW H × List MemPlace), DataW.trod enc Tryz.prog W 0 spare held n e cs = some y → ∃ x, cs = g x ∧ Q x y.1) {fuel : Nat} {v : Value} {y : DataW H × List MemPlace} (hf : DataW.trod enc Tryz.prog W 0 spare held fuel t [v] = some y) :
    ∃ (a : Option Addr) (cap : Nat) (xs : List α), v = .slice a xs.length cap ∧ RowS W AnyZ K v xs.length (xs.flatMap g) ∧ xs.length + 1 ≤ Rows.uptoBulk y.1 ∧ ∀ x ∈ xs, ∃ d, Q x d ∧ Rows.uptoBulk d ≤ Rows.uptoBulk y.1 := by
  rcases open_slice ht hf with ⟨hcs, rfl⟩ | ⟨a, len, cap, m, n, D, Pl, hcs, _, hl, hm, hmm, rfl, hx⟩
  · simp at hcs
    subst hcs
    exact ⟨none, 0, [], rfl, rowS_nil _ _ _, by simp [Rows.uptoBulk], fun x hx => by cases hx⟩
  · simp at hcs
    subst hcs
    rw [hK] at hx
    have hlm : len ≤ m := by rw [hmm]; split <;> omega
    have hc : ∀ i, i < len → ∃ x : α, W.cells? 0 (a.add (i * K)) K = some (g x) ∧ Q x (D i) := fun i hi => by
      obtain ⟨cs', h1, h2⟩ := hx i (by omega)
      obtain ⟨x, rfl, hq⟩ := hel _ _ _ h2
      exact ⟨x, h1, hq⟩
    obtain ⟨xs, hxl, hxs⟩ : ∃ xs : List α, xs.length = len ∧ ∀ i (h : i < xs.length), W.cells? 0 (a.add (i * K)) K = some (g xs[i]) ∧ Q xs[i] (D i) := by
      clear hx hl hlm hmm hf
      induction len with
      | zero => exact ⟨[], rfl, fun i h => by simp at h⟩
      | succ k ih =>
        obtain ⟨xs, h1, h2⟩ := ih (fun i hi => hc i (by omega))
        obtain ⟨x, h3, h4⟩ := hc k (by omega)
        refine ⟨xs ++ [x], by simp [h1], fun i h => ?_⟩
        by_cases e : i < xs.length
        · rw [List.getElem_append_left e]; exact h2 i e
        · have ei : i = k := by simp at h; omega
          subst ei
          rw [List.getElem_append_right (by omega)]
          simp [h1, h3, h4]
    subst hxl
    have hb : ∀ i, i < xs.length → D i ∈ (List.range xs.length).map D := fun i hi => List.mem_map.2 ⟨i, List.mem_range.2 hi, rfl⟩
    refine ⟨some a, cap, xs, rfl, ⟨some a, cap, rfl, flatM_len hg xs, hl, by unfold maxLen at hm; omega, ?_⟩, ?_, fun x hxm => ?_⟩
    · by_cases h0 : xs.length = 0
      · exact .inl ⟨h0, fun e => by cases e⟩
      · obtain ⟨b, off, spot⟩ := a
        have hspot : spot = none := by
          have h1 := (World.cells?_some (hxs 0 (by omega)).1).2.2 0 hK0
          have h2 : (g xs[0])[0]? = some ((g xs[0])[0]'(by rw [hg]; exact hK0)) := by simp
          rw [h2] at h1
          simpa [Addr.add] using World.cell?_spot h1
        subst hspot
        refine .inr ⟨b, off, rfl, trivial, fun j u hu => ?_⟩
        have hj : j < xs.length * K := by rw [← flatM_len hg xs]; exact (List.getElem?_eq_some_iff.1 hu).1
        have hi : j / K < xs.length := (Nat.div_lt_iff_lt_mul hK0).2 hj
        have hr : j % K < K := Nat.mod_lt _ hK0
        have hjj : j / K * K + j % K = j := by rw [Nat.mul_comm]; exact Nat.div_add_mod j K
        have h2 : (g xs[j / K])[j % K]? = some ((g xs[j / K])[j % K]'(by rw [hg]; exact hr)) := by simp
        have h3 := flatM_get hg xs (j / K) (j % K) xs[j / K] _ (by simp [hi]) h2
        rw [hjj] at h3
        rw [h3] at hu
        have h1 := (World.cells?_some (hxs (j / K) hi).1).2.2 (j % K) hr
        have hadd : ((⟨b, off, none⟩ : Addr).add (j / K * K)).add (j % K) = ⟨b, off + j, none⟩ := by
          have e1 : ∀ (o i : Nat), (⟨b, o, none⟩ : Addr).add i = ⟨b, o + i, none⟩ := fun o i => by unfold Addr.add; split <;> simp_all
          rw [e1, e1, Nat.add_assoc, hjj]
        rw [hadd, h2] at h1
        rw [h1]
        exact hu
    · simp only [Rows.uptoBulk]
      have := bulk_length ((List.range xs.length).map D)
      simp at this
      omega
    · obtain ⟨i, hi, rfl⟩ := List.mem_iff_getElem.1 hxm
      refine ⟨D i, (hxs i hi).2, ?_⟩
      have := bulk_mem (hb i hi)
      simp only [Rows.uptoBulk]
      omega
/-- What a text that was read is. -/
def okX (b : Nat) (x : List Int) : Prop := TxA x ∧ x.length + 1 ≤ b
theorem str_open {n : Nat} {v : Value} {y : DataW H × List MemPlace} (h : DataW.trod enc Tryz.prog W 0 spare held n 9 [v] = some y) : ∃ x : List Int, v = .string (strOfNums x) ∧ okX (Rows.uptoBulk y.1) x := by
  obtain ⟨s, e, rfl, hs⟩ := DataW.trod_string Tryz.underlying9 h
  simp at e
  subst e
  refine ⟨numsS s, by rw [numsS_str], ⟨numsS_bd s, ?_⟩, ?_⟩
  · rw [numsS_len]
    unfold maxLen at hs
    simpa using hs
  · rw [numsS_len]
    simp [Rows.uptoBulk]
theorem int_open {n : Nat} {v : Value} {y : DataW H × List MemPlace} (h : DataW.trod enc Tryz.prog W 0 spare held n 3 [v] = some y) : ∃ x : Int, v = .int .i64 x ∧ I64 x := by
  obtain ⟨x, e, rfl, hs⟩ := DataW.trod_int Tryz.underlying3 h
  simp at e
  subst e
  refine ⟨x, rfl, ?_⟩
  unfold I64
  simp [Lit.wf, IntKind.min, IntKind.max, IntKind.signed, IntKind.bits] at hs
  omega
end
end Go.Proofs.YtmcbllannkhfaaaGreatDoor
namespace Go.Proofs.YtmcbllannkhfaaaGreatDoor
open Go.ChangeShapes Go.WideShapes Go.ChangeAt Go.RowKit Go.Deep
set_option maxRecDepth 1000000
set_option linter.unusedVariables false
set_option linter.unusedSimpArgs false
set_option maxHeartbeats 1000000
theorem fieldsF : ∃ f0 f1 f2 f3 f4 f5 f6, Tryz.prog.underlying 55 = some (.struct #[f0, f1, f2, f3, f4, f5, f6]) ∧ oneCellFields Tryz.prog #[f0, f1, f2, f3, f4, f5, f6] = true ∧ Tryz.prog.cellsOf 55 = 7 ∧ f0.type = 9 ∧ f1.type = 3 ∧ f2.type = 3 ∧ f3.type = 3 ∧ f4.type = 3 ∧ f5.type = 3 ∧ f6.type = 3 :=
  ⟨_, _, _, _, _, _, _, Tryz.underlying55, by kernel_rfl, by kernel_rfl, by kernel_rfl, by kernel_rfl, by kernel_rfl, by kernel_rfl, by kernel_rfl, by kernel_rfl, by kernel_rfl⟩
theorem fieldsS : ∃ f0 f1, Tryz.prog.underlying 61 = some (.struct #[f0, f1]) ∧ oneCellFields Tryz.prog #[f0, f1] = true ∧ Tryz.prog.cellsOf 61 = 2 ∧ f0.type = 9 ∧ f1.type = 3 :=
  ⟨_, _, Tryz.underlying61, by kernel_rfl, by kernel_rfl, by kernel_rfl, by kernel_rfl⟩
theorem fieldsR : ∃ f0 f1, Tryz.prog.underlying 87 = some (.struct #[f0, f1]) ∧ oneCellFields Tryz.prog #[f0, f1] = true ∧ Tryz.prog.cellsOf 87 = 2 ∧ f0.type = 3 ∧ f1.type = 3 :=
  ⟨_, _, Tryz.underlying87, by kernel_rfl, by kernel_rfl, by kernel_rfl, by kernel_rfl⟩
theorem fieldsT : ∃ f0 f1 f2 f3 f4 f5, Tryz.prog.underlying 53 = some (.struct #[f0, f1, f2, f3, f4, f5]) ∧ oneCellFields Tryz.prog #[f0, f1, f2, f3, f4, f5] = true ∧ Tryz.prog.cellsOf 53 = 6 ∧ f0.type = 9 ∧ f1.type = 4 ∧ f2.type = 48 ∧ f3.type = 49 ∧ f4.type = 50 ∧ f5.type = 51 :=
  ⟨_, _, _, _, _, _, Tryz.underlying53, by kernel_rfl, by kernel_rfl, by kernel_rfl, by kernel_rfl, by kernel_rfl, by kernel_rfl, by kernel_rfl, by kernel_rfl⟩
theorem list_eq {cs : List Value} : ∀ (l : List Value), cs.length = l.length → (∀ (i : Nat) (v : Value), l[i]? = some v → cs[i]? = some v) → cs = l := fun l hl h => by
  apply List.ext_getElem? 
  intro i
  by_cases hi : i < l.length
  · rw [h i l[i] (by simp [hi])]; simp [hi]
  · rw [List.getElem?_eq_none (by omega), List.getElem?_eq_none (by omega)]
section
variable {H : Type} {enc : TypeId × Value → H} {W : World} {spare : Nat → Bool} {held : Bool}
theorem ft_open (n : Nat) (cs : List Value) (y : DataW H × List MemPlace) (h : DataW.trod enc Tryz.prog W 0 spare held n 55 cs = some y) : ∃ x : FT, cs = cFT x ∧ okX (Rows.uptoBulk y.1) x.name := by
  obtain ⟨f0, f1, f2, f3, f4, f5, f6, hs, hone, hsz, t0, t1, t2, t3, t4, t5, t6⟩ := fieldsF
  obtain ⟨xs, m, hy, hxl, hcl, hi⟩ := struct_open hs hone hsz h
  obtain ⟨v0, y0, c0, x0, h0⟩ := hi 0 f0 rfl
  rw [t0] at h0
  obtain ⟨v1, y1, c1, x1, h1⟩ := hi 1 f1 rfl
  rw [t1] at h1
  obtain ⟨v2, y2, c2, x2, h2⟩ := hi 2 f2 rfl
  rw [t2] at h2
  obtain ⟨v3, y3, c3, x3, h3⟩ := hi 3 f3 rfl
  rw [t3] at h3
  obtain ⟨v4, y4, c4, x4, h4⟩ := hi 4 f4 rfl
  rw [t4] at h4
  obtain ⟨v5, y5, c5, x5, h5⟩ := hi 5 f5 rfl
  rw [t5] at h5
  obtain ⟨v6, y6, c6, x6, h6⟩ := hi 6 f6 rfl
  rw [t6] at h6
  obtain ⟨a0, rfl, k0⟩ := str_open h0
  obtain ⟨a1, rfl, k1⟩ := int_open h1
  obtain ⟨a2, rfl, k2⟩ := int_open h2
  obtain ⟨a3, rfl, k3⟩ := int_open h3
  obtain ⟨a4, rfl, k4⟩ := int_open h4
  obtain ⟨a5, rfl, k5⟩ := int_open h5
  obtain ⟨a6, rfl, k6⟩ := int_open h6
  refine ⟨⟨a0, a1, a2, a3, a4, a5, a6⟩, list_eq _ (by rw [hcl]; rfl) fun i v hv => ?_, k0.1, ?_⟩
  · match i, hv with
    | 0, hv => simp [cFT] at hv; subst hv; exact c0
    | 1, hv => simp [cFT] at hv; subst hv; exact c1
    | 2, hv => simp [cFT] at hv; subst hv; exact c2
    | 3, hv => simp [cFT] at hv; subst hv; exact c3
    | 4, hv => simp [cFT] at hv; subst hv; exact c4
    | 5, hv => simp [cFT] at hv; subst hv; exact c5
    | 6, hv => simp [cFT] at hv; subst hv; exact c6
    | i + 7, hv => simp [cFT] at hv
  · have := bulk_get x0
    rw [hy]
    have := k0.2
    dsimp only
    omega
theorem sy_open (n : Nat) (cs : List Value) (y : DataW H × List MemPlace) (h : DataW.trod enc Tryz.prog W 0 spare held n 61 cs = some y) : ∃ x : SY, cs = cSY x ∧ (okX (Rows.uptoBulk y.1) x.name ∧ I64 x.num) := by
  obtain ⟨f0, f1, hs, hone, hsz, t0, t1⟩ := fieldsS
  obtain ⟨xs, m, hy, hxl, hcl, hi⟩ := struct_open hs hone hsz h
  obtain ⟨v0, y0, c0, x0, h0⟩ := hi 0 f0 rfl
  rw [t0] at h0
  obtain ⟨v1, y1, c1, x1, h1⟩ := hi 1 f1 rfl
  rw [t1] at h1
  obtain ⟨a0, rfl, k0⟩ := str_open h0
  obtain ⟨a1, rfl, k1⟩ := int_open h1
  refine ⟨⟨a0, a1⟩, list_eq _ (by rw [hcl]; rfl) fun i v hv => ?_, ⟨k0.1, ?_⟩, k1⟩
  · match i, hv with
    | 0, hv => simp [cSY] at hv; subst hv; exact c0
    | 1, hv => simp [cSY] at hv; subst hv; exact c1
    | i + 2, hv => simp [cSY] at hv
  · have := bulk_get x0
    rw [hy]
    have := k0.2
    dsimp only
    omega
theorem rg_open (n : Nat) (cs : List Value) (y : DataW H × List MemPlace) (h : DataW.trod enc Tryz.prog W 0 spare held n 87 cs = some y) : ∃ x : RG, cs = cRG x ∧ True := by
  obtain ⟨f0, f1, hs, hone, hsz, t0, t1⟩ := fieldsR
  obtain ⟨xs, m, hy, hxl, hcl, hi⟩ := struct_open hs hone hsz h
  obtain ⟨v0, y0, c0, x0, h0⟩ := hi 0 f0 rfl
  rw [t0] at h0
  obtain ⟨v1, y1, c1, x1, h1⟩ := hi 1 f1 rfl
  rw [t1] at h1
  obtain ⟨a0, rfl, k0⟩ := int_open h0
  obtain ⟨a1, rfl, k1⟩ := int_open h1
  refine ⟨⟨a0, a1⟩, list_eq _ (by rw [hcl]; rfl) fun i v hv => ?_, trivial⟩
  match i, hv with
  | 0, hv => simp [cRG] at hv; subst hv; exact c0
  | 1, hv => simp [cRG] at hv; subst hv; exact c1
  | i + 2, hv => simp [cRG] at hv
theorem st_open (n : Nat) (cs : List Value) (y : DataW H × List MemPlace) (h : DataW.trod enc Tryz.prog W 0 spare held n 9 cs = some y) : ∃ x : List Int, cs = cN x ∧ okX (Rows.uptoBulk y.1) x := by
  obtain ⟨s, e, _⟩ := DataW.trod_string Tryz.underlying9 h
  subst e
  obtain ⟨x, e, k⟩ := str_open h
  exact ⟨x, by rw [e]; rfl, k⟩
theorem tv_open (n : Nat) (cs : List Value) (y : DataW H × List MemPlace) (h : DataW.trod enc Tryz.prog W 0 spare held n 53 cs = some y) : ∃ x : TV, cs = cTV x ∧ (TyR W x ∧ (Rows.uptoBulk y.1 ≤ 1048576 → OkV x ∧ x.t.name.length < 4000000)) := by
  obtain ⟨f0, f1, f2, f3, f4, f5, hs, hone, hsz, t0, t1, t2, t3, t4, t5⟩ := fieldsT
  obtain ⟨xs, m, hy, hxl, hcl, hi⟩ := struct_open hs hone hsz h
  obtain ⟨v0, y0, c0, x0, h0⟩ := hi 0 f0 rfl
  rw [t0] at h0
  have b0 := bulk_get x0
  obtain ⟨v1, y1, c1, x1, h1⟩ := hi 1 f1 rfl
  rw [t1] at h1
  have b1 := bulk_get x1
  obtain ⟨v2, y2, c2, x2, h2⟩ := hi 2 f2 rfl
  rw [t2] at h2
  have b2 := bulk_get x2
  obtain ⟨v3, y3, c3, x3, h3⟩ := hi 3 f3 rfl
  rw [t3] at h3
  have b3 := bulk_get x3
  obtain ⟨v4, y4, c4, x4, h4⟩ := hi 4 f4 rfl
  rw [t4] at h4
  have b4 := bulk_get x4
  obtain ⟨v5, y5, c5, x5, h5⟩ := hi 5 f5 rfl
  rw [t5] at h5
  have b5 := bulk_get x5
  rw [← hy] at b0 b1 b2 b3 b4 b5
  obtain ⟨a0, rfl, k0⟩ := str_open h0
  obtain ⟨e1, he1, _⟩ := DataW.trod_bool Tryz.underlying4 h1
  simp at he1
  subst he1
  obtain ⟨fa, fc, fs, rfl, rf, lf, qf⟩ := rows_open cFT 7 (by decide) (fun x d => okX (Rows.uptoBulk d) x.name) Tryz.underlying48 (by kernel_rfl) (fun _ => rfl) ft_open h2
  obtain ⟨oa, oc, os, rfl, ro, lo, qo⟩ := rows_open cN 1 (by decide) (fun x d => okX (Rows.uptoBulk d) x) Tryz.underlying49 (by kernel_rfl) (fun _ => rfl) st_open h3
  obtain ⟨sa, sc, ss, rfl, rs, ls, qs⟩ := rows_open cSY 2 (by decide) (fun x d => okX (Rows.uptoBulk d) x.name ∧ I64 x.num) Tryz.underlying50 (by kernel_rfl) (fun _ => rfl) sy_open h4
  obtain ⟨ra, rc, gs, rfl, rr, lr, qr⟩ := rows_open cRG 2 (by decide) (fun _ _ => True) Tryz.underlying51 (by kernel_rfl) (fun _ => rfl) rg_open h5
  refine ⟨⟨⟨a0, e1, fs, os, ss, gs⟩, _, _, _, _⟩, list_eq _ (by rw [hcl]; rfl) fun i v hv => ?_, ⟨rf, ro, rs, rr⟩, fun hb => ⟨⟨⟨k0.1, fun x hx => ?_, fun x hx => ?_, fun x hx => ?_⟩, ?_, ?_⟩, ?_⟩⟩
  · match i, hv with
    | 0, hv => simp [cTV] at hv; subst hv; exact c0
    | 1, hv => simp [cTV] at hv; subst hv; exact c1
    | 2, hv => simp [cTV] at hv; subst hv; exact c2
    | 3, hv => simp [cTV] at hv; subst hv; exact c3
    | 4, hv => simp [cTV] at hv; subst hv; exact c4
    | 5, hv => simp [cTV] at hv; subst hv; exact c5
    | i + 6, hv => simp [cTV] at hv
  · obtain ⟨d, hd, _⟩ := qf x hx
    exact hd.1
  · obtain ⟨d, hd, _⟩ := qo x hx
    exact hd.1
  · obtain ⟨d, hd, _⟩ := qs x hx
    exact ⟨hd.1.1, hd.2⟩
  · have := k0.2
    dsimp only
    omega
  · dsimp only
    omega
  · have := k0.2
    dsimp only
    omega
theorem fieldsB : ∃ f0, Tryz.prog.underlying 31 = some (.struct #[f0]) ∧ oneCellFields Tryz.prog #[f0] = true ∧ Tryz.prog.cellsOf 31 = 1 ∧ Tryz.prog.underlying f0.type = some (.slice 53) :=
  ⟨_, Tryz.underlying31, by kernel_rfl, by kernel_rfl, by kernel_rfl⟩
theorem tb_open {n : Nat} {v : Value} {y : DataW H × List MemPlace} (h : DataW.trod enc Tryz.prog W 0 spare held n 31 [v] = some y) : ∃ (a : Option Addr) (c : Nat) (l : List TV), v = .slice a l.length c ∧ TbR W (.slice a l.length c) l ∧ (Rows.uptoBulk y.1 ≤ 1048576 → ∀ x ∈ l, OkV x ∧ x.t.name.length < 4000000) := by
  obtain ⟨f0, hs, hone, hsz, t0⟩ := fieldsB
  obtain ⟨xs, m, hy, hxl, hcl, hi⟩ := struct_open hs hone hsz h
  obtain ⟨v0, y0, c0, x0, h0⟩ := hi 0 f0 rfl
  simp at c0
  subst c0
  have b0 := bulk_get x0
  rw [← hy] at b0
  obtain ⟨a, c, l, rfl, r, hl, q⟩ := rows_open cTV 6 (by decide) (fun x d => TyR W x ∧ (Rows.uptoBulk d ≤ 1048576 → OkV x ∧ x.t.name.length < 4000000)) t0 (by kernel_rfl) (fun _ => rfl) tv_open h0
  exact ⟨a, c, l, rfl, ⟨r, fun x hx => by obtain ⟨d, hd, _⟩ := q x hx; exact hd.1⟩, fun hb x hx => by obtain ⟨d, hd, hdb⟩ := q x hx; exact hd.2 (by omega)⟩
end
end Go.Proofs.YtmcbllannkhfaaaGreatDoor
namespace Go.Proofs.YtmcbllannkhfaaaGreatDoor
open Go.ChangeShapes Go.WideShapes Go.ChangeAt Go.RowKit
set_option maxRecDepth 1000000
set_option maxRecDepth 100000
/-- The rows' list. -/
def laidL : List (String × DataW Unit) := [("unicode/utf8.acceptRanges", Rows.laid_unicode_utf8_acceptRanges), ("unicode/utf8.first", Rows.laid_unicode_utf8_first)]
theorem laid_plain {W : World} (h : laidMetH Tryz.prog laidL W) : laidMet Tryz.prog laidL W := h
/-- A block's cells laid anew. -/
noncomputable def layAt (g : Nat) (cs : Array Value) (w : World) : World := { w with heap := w.heap.modify g fun
      | .cells _ t frozen => .cells cs t frozen
      | o => o }
def numV : DataW Unit → Value
  | .lit (.int k n) => .int k n
  | _ => undef
def ldRow : DataW Unit → List Value
  | .agg ds => ds.map numV
  | _ => []
def ldRows : DataW Unit → List Value
  | .agg ds => ds.flatMap ldRow
  | _ => []
noncomputable def laidWorld (os : Os) : World :=
  layAt 2 (List.toArray (ldRows Rows.laid_unicode_utf8_acceptRanges)) (layAt 1 (List.toArray (ldRow Rows.laid_unicode_utf8_first)) (World.holding Tryz.prog os ⟨#[], #[], []⟩))
theorem laid_met (os : Os) (args : Array Value) : laidMet Tryz.prog laidL ((laidWorld os).forCall (fun _ _ => 0) ⟨#[], args, []⟩).memory :=
  laidMet_of_run' 8 (by kernel_rfl) (by kernel_rfl)
theorem maxLen_cell {W : World} (h : W.ShapedOpen Tryz.prog) : ∃ m, W.cell? ⟨0, 0, none⟩ = some (.int .i64 m) :=
  Go.Proofs.cell_of_shapedOpen_int (zero := #[.int .i64 0]) (t := 3) h (of_decide_eq_true (by kernel_rfl)) (by kernel_rfl) rfl (by kernel_rfl) (by kernel_rfl) Tryz.underlying3
end Go.Proofs.YtmcbllannkhfaaaGreatDoor
namespace Go.Proofs.YtmcbllannkhfaaaGreatDoor
open Go.RowKit
set_option maxRecDepth 1000000
set_option linter.unusedVariables false
set_option linter.unusedSimpArgs false
set_option maxHeartbeats 1000000
structure IN where
  op : Int
  a : Int
  b : Int
  c : Int
  d : Int
structure LN where
  tag : Int
  pl : Int
def cIN (x : IN) : List Value := [.int .i64 x.op, .int .i64 x.a, .int .i64 x.b, .int .i64 x.c, .int .i64 x.d]
def cLN (x : LN) : List Value := [.int .i64 x.tag, .int .i64 x.pl]
def vIN (x : IN) : Value := .agg #[.int .i64 x.op, .int .i64 x.a, .int .i64 x.b, .int .i64 x.c, .int .i64 x.d]
/-- A step with these numbers. -/
def insV (op : Int) (ns : List Int) : IN := ⟨op, ns[0]?.getD 0, ns[1]?.getD 0, ns[2]?.getD 0, ns[3]?.getD 0⟩
/-- The wire kind in which a field's values stand. -/
def wireV (f : FT) : Int := if f.lab = 5 then 2 else max (kwire f.kind) 0
def rowsV (f : FT) : Bool := decide (f.lab = 2 ∨ f.lab = 3) && knum f.kind
def tagV (n k : Int) : Int := n * 8 + k
def clrP (f o : FT) : Bool := decide (o.lab = 4) && decide (o.one = f.one)
def clrS (o : FT) : IN := insV 9 [o.num]
def clrL (fs : List FT) (f : FT) : List IN := if f.lab = 4 then (fs.filter (clrP f)).map clrS else []
def becV (l : Int) : Int := if l = 2 then 1 else if l = 4 then 2 else 0
def putV (l : Int) : Int := if l = 2 ∨ l = 3 then 8 else 7
/-- What follows the Case of a value. -/
def valL (fs : List FT) (f : FT) : List IN :=
  if f.lab = 5 then [insV 12 [f.num, f.key, f.kind, f.ref]]
  else if f.kind = 17 then clrL fs f ++ [insV 10 [f.num, f.ref, becV f.lab]]
  else [insV 5 [f.kind]] ++ (if f.kind = 16 then [insV 6 [f.ref]] else []) ++ clrL fs f ++ [insV (putV f.lab) [f.num]]
def rowL (f : FT) : List IN := [insV 11 [f.num, f.kind, if f.kind = 16 then f.ref + 1 else 0]]
/-- A Case at the place n. -/
def caseL (n : Nat) (tag : Int) (body : List IN) : List IN := insV 2 [tag, ((n + 1 + body.length + 1 : Nat) : Int)] :: (body ++ [insV 4 [0]])
def case1 (fs : List FT) (acc : List IN) (f : FT) : List IN := acc ++ caseL acc.length (tagV f.num (wireV f)) (valL fs f)
def case2 (acc : List IN) (f : FT) : List IN := if rowsV f = true then acc ++ caseL acc.length (tagV f.num 2) (rowL f) else acc
def decS (fs : List FT) (acc : List IN) (f : FT) : List IN := case2 (case1 fs acc f) f
def decL (fs : List FT) : List IN := fs.foldl (decS fs) [insV 1 []] ++ [insV 13 [], insV 4 [0]]
def wrtL (f : FT) : List IN :=
  if f.lab = 5 then [insV 22 [tagV f.num (wireV f), f.key, f.kind, f.ref]]
  else if f.lab = 3 then [insV 21 [tagV f.num 2, f.kind]]
  else if f.lab = 2 then [insV 20 [tagV f.num (wireV f), f.kind, f.ref]]
  else [insV 17 [tagV f.num (wireV f)], if f.kind = 17 then insV 19 [f.ref] else insV 18 [f.kind]]
def encS (acc : List IN) (f : FT) : List IN := acc ++ insV 16 [f.num, ((acc.length + 1 + (wrtL f).length : Nat) : Int), if f.lab = 0 then f.kind else 0] :: wrtL f
def encL (fs : List FT) : List IN := fs.foldl encS [] ++ [insV 23 [], insV 24 []]
/-- What is known of a good table's field. -/
structure FOk (f : FT) : Prop where
  num : 1 ≤ f.num ∧ f.num ≤ 536870911
  kind : 1 ≤ f.kind ∧ f.kind ≤ 17
  lab : 0 ≤ f.lab ∧ f.lab ≤ 5
  ref : 0 ≤ f.ref ∧ f.ref < 128
end Go.Proofs.YtmcbllannkhfaaaGreatDoor
namespace Go.Proofs.YtmcbllannkhfaaaGreatDoor
open Go.RowKit
set_option maxRecDepth 1000000
set_option linter.unusedVariables false
set_option linter.unusedSimpArgs false
set_option maxHeartbeats 1000000
/-- copy of n structs of s cells into a row of one's own, from wherever they lie. -/
theorem run_copy_rowS (P : Program) (w : World) (dT sT ty elem : TypeId) (g o dLen dCap : Nat) (a : Addr) (sLen sCap : Nat) (cur : Array Value) (t : TypeId) (cs : List Value) (s n : Nat)
    (hu : P.underlying dT = some (.slice elem)) (hs : (P.info? elem).map (·.size) = some s)
    (hg : w.heap[g]? = some (.cells cur t (0, 0))) (hn : n = Nat.min sLen dLen) (hcl : cs.length = n * s)
    (hsrc : ∀ j v, cs[j]? = some v → w.cell? (a.add j) = some v) (hfit : o + cs.length ≤ cur.size) (h1 : ∀ v ∈ cs, v.oneCell' = true) :
    (Builtin.copy_ #[dT, sT] ty #[.slice (some ⟨g, o, none⟩) dLen dCap, .slice (some a) sLen sCap]).run P w =
      .ok (goInt n) (w.setRow g (cur.toList.take o ++ cs ++ cur.toList.drop (o + cs.length)).toArray) := by
  have hl := run_loadCells_list (P := P) w a cs hsrc
  have hst := run_storeCells_at P g o t cs 0 cur w hg (by simpa using hfit) h1
  cases hq : P.info? elem with
  | none => simp [hq] at hs
  | some i =>
    have hi : i.size = s := by simpa [hq] using hs
    rw [hcl] at hl
    simp [Builtin.copy_, run_underlying hu, Builtin.lenOf, Builtin.firstCells, sizeOf, typeInfo, hq, hi, ← hn, hl, hst]
theorem setRow_new (w : World) (cs cs' : Array Value) (t : TypeId) : (w.alloc (.cells cs t)).setRow w.heap.size cs' = w.alloc (.cells cs' t) := by
  simp only [World.setRow, World.alloc]
  congr 1
  apply Array.ext
  · simp
  · intro i h1 h2
    simp at h1 h2
    rw [Array.getElem_modify]
    by_cases hi : i = w.heap.size
    · subst hi; simp
    · rw [if_neg (fun e => hi e.symm), Array.getElem_push_lt (by omega), Array.getElem_push_lt (by omega)]
def all4 (ns : List Int) : Array Value := #[.int .i64 (ns[0]?.getD 0), .int .i64 (ns[1]?.getD 0), .int .i64 (ns[2]?.getD 0), .int .i64 (ns[3]?.getD 0)]
theorem all4_eq : ∀ (ns : List Int), ns.length ≤ 4 → (ns.flatMap cI64 ++ ([.int .i64 0, .int .i64 0, .int .i64 0, .int .i64 0] : List Value).drop (ns.flatMap cI64).length).toArray = all4 ns
  | [], _ => rfl
  | [_], _ => rfl
  | [_, _], _ => rfl
  | [_, _, _], _ => rfl
  | [_, _, _, _], _ => rfl
  | _ :: _ :: _ :: _ :: _ :: _, h => by simp at h
theorem szInt : (Tryz.prog.info? 3).map (·.size) = some 1 := by kernel_rfl
theorem cI_one (ns : List Int) : ∀ u ∈ ns.flatMap cI64, u.oneCell' = true := by
  intro u hu
  simp [cI64] at hu
  obtain ⟨_, _, rfl⟩ := hu
  rfl
theorem copy4 (w : World) (ns : List Int) (hl : ns.length ≤ 4) (na : Option Addr) (nc : Nat) (h : RowS w AnyZ 1 (.slice na ns.length nc) ns.length (ns.flatMap cI64)) (A : Obj) :
    (Builtin.copy_ #[58, 58] 3 #[.slice (some ⟨w.heap.size + 1, 0, none⟩) 4 4, .slice na ns.length nc]).run Tryz.prog ((w.alloc A).alloc (.cells #[.int .i64 0, .int .i64 0, .int .i64 0, .int .i64 0] 156)) = .ok (goInt ns.length) ((w.alloc A).alloc (.cells (all4 ns) 156)) := by
  have h' := (h.kept (below_alloc A)).kept (below_alloc (.cells #[.int .i64 0, .int .i64 0, .int .i64 0, .int .i64 0] 156))
  obtain ⟨a, c, e, hv⟩ := h'
  cases e
  have hN : (w.alloc A).heap.size = w.heap.size + 1 := by simp
  rw [← hN]
  have main : ∀ (a0 : Addr), (∀ j u, (ns.flatMap cI64)[j]? = some u → ((w.alloc A).alloc (.cells #[.int .i64 0, .int .i64 0, .int .i64 0, .int .i64 0] 156)).cell? (a0.add j) = some u) → (Builtin.copy_ #[58, 58] 3 #[.slice (some ⟨(w.alloc A).heap.size, 0, none⟩) 4 4, .slice (some a0) ns.length nc]).run Tryz.prog ((w.alloc A).alloc (.cells #[.int .i64 0, .int .i64 0, .int .i64 0, .int .i64 0] 156)) = .ok (goInt ns.length) ((w.alloc A).alloc (.cells (all4 ns) 156)) := by
    intro a0 hc
    have hlen : (ns.flatMap cI64).length = ns.length * 1 := flatM_len (g := cI64) (fun _ => rfl) ns
    rw [run_copy_rowS Tryz.prog _ 58 58 3 3 (w.alloc A).heap.size 0 4 4 a0 ns.length nc #[.int .i64 0, .int .i64 0, .int .i64 0, .int .i64 0] 156 (ns.flatMap cI64) 1 ns.length Tryz.underlying58 szInt (Blk.new _ _ _) (by simp only [Nat.min_def]; split <;> omega) hlen hc (by simp [hlen]; omega) (cI_one ns)]
    rw [setRow_new]
    simp only [List.take_zero, List.nil_append, Nat.zero_add]
    rw [all4_eq ns hl]
  rcases hv.cells with ⟨h0, hn⟩ | ⟨b, off, rfl, _, hc⟩
  · cases na with
    | some a0 =>
      have : ns = [] := List.eq_nil_of_length_eq_zero h0
      subst this
      exact main a0 (by simp)
    | none =>
      have : ns = [] := List.eq_nil_of_length_eq_zero h0
      subst this
      obtain ⟨i0, hi0, hz0⟩ : ∃ i, Tryz.prog.info? 3 = some i ∧ i.size = 1 := by
        have := szInt
        cases hq : Tryz.prog.info? 3 with
        | none => rw [hq] at this; cases this
        | some i => rw [hq] at this; exact ⟨i, rfl, by simpa using this⟩
      simp [Builtin.copy_, run_underlying Tryz.underlying58, Builtin.lenOf, Builtin.firstCells, sizeOf, typeInfo, hi0, hz0, all4, storeCells]
  · refine main ⟨b, off, none⟩ (fun j u hu => ?_)
    have hadd : (⟨b, off, none⟩ : Addr).add j = ⟨b, off + j, none⟩ := by unfold Addr.add; split <;> simp_all
    rw [hadd]
    exact hc j u hu
theorem stepT (w : World) (op : Int) (ns : List Int) (hl : ns.length ≤ 4) (na : Option Addr) (nc : Nat) (h : RowS w AnyZ 1 (.slice na ns.length nc) ns.length (ns.flatMap cI64)) : Calls Tryz.prog 118 #[.int .i64 op, .slice na ns.length nc] w fun e w' => e = .returned (vIN (insV op ns)) ∧ Below w.heap.size w w' := by
  have hcp := copy4 w ns hl na nc h (.cells #[.int .i64 0, .int .i64 0, .int .i64 0, .int .i64 0, .int .i64 0] 57)
  have HX : Hid (vIN (insV op ns) = .agg #[.int .i64 op, .int .i64 (ns[0]?.getD 0), .int .i64 (ns[1]?.getD 0), .int .i64 (ns[2]?.getD 0), .int .i64 (ns[3]?.getD 0)]) := hid rfl
  unfold all4 at hcp
  clear h hl
  generalize ns[0]?.getD 0 = n0 at *
  generalize ns[1]?.getD 0 = n1 at *
  generalize ns[2]?.getD 0 = n2 at *
  generalize ns[3]?.getD 0 = n3 at *
  go_enter Tryz.func118, Tryz.ntmps118
  go_wp2
  exact bodyPost_ret (v := .agg #[.int .i64 op, .int .i64 n0, .int .i64 n1, .int .i64 n2, .int .i64 n3]) (by simp [results, Tryz.results118, go_sem]) rfl ⟨by rw [HX.out], by exact blBy⟩
end Go.Proofs.YtmcbllannkhfaaaGreatDoor
