/-
  What is around a type.
  A table is good: what the program answers.
  A type by its name: both answers.
  The table of the examples.
  What comes in, opened: strings; and what the bound on it says.
  A table that comes in, opened.
  A table that comes in, opened: fields, symbols, ranges, types.
  The variables of Go's library that the rows list: a world that lays them; the one that is named alone.
  Steps of programs, and the steps that a type is lowered to.
  A step of its numbers.
  Steps laid one behind the other.
  A step whose place is known later.
  A Case and what follows it.
-/
import Derived.Test.YtmcbllannkhfaaaGreatDoorCTP
import Derived.ProofKit
import Derived.OpenShut
import Derived.ShutString
import Derived.Lib.SmallJoins
import Derived.Deep.Slices
import Derived.Deep.Fields
import Derived.Test.YtmcbllannkhfaaaGreatDoorRows
import Derived.Stop.LaidErr
import Derived.Deep.DeepHandedRow
import Derived.Deep.DeepWitnessRowRef
import Derived.LaidLaws
import Derived.Test.YtmcbllannkhfaaaGreatDoorCTA
import Derived.Test.YtmcbllannkhfaaaGreatDoorCTI
import Derived.Laws.CopyRow
import Derived.Laws.CopyOwn
import Derived.Lib.AppendZerosOnto
import Derived.Lib.AppendZeros
import Derived.Shelf.RegionOpenPlain
import Derived.Deep.RegionHeld3
import Derived.Laws.BitsLemmas
namespace Go.Proofs.YtmcbllannkhfaaaGreatDoor
open Go.RowKit
set_option maxRecDepth 1000000
set_option linter.unusedVariables false
set_option linter.unusedSimpArgs false
set_option maxHeartbeats 1000000
def lastD (x : List Int) : Int := Lib.lastIndexByte (strOfNums x) 46
theorem lastD_is (x : List Int) : lastD x = -1 ∨ ∃ i : Nat, lastD x = i ∧ i < x.length := by
  rcases Lib.lastIndexByte_spec (strOfNums x) 46 with ⟨e, _⟩ | ⟨i, hi, e, _⟩
  · exact .inl e
  · exact .inr ⟨i, e, by rw [strOfNums_size] at hi; exact hi⟩
theorem lastT (x : List Int) (w : World) (h : x.length < 4611686018427387904) : Calls Tryz.prog 64 #[.string (strOfNums x), .string dotS] w fun e w' => e = .returned (.int .i64 (lastD x)) ∧ w = w' := by
  refine (Tryz.strings_LastIndex_one (strOfNums x) dotS rfl (by rw [strOfNums_size]; exact h) w).mono ?_
  rintro e w' ⟨rfl, rfl⟩
  exact ⟨rfl, rfl⟩
def standB (l : List TV) (i : Nat) (x : List Int) : Bool := if lastD x < 0 then true else match (l.take i).find? (fun v => v.t.name == x.take (lastD x).toNat) with
  | none => false
  | some v => !v.t.enum
theorem standsRightT (w : World) (l : List TV) (ta : Option Addr) (tc : Nat) (b i : Nat) (x : List Int) (h : TbR w (.slice ta l.length tc) l) (hk : Kn w b l i) (hx : TxA x) (hl : x.length < 4294967281) : Calls Tryz.prog 40 #[.agg #[.slice ta l.length tc], .map (some b), .string (strOfNums x)] w fun e w' => e = .returned (.bool (standB l i x)) ∧ Below w.heap.size w w' := by
  have HX : Hid (standB l i x = if lastD x < 0 then true else match (l.take i).find? (fun v => v.t.name == x.take (lastD x).toNat) with
  | none => false
  | some v => !v.t.enum) := hid rfl
  have HC : Hid (∀ W, Calls Tryz.prog 64 #[.string (strOfNums x), .string dotS] W fun e w' => e = .returned (.int .i64 (lastD x)) ∧ W = w') := hid fun W => lastT x W (by omega)
  obtain ⟨_, _, e, hn⟩ := rowS_sl h.row
  clear e
  have h1 : (l.length : Int) ≤ 9223372036854775807 := by omega
  have HT := hid h
  have HK := hid hk
  rcases lastD_is x with e | ⟨k, e, hkx⟩
  · rw [e] at HX HC
    replace HX := hid (show standB l i x = true by rw [HX.out]; rfl)
    clear h hk hx
    go_enter Tryz.func40, Tryz.ntmps40
    go_wp2_with (first | (go_at_call 64; refine (HC.out _).mono ?_; rintro e w1 ⟨rfl, rfl⟩))
    go_ret
    exact ⟨ret_bool HX.out.symm, by exact blBy⟩
  rw [e] at HX HC
  have hy : TxA (x.take k) := ⟨fun c hc => hx.1 c (List.mem_of_mem_take hc), by have := hx.2; simp; omega⟩
  have HS : Hid ((strOfNums x).extract 0 k = strOfNums (x.take k)) := hid (by rw [str_cut]; rfl)
  have HSZ : (strOfNums x).size = x.length := strOfNums_size x
  replace HX := hid (show standB l i x = match (l.take i).find? (fun v => v.t.name == x.take k) with
  | none => false
  | some v => !v.t.enum by rw [HX.out, if_neg (by omega)]; rfl)
  have k0 : ¬ (k : Int) < 0 := by omega
  have hkx' : (k : Int) < (x.length : Int) := by omega
  obtain ⟨c, hr, hc⟩ := (HK.out.kept (below_alloc (w := w) (.cells #[.slice ta l.length tc] 31))).look hy
  rw [← HS.out] at hr
  cases hf : (l.take i).find? (fun v => v.t.name == x.take k) with
  | none =>
    have hno : named (l.take i) (x.take k) = false := by
      unfold named
      rw [List.any_eq_false]
      intro v hv
      exact List.find?_eq_none.1 hf v hv
    replace HX := hid (show standB l i x = false by rw [HX.out, hf])
    rw [hno] at hr
    clear h hk hx hno hf hc
    go_enter Tryz.func40, Tryz.ntmps40
    go_wp2_with (first | (go_at_call 64; refine (HC.out _).mono ?_; rintro e w1 ⟨rfl, rfl⟩))
    go_ret
    exact ⟨ret_bool HX.out.symm, by exact blBy⟩
  | some v =>
    have hyes : named (l.take i) (x.take k) = true := by
      unfold named
      rw [List.any_eq_true]
      exact ⟨v, List.mem_of_find?_eq_some hf, by simpa using List.find?_some hf⟩
    obtain ⟨j, hj, ej⟩ := List.mem_take_iff_getElem.1 (List.mem_of_find?_eq_some hf)
    have hjl : j < l.length := by omega
    have hcj : c = (j : Int) := hc j hjl (by omega) (by rw [ej]; simpa using List.find?_some hf)
    subst hcj
    replace HX := hid (show standB l i x = !l[j].t.enum by rw [HX.out, hf, ej])
    rw [hyes] at hr
    have hjl' : (j : Int) < (l.length : Int) := by omega
    obtain ⟨tb, tof, rfl, hbl, -, c1, -⟩ := row6 HT.out.row hjl
    clear h hk hx hyes hf hc ej
    generalize l[j].t.enum = en at *
    go_enter Tryz.func40, Tryz.ntmps40
    go_wp2_with (first | (go_at_call 64; refine (HC.out _).mono ?_; rintro e w1 ⟨rfl, rfl⟩))
    go_ret
    exact ⟨ret_bool HX.out.symm, by exact blBy⟩
end Go.Proofs.YtmcbllannkhfaaaGreatDoor
namespace Go.Proofs.YtmcbllannkhfaaaGreatDoor
open Go.RowKit
set_option maxRecDepth 1000000
set_option linter.unusedVariables false
set_option linter.unusedSimpArgs false
set_option maxHeartbeats 1000000
/-- What is asked of a table: that its texts and numbers can be. -/
structure OkV (x : TV) : Prop where
  ok : OkT x.t
  nl : x.t.name.length < 4294967281
  sz : x.t.fs.length + x.t.os.length + x.t.rs.length ≤ 9223372036854775807
def stepB (l : List TV) (j : Nat) (t : TT) : Bool := !named (l.take j) t.name && (fullB t && (standB l j t.name && typB l t))
def goodA (l : List TV) : List TV → Nat → Bool
  | [], _ => true
  | x :: r, j => stepB l j x.t && goodA l r (j + 1)
def goodB (l : List TV) : Bool := decide (l.length ≤ 128) && goodA l l 0
theorem run_makeMap0 {P : Program} (t : TypeId) (w : World) {ki e : TypeId} (ht : P.underlying t = some (.map ki e)) : (Instr.makeMap t none).run P w = .ok (.map (some w.heap.size)) (w.alloc (.map #[] 0)) := by
  simp [Instr.makeMap, run_underlying ht, Result.andThen]
theorem goodT (w : World) (l : List TV) (ta : Option Addr) (tc : Nat) (h : TbR w (.slice ta l.length tc) l) (hk : ∀ x ∈ l, OkV x) (m : Int) (hm : w.cell? ⟨0, 0, none⟩ = some (.int .i64 m)) : Calls Tryz.prog 21 #[.agg #[.slice ta l.length tc]] w fun e w' => e = .returned (.bool (goodB l)) ∧ Below w.heap.size w w' := by
  obtain ⟨_, _, e, hn⟩ := rowS_sl h.row
  clear e
  have h1 : (l.length : Int) ≤ 9223372036854775807 := by omega
  have HT := hid h
  have HK := hid hk
  have HM := hid hm
  clear h hk hm
  have HX : Hid (goodB l = (decide (l.length ≤ 128) && goodA l l 0)) := hid rfl
  by_cases hbig : 128 < l.length
  case pos =>
    have h2 : (128 : Int) < (l.length : Int) := by omega
    replace HX := hid (show goodB l = false by rw [HX.out, decide_eq_false (by omega)]; rfl)
    go_enter Tryz.func21, Tryz.ntmps21
    go_wp2
    go_ret
    exact ⟨ret_bool HX.out.symm, by exact blBy⟩
  have h2 : ¬ (128 : Int) < (l.length : Int) := by omega
  replace HX := hid (show goodB l = goodA l l 0 by rw [HX.out, decide_eq_true (by omega)]; rfl)
  have hmk := fun W => run_makeMap0 (P := Tryz.prog) 75 W Tryz.underlying75
  go_enter Tryz.func21, Tryz.ntmps21
  go_wp2
  clear hmk
  go_loopw [16] (fun r wr => ∃ j : Nat, r = .int .i64 j ∧ j ≤ l.length ∧ Hid (goodA l l 0 = goodA l (l.drop j) j) ∧ Hid (Kn wr (w.heap.size + 1) l j) ∧ Hid (Blk wr w.heap.size 31 #[.slice ta l.length tc]) ∧ Hid (Below w.heap.size w wr)) (fun r wr => l.length - numAt wr r)
  case atStart => exact ⟨0, rfl, by omega, hid rfl, hid (by have := Kn.new (w.alloc (Obj.cells #[Value.slice ta l.length tc] 31)) l; simpa using this), hid ((Blk.new _ _ _).kept (below_alloc _)), hid (by exact blBy)⟩
  case round =>
    obtain ⟨j, rfl, hj, hg, HKN, hB, hb⟩ := hrel
    by_cases hlt : j < l.length
    · have h3 : (j : Int) < (l.length : Int) := by omega
      have HST : Hid (goodA l (l.drop j) j = (stepB l j l[j].t && goodA l (l.drop (j + 1)) (j + 1))) := hid (by rw [List.drop_eq_getElem_cons hlt, goodA])
      have HTY := hid (HT.out.ty _ (List.getElem_mem hlt))
      have HOK := hid (HK.out _ (List.getElem_mem hlt))
      obtain ⟨tb, tof, rfl, hbl, c0, c1, c2, c3, c4, c5⟩ := row6 (HT.out.row.kept hb.out) hlt
      have HPUT : Hid (∀ W, Kn W (w.heap.size + 1) l j → named (l.take j) l[j].t.name = false → ∃ w', (Instr.mapUpdate 75 (.map (some (w.heap.size + 1))) (.string (strOfNums l[j].t.name)) (.int .i64 (j : Int))).run Tryz.prog W = .ok () w' ∧ Kn w' (w.heap.size + 1) l (j + 1) ∧ W.grownBy w' (some (w.heap.size + 1))) := hid fun W hW hN => hW.put hlt (by omega) (fun v hv => (HK.out v hv).ok.nm) hN
      generalize l[j] = x at *
      obtain ⟨t, f, o, s, r⟩ := x
      obtain ⟨fa, fc, ef, -⟩ := rowS_sl HTY.out.f
      obtain ⟨oa, oc, eo, -⟩ := rowS_sl HTY.out.o
      obtain ⟨sa, sc, es, -⟩ := rowS_sl HTY.out.s
      obtain ⟨ra, rc, er, -⟩ := rowS_sl HTY.out.r
      dsimp only at ef eo es er
      subst ef eo es er
      dsimp only at c0 c1 c2 c3 c4 c5
      obtain ⟨c, hr, -⟩ := (HKN.out.kept (below_alloc (w := wr) (.cells #[.string (strOfNums t.name), .bool t.enum, .slice fa t.fs.length fc, .slice oa t.os.length oc, .slice sa t.ss.length sc, .slice ra t.rs.length rc] 53))).look HOK.out.ok.nm
      try dsimp only at hr
      have Ba := hB.out
      have xa := Ba.cellF
      have ya := Ba.frz
      have za : w.heap.size < wr.heap.size := Ba.lt
      cases q0 : named (l.take j) t.name with
      | true =>
        rw [q0] at hr
        have HF : Hid (goodB l = false) := hid (by rw [HX.out, hg.out, HST.out]; simp [stepB, q0])
        go_wp2
        go_ret
        exact ⟨ret_bool HF.out.symm, by have := hb.out; exact blBy⟩
      | false =>
      rw [q0] at hr
      go_wp2_with fail
      refine (isFullNameT _ t _ _ _ _ m (cell_below HM.out (by have := hb.out; exact blBy)) HOK.out.ok.nm.1 HOK.out.nl).mono ?_
      rintro e w1 ⟨rfl, hb1⟩
      have Bb : Blk (wr.alloc (.cells #[.string (strOfNums t.name), .bool t.enum, .slice fa t.fs.length fc, .slice oa t.os.length oc, .slice sa t.ss.length sc, .slice ra t.rs.length rc] 53)) wr.heap.size 53 #[.string (strOfNums t.name), .bool t.enum, .slice fa t.fs.length fc, .slice oa t.os.length oc, .slice sa t.ss.length sc, .slice ra t.rs.length rc] := Blk.new _ _ _
      have Ba := Ba.kept (below_alloc (.cells #[.string (strOfNums t.name), .bool t.enum, .slice fa t.fs.length fc, .slice oa t.os.length oc, .slice sa t.ss.length sc, .slice ra t.rs.length rc] 53))
      replace HKN := hid (HKN.out.kept (below_alloc (.cells #[.string (strOfNums t.name), .bool t.enum, .slice fa t.fs.length fc, .slice oa t.os.length oc, .slice sa t.ss.length sc, .slice ra t.rs.length rc] 53)))
      have xb : True := trivial
      have yb : True := trivial
      have zb : True := trivial
      clear hr
      replace Ba : Blk w1 w.heap.size 31 #[.slice (some ⟨tb, tof, none⟩) l.length tc] := Blk.kept (Ba.is (by first | rfl | simp)) hb1
      replace Bb : Blk w1 wr.heap.size 53 #[.string (strOfNums t.name), .bool t.enum, .slice fa t.fs.length fc, .slice oa t.os.length oc, .slice sa t.ss.length sc, .slice ra t.rs.length rc] := Blk.kept (Bb.is (by first | rfl | simp)) hb1
      replace HKN := hid (HKN.out.kept hb1)
      clear xa ya xb yb
      have hs1 := hb1.size
      try simp at hs1
      have xa := Ba.cellF
      have ya := Ba.frz
      replace za : w.heap.size < w1.heap.size := by omega
      have xb := Bb.cellF
      have yb := Bb.frz
      replace zb : wr.heap.size < w1.heap.size := by omega
      replace hb1 : Hid (Below w.heap.size w w1) := hid (bl_then (by have := hb.out; exact blBy) hb1)
      cases q1 : fullB t with
      | false =>
        have HF : Hid (goodB l = false) := hid (by rw [HX.out, hg.out, HST.out]; simp [stepB, q0, q1])
        go_wp2
        go_ret
        exact ⟨ret_bool HF.out.symm, by have := hb1.out; exact blBy⟩
      | true =>
      go_wp2_with fail
      refine (standsRightT _ l _ tc (w.heap.size + 1) j t.name (HT.out.kept (by have := hb1.out; exact blBy)) HKN.out HOK.out.ok.nm HOK.out.nl).mono ?_
      rintro e w2 ⟨rfl, hb2⟩
      replace Ba : Blk w2 w.heap.size 31 #[.slice (some ⟨tb, tof, none⟩) l.length tc] := Blk.kept (Ba.is (by first | rfl | simp)) hb2
      replace Bb : Blk w2 wr.heap.size 53 #[.string (strOfNums t.name), .bool t.enum, .slice fa t.fs.length fc, .slice oa t.os.length oc, .slice sa t.ss.length sc, .slice ra t.rs.length rc] := Blk.kept (Bb.is (by first | rfl | simp)) hb2
      replace HKN := hid (HKN.out.kept hb2)
      clear xa ya xb yb
      have hs2 := hb2.size
      try simp at hs2
      have xa := Ba.cellF
      have ya := Ba.frz
      replace za : w.heap.size < w2.heap.size := by omega
      have xb := Bb.cellF
      have yb := Bb.frz
      replace zb : wr.heap.size < w2.heap.size := by omega
      replace hb2 : Hid (Below w.heap.size w w2) := hid (bl_then hb1.out hb2)
      cases q2 : standB l j t.name with
      | false =>
        have HF : Hid (goodB l = false) := hid (by rw [HX.out, hg.out, HST.out]; simp [stepB, q0, q1, q2])
        go_wp2
        go_ret
        exact ⟨ret_bool HF.out.symm, by have := hb2.out; exact blBy⟩
      | true =>
      go_wp2_with fail
      refine (isGoodTypeT _ l _ tc t fa oa sa ra fc oc sc rc (HT.out.kept (by have := hb2.out; exact blBy)) (HTY.out.kept (by have := hb2.out; exact blBy)) HOK.out.ok HOK.out.sz).mono ?_
      rintro e w3 ⟨rfl, hb3⟩
      replace Ba : Blk w3 w.heap.size 31 #[.slice (some ⟨tb, tof, none⟩) l.length tc] := Blk.kept (Ba.is (by first | rfl | simp)) hb3
      replace Bb : Blk w3 wr.heap.size 53 #[.string (strOfNums t.name), .bool t.enum, .slice fa t.fs.length fc, .slice oa t.os.length oc, .slice sa t.ss.length sc, .slice ra t.rs.length rc] := Blk.kept (Bb.is (by first | rfl | simp)) hb3
      replace HKN := hid (HKN.out.kept hb3)
      clear xa ya xb yb
      have hs3 := hb3.size
      try simp at hs3
      have xa := Ba.cellF
      have ya := Ba.frz
      replace za : w.heap.size < w3.heap.size := by omega
      have xb := Bb.cellF
      have yb := Bb.frz
      replace zb : wr.heap.size < w3.heap.size := by omega
      replace hb3 : Hid (Below w.heap.size w w3) := hid (bl_then hb2.out hb3)
      cases q3 : typB l t with
      | false =>
        have HF : Hid (goodB l = false) := hid (by rw [HX.out, hg.out, HST.out]; simp [stepB, q0, q1, q2, q3])
        go_wp2
        go_ret
        exact ⟨ret_bool HF.out.symm, by have := hb3.out; exact blBy⟩
      | true =>
      obtain ⟨w4, hr4, hk4, hg4⟩ := HPUT.out w3 HKN.out q0
      try dsimp only at hr4
      have HK4 := hid hk4
      have HB4 : Hid (Blk w4 w.heap.size 31 #[.slice (some ⟨tb, tof, none⟩) l.length tc]) := hid ((hg4.block _ za (by simp)).trans Ba)
      have HL4 : Hid (Below w.heap.size w w4) := hid (hb3.out.trans (grown_below hg4 (by omega) (by omega)))
      clear hk4 hg4
      go_wp2
      exact ⟨⟨j + 1, by simp, by omega, hid (by rw [hg.out, HST.out]; simp [stepB, q0, q1, q2, q3]), HK4, HB4, HL4⟩, by simp [numAt]; omega⟩
    · have h3 : ¬ (j : Int) < (l.length : Int) := by omega
      have HF : Hid (goodB l = true) := hid (by rw [HX.out, hg.out, List.drop_of_length_le (by omega)]; rfl)
      go_wp2
      go_ret
      exact ⟨ret_bool HF.out.symm, hb.out⟩
end Go.Proofs.YtmcbllannkhfaaaGreatDoor
namespace Go.Proofs.YtmcbllannkhfaaaGreatDoor
open Go.RowKit
set_option maxRecDepth 1000000
set_option linter.unusedVariables false
set_option linter.unusedSimpArgs false
set_option maxHeartbeats 1000000
end Go.Proofs.YtmcbllannkhfaaaGreatDoor
namespace Go.Proofs.YtmcbllannkhfaaaGreatDoor
open Go.RowKit
set_option maxRecDepth 1000000
set_option linter.unusedVariables false
set_option linter.unusedSimpArgs false
set_option maxHeartbeats 1000000
theorem rowOf {w : World} {b : Nat} {t : TypeId} {cs : Array Value} (B : Blk w b t cs) (k n : Nat) (fl : List Value) (h : cs = fl.toArray) (hl : fl.length = n * k) (hn : n ≤ 9223372036854775807) : RowS w AnyZ k (.slice (some ⟨b, 0, none⟩) n n) n fl :=
  ⟨some ⟨b, 0, none⟩, n, rfl, hl, Nat.le_refl _, hn, .inr ⟨b, 0, rfl, trivial, fun j u hu => by
    rw [Nat.zero_add]
    exact B.cell j u (by rw [h, List.getElem?_toArray]; exact hu)⟩⟩
def simE (h : Nat) : TV := ⟨⟨[69], true, [], [], [⟨[65], 0⟩], []⟩, .slice none 0 0, .slice none 0 0, .slice (some ⟨h + 1, 0, none⟩) 1 1, .slice none 0 0⟩
def simF : List FT := [⟨[120], 1, 2, 0, 0, 0, 0⟩, ⟨[108], 2, 4, 0, 3, 0, 0⟩, ⟨[109], 3, 17, 1, 1, 0, 0⟩]
def simM (h : Nat) : TV := ⟨⟨[77], false, simF, [], [], []⟩, .slice (some ⟨h + 1 + 1, 0, none⟩) 3 3, .slice none 0 0, .slice none 0 0, .slice none 0 0⟩
def simL (h : Nat) : List TV := [simE h, simM h]
theorem simpleW (w : World) : Calls Tryz.prog 10 #[] w fun e w' => e = .returned (.agg #[.slice (some ⟨w.heap.size + 1 + 1 + 1, 0, none⟩) (simL w.heap.size).length 2]) ∧ TbR w' (.slice (some ⟨w.heap.size + 1 + 1 + 1, 0, none⟩) (simL w.heap.size).length 2) (simL w.heap.size) ∧ Below w.heap.size w w' := by
  have HT : Hid (∀ W : World, Blk W (w.heap.size + 1) 61 #[.string ⟨#[65]⟩, .int .i64 0] → Blk W (w.heap.size + 1 + 1) 55 #[.string ⟨#[120]⟩, .int .i64 1, .int .i64 2, .int .i64 0, .int .i64 0, .int .i64 0, .int .i64 0, .string ⟨#[108]⟩, .int .i64 2, .int .i64 4, .int .i64 0, .int .i64 3, .int .i64 0, .int .i64 0, .string ⟨#[109]⟩, .int .i64 3, .int .i64 17, .int .i64 1, .int .i64 1, .int .i64 0, .int .i64 0] → Blk W (w.heap.size + 1 + 1 + 1) 53 #[.string ⟨#[69]⟩, .bool true, .slice none 0 0, .slice none 0 0, .slice (some ⟨w.heap.size + 1, 0, none⟩) 1 1, .slice none 0 0, .string ⟨#[77]⟩, .bool false, .slice (some ⟨w.heap.size + 1 + 1, 0, none⟩) 3 3, .slice none 0 0, .slice none 0 0, .slice none 0 0] → TbR W (.slice (some ⟨w.heap.size + 1 + 1 + 1, 0, none⟩) (simL w.heap.size).length 2) (simL w.heap.size)) := hid fun W B1 B2 B3 => by
    refine ⟨rowOf B3 6 2 _ rfl rfl (by decide), fun x hx => ?_⟩
    rcases List.mem_cons.1 hx with rfl | hx
    · exact ⟨rowS_nil _ _ _, rowS_nil _ _ _, rowOf B1 2 1 _ rfl rfl (by decide), rowS_nil _ _ _⟩
    · rcases List.mem_cons.1 hx with rfl | hx
      · exact ⟨rowOf B2 7 3 _ rfl rfl (by decide), rowS_nil _ _ _, rowS_nil _ _ _, rowS_nil _ _ _⟩
      · cases hx
  go_enter Tryz.func10, Tryz.ntmps10
  go_wp2
  refine bodyPost_ret (v := .agg #[.slice (some ⟨w.heap.size + 1 + 1 + 1, 0, none⟩) 2 2]) (by simp [results, Tryz.results10, go_sem]) rfl ⟨rfl, HT.out _ ?_ ?_ ?_, by exact blBy⟩
  · exact ((Blk.newAt (by simp)).kept (below_alloc _)).kept (below_alloc _)
  · exact (Blk.newAt (by simp)).kept (below_alloc _)
  · exact Blk.newAt (by simp)
theorem simGood (h : Nat) : goodB (simL h) = true := by kernel_rfl
theorem simOk (h : Nat) : ∀ x ∈ simL h, OkV x := by
  have tx : ∀ n : List Int, n ∈ ([[69], [77], [65], [120], [108], [109]] : List (List Int)) → TxA n := by
    intro n hn
    simp only [List.mem_cons, List.not_mem_nil, or_false] at hn
    rcases hn with rfl | rfl | rfl | rfl | rfl | rfl <;> exact ⟨by decide, by decide⟩
  intro x hx
  rcases List.mem_cons.1 hx with rfl | hx
  · refine ⟨⟨tx _ (by simp [simE]), by simp [simE], by simp [simE], fun s hs => ?_⟩, by simp [simE], by simp [simE]⟩
    simp [simE] at hs
    subst hs
    exact ⟨tx _ (by simp), by unfold I64; decide⟩
  · rcases List.mem_cons.1 hx with rfl | hx
    · refine ⟨⟨tx _ (by simp [simM]), fun f hf => ?_, by simp [simM], by simp [simM]⟩, by simp [simM], by simp [simM, simF]⟩
      simp [simM, simF] at hf
      rcases hf with rfl | rfl | rfl <;> exact tx _ (by simp)
    · cases hx
end Go.Proofs.YtmcbllannkhfaaaGreatDoor
namespace Go.Proofs.YtmcbllannkhfaaaGreatDoor
open Go.ChangeShapes Go.WideShapes Go.ChangeAt Go.RowKit Go.Deep
set_option maxRecDepth 1000000
section
variable {H : Type}
end
end Go.Proofs.YtmcbllannkhfaaaGreatDoor
namespace Go.Proofs.YtmcbllannkhfaaaGreatDoor
open Go.ChangeShapes Go.WideShapes Go.ChangeAt Go.RowKit Go.Deep
set_option maxRecDepth 1000000
set_option linter.unusedVariables false
set_option linter.unusedSimpArgs false
set_option maxHeartbeats 1000000
section
variable {H : Type} {enc : TypeId × Value → H} {W : World} {spare : Nat → Bool} {held : Bool}
end
end Go.Proofs.YtmcbllannkhfaaaGreatDoor
namespace Go.Proofs.YtmcbllannkhfaaaGreatDoor
open Go.ChangeShapes Go.WideShapes Go.ChangeAt Go.RowKit Go.Deep
set_option maxRecDepth 1000000
set_option linter.unusedVariables false
set_option linter.unusedSimpArgs false
set_option maxHeartbeats 1000000
section
variable {H : Type} {enc : TypeId × Value → H} {W : World} {spare : Nat → Bool} {held : Bool}
end
end Go.Proofs.YtmcbllannkhfaaaGreatDoor
namespace Go.Proofs.YtmcbllannkhfaaaGreatDoor
open Go.ChangeShapes Go.WideShapes Go.ChangeAt Go.RowKit
set_option maxRecDepth 1000000
set_option maxRecDepth 100000
/-- The rows' list. -/
def laidL : List (String × DataW Unit) := [("unicode/utf8.acceptRanges", Rows.laid_unicode_utf8_acceptRanges), ("unicode/utf8.first", Rows.laid_unicode_utf8_first)]
theorem laid_plain {W : World} (h : laidMetH Tryz.prog laidL W) : laidMet Tryz.prog laidL W := h
/-- A block's cells laid anew. -/
noncomputable def layAt (g : Nat) (cs : Array Value) (w : World) : World := { w with heap := w.heap.modify g fun
      | .cells _ t frozen => .cells cs t frozen
      | o => o }
def numV : DataW Unit → Value
  | .lit (.int k n) => .int k n
  | _ => undef
def ldRow : DataW Unit → List Value
  | .agg ds => ds.map numV
  | _ => []
def ldRows : DataW Unit → List Value
  | .agg ds => ds.flatMap ldRow
  | _ => []
noncomputable def laidWorld (os : Os) : World :=
  layAt 2 (List.toArray (ldRows Rows.laid_unicode_utf8_acceptRanges)) (layAt 1 (List.toArray (ldRow Rows.laid_unicode_utf8_first)) (World.holding Tryz.prog os ⟨#[], #[], []⟩))
theorem laid_met (os : Os) (args : Array Value) : laidMet Tryz.prog laidL ((laidWorld os).forCall (fun _ _ => 0) ⟨#[], args, []⟩).memory :=
  laidMet_of_run' 8 (by kernel_rfl) (by kernel_rfl)
theorem maxLen_cell {W : World} (h : W.ShapedOpen Tryz.prog) : ∃ m, W.cell? ⟨0, 0, none⟩ = some (.int .i64 m) :=
  Go.Proofs.cell_of_shapedOpen_int (zero := #[.int .i64 0]) (t := 3) h (of_decide_eq_true (by kernel_rfl)) (by kernel_rfl) rfl (by kernel_rfl) (by kernel_rfl) Tryz.underlying3
end Go.Proofs.YtmcbllannkhfaaaGreatDoor
namespace Go.Proofs.YtmcbllannkhfaaaGreatDoor
open Go.RowKit
set_option maxRecDepth 1000000
set_option linter.unusedVariables false
set_option linter.unusedSimpArgs false
set_option maxHeartbeats 1000000
structure IN where
  op : Int
  a : Int
  b : Int
  c : Int
  d : Int
structure LN where
  tag : Int
  pl : Int
def cIN (x : IN) : List Value := [.int .i64 x.op, .int .i64 x.a, .int .i64 x.b, .int .i64 x.c, .int .i64 x.d]
def cLN (x : LN) : List Value := [.int .i64 x.tag, .int .i64 x.pl]
def vIN (x : IN) : Value := .agg #[.int .i64 x.op, .int .i64 x.a, .int .i64 x.b, .int .i64 x.c, .int .i64 x.d]
/-- A step with these numbers. -/
def insV (op : Int) (ns : List Int) : IN := ⟨op, ns[0]?.getD 0, ns[1]?.getD 0, ns[2]?.getD 0, ns[3]?.getD 0⟩
/-- The wire kind in which a field's values stand. -/
def wireV (f : FT) : Int := if f.lab = 5 then 2 else max (kwire f.kind) 0
def rowsV (f : FT) : Bool := decide (f.lab = 2 ∨ f.lab = 3) && knum f.kind
def tagV (n k : Int) : Int := n * 8 + k
def clrP (f o : FT) : Bool := decide (o.lab = 4) && decide (o.one = f.one)
def clrS (o : FT) : IN := insV 9 [o.num]
def clrL (fs : List FT) (f : FT) : List IN := if f.lab = 4 then (fs.filter (clrP f)).map clrS else []
def becV (l : Int) : Int := if l = 2 then 1 else if l = 4 then 2 else 0
def putV (l : Int) : Int := if l = 2 ∨ l = 3 then 8 else 7
/-- What follows the Case of a value. -/
def valL (fs : List FT) (f : FT) : List IN :=
  if f.lab = 5 then [insV 12 [f.num, f.key, f.kind, f.ref]]
  else if f.kind = 17 then clrL fs f ++ [insV 10 [f.num, f.ref, becV f.lab]]
  else [insV 5 [f.kind]] ++ (if f.kind = 16 then [insV 6 [f.ref]] else []) ++ clrL fs f ++ [insV (putV f.lab) [f.num]]
def rowL (f : FT) : List IN := [insV 11 [f.num, f.kind, if f.kind = 16 then f.ref + 1 else 0]]
/-- A Case at the place n. -/
def caseL (n : Nat) (tag : Int) (body : List IN) : List IN := insV 2 [tag, ((n + 1 + body.length + 1 : Nat) : Int)] :: (body ++ [insV 4 [0]])
def case1 (fs : List FT) (acc : List IN) (f : FT) : List IN := acc ++ caseL acc.length (tagV f.num (wireV f)) (valL fs f)
def case2 (acc : List IN) (f : FT) : List IN := if rowsV f = true then acc ++ caseL acc.length (tagV f.num 2) (rowL f) else acc
def decS (fs : List FT) (acc : List IN) (f : FT) : List IN := case2 (case1 fs acc f) f
def decL (fs : List FT) : List IN := fs.foldl (decS fs) [insV 1 []] ++ [insV 13 [], insV 4 [0]]
def wrtL (f : FT) : List IN :=
  if f.lab = 5 then [insV 22 [tagV f.num (wireV f), f.key, f.kind, f.ref]]
  else if f.lab = 3 then [insV 21 [tagV f.num 2, f.kind]]
  else if f.lab = 2 then [insV 20 [tagV f.num (wireV f), f.kind, f.ref]]
  else [insV 17 [tagV f.num (wireV f)], if f.kind = 17 then insV 19 [f.ref] else insV 18 [f.kind]]
def encS (acc : List IN) (f : FT) : List IN := acc ++ insV 16 [f.num, ((acc.length + 1 + (wrtL f).length : Nat) : Int), if f.lab = 0 then f.kind else 0] :: wrtL f
def encL (fs : List FT) : List IN := fs.foldl encS [] ++ [insV 23 [], insV 24 []]
/-- What is known of a good table's field. -/
structure FOk (f : FT) : Prop where
  num : 1 ≤ f.num ∧ f.num ≤ 536870911
  kind : 1 ≤ f.kind ∧ f.kind ≤ 17
  lab : 0 ≤ f.lab ∧ f.lab ≤ 5
  ref : 0 ≤ f.ref ∧ f.ref < 128
end Go.Proofs.YtmcbllannkhfaaaGreatDoor
namespace Go.Proofs.YtmcbllannkhfaaaGreatDoor
open Go.RowKit
set_option maxRecDepth 1000000
set_option linter.unusedVariables false
set_option linter.unusedSimpArgs false
set_option maxHeartbeats 1000000
/-- copy of n structs of s cells into a row of one's own, from wherever they lie. -/
theorem run_copy_rowS (P : Program) (w : World) (dT sT ty elem : TypeId) (g o dLen dCap : Nat) (a : Addr) (sLen sCap : Nat) (cur : Array Value) (t : TypeId) (cs : List Value) (s n : Nat)
    (hu : P.underlying dT = some (.slice elem)) (hs : (P.info? elem).map (·.size) = some s)
    (hg : w.heap[g]? = some (.cells cur t (0, 0))) (hn : n = Nat.min sLen dLen) (hcl : cs.length = n * s)
    (hsrc : ∀ j v, cs[j]? = some v → w.cell? (a.add j) = some v) (hfit : o + cs.length ≤ cur.size) (h1 : ∀ v ∈ cs, v.oneCell' = true) :
    (Builtin.copy_ #[dT, sT] ty #[.slice (some ⟨g, o, none⟩) dLen dCap, .slice (some a) sLen sCap]).run P w =
      .ok (goInt n) (w.setRow g (cur.toList.take o ++ cs ++ cur.toList.drop (o + cs.length)).toArray) := by
  have hl := run_loadCells_list (P := P) w a cs hsrc
  have hst := run_storeCells_at P g o t cs 0 cur w hg (by simpa using hfit) h1
  cases hq : P.info? elem with
  | none => simp [hq] at hs
  | some i =>
    have hi : i.size = s := by simpa [hq] using hs
    rw [hcl] at hl
    simp [Builtin.copy_, run_underlying hu, Builtin.lenOf, Builtin.firstCells, sizeOf, typeInfo, hq, hi, ← hn, hl, hst]
theorem setRow_new (w : World) (cs cs' : Array Value) (t : TypeId) : (w.alloc (.cells cs t)).setRow w.heap.size cs' = w.alloc (.cells cs' t) := by
  simp only [World.setRow, World.alloc]
  congr 1
  apply Array.ext
  · simp
  · intro i h1 h2
    simp at h1 h2
    rw [Array.getElem_modify]
    by_cases hi : i = w.heap.size
    · subst hi; simp
    · rw [if_neg (fun e => hi e.symm), Array.getElem_push_lt (by omega), Array.getElem_push_lt (by omega)]
def all4 (ns : List Int) : Array Value := #[.int .i64 (ns[0]?.getD 0), .int .i64 (ns[1]?.getD 0), .int .i64 (ns[2]?.getD 0), .int .i64 (ns[3]?.getD 0)]
theorem all4_eq : ∀ (ns : List Int), ns.length ≤ 4 → (ns.flatMap cI64 ++ ([.int .i64 0, .int .i64 0, .int .i64 0, .int .i64 0] : List Value).drop (ns.flatMap cI64).length).toArray = all4 ns
  | [], _ => rfl
  | [_], _ => rfl
  | [_, _], _ => rfl
  | [_, _, _], _ => rfl
  | [_, _, _, _], _ => rfl
  | _ :: _ :: _ :: _ :: _ :: _, h => by simp at h
theorem szInt : (Tryz.prog.info? 3).map (·.size) = some 1 := by kernel_rfl
theorem cI_one (ns : List Int) : ∀ u ∈ ns.flatMap cI64, u.oneCell' = true := by
  intro u hu
  simp [cI64] at hu
  obtain ⟨_, _, rfl⟩ := hu
  rfl
theorem copy4 (w : World) (ns : List Int) (hl : ns.length ≤ 4) (na : Option Addr) (nc : Nat) (h : RowS w AnyZ 1 (.slice na ns.length nc) ns.length (ns.flatMap cI64)) (A : Obj) :
    (Builtin.copy_ #[58, 58] 3 #[.slice (some ⟨w.heap.size + 1, 0, none⟩) 4 4, .slice na ns.length nc]).run Tryz.prog ((w.alloc A).alloc (.cells #[.int .i64 0, .int .i64 0, .int .i64 0, .int .i64 0] 156)) = .ok (goInt ns.length) ((w.alloc A).alloc (.cells (all4 ns) 156)) := by
  have h' := (h.kept (below_alloc A)).kept (below_alloc (.cells #[.int .i64 0, .int .i64 0, .int .i64 0, .int .i64 0] 156))
  obtain ⟨a, c, e, hv⟩ := h'
  cases e
  have hN : (w.alloc A).heap.size = w.heap.size + 1 := by simp
  rw [← hN]
  have main : ∀ (a0 : Addr), (∀ j u, (ns.flatMap cI64)[j]? = some u → ((w.alloc A).alloc (.cells #[.int .i64 0, .int .i64 0, .int .i64 0, .int .i64 0] 156)).cell? (a0.add j) = some u) → (Builtin.copy_ #[58, 58] 3 #[.slice (some ⟨(w.alloc A).heap.size, 0, none⟩) 4 4, .slice (some a0) ns.length nc]).run Tryz.prog ((w.alloc A).alloc (.cells #[.int .i64 0, .int .i64 0, .int .i64 0, .int .i64 0] 156)) = .ok (goInt ns.length) ((w.alloc A).alloc (.cells (all4 ns) 156)) := by
    intro a0 hc
    have hlen : (ns.flatMap cI64).length = ns.length * 1 := flatM_len (g := cI64) (fun _ => rfl) ns
    rw [run_copy_rowS Tryz.prog _ 58 58 3 3 (w.alloc A).heap.size 0 4 4 a0 ns.length nc #[.int .i64 0, .int .i64 0, .int .i64 0, .int .i64 0] 156 (ns.flatMap cI64) 1 ns.length Tryz.underlying58 szInt (Blk.new _ _ _) (by simp only [Nat.min_def]; split <;> omega) hlen hc (by simp [hlen]; omega) (cI_one ns)]
    rw [setRow_new]
    simp only [List.take_zero, List.nil_append, Nat.zero_add]
    rw [all4_eq ns hl]
  rcases hv.cells with ⟨h0, hn⟩ | ⟨b, off, rfl, _, hc⟩
  · cases na with
    | some a0 =>
      have : ns = [] := List.eq_nil_of_length_eq_zero h0
      subst this
      exact main a0 (by simp)
    | none =>
      have : ns = [] := List.eq_nil_of_length_eq_zero h0
      subst this
      obtain ⟨i0, hi0, hz0⟩ : ∃ i, Tryz.prog.info? 3 = some i ∧ i.size = 1 := by
        have := szInt
        cases hq : Tryz.prog.info? 3 with
        | none => rw [hq] at this; cases this
        | some i => rw [hq] at this; exact ⟨i, rfl, by simpa using this⟩
      simp [Builtin.copy_, run_underlying Tryz.underlying58, Builtin.lenOf, Builtin.firstCells, sizeOf, typeInfo, hi0, hz0, all4, storeCells]
  · refine main ⟨b, off, none⟩ (fun j u hu => ?_)
    have hadd : (⟨b, off, none⟩ : Addr).add j = ⟨b, off + j, none⟩ := by unfold Addr.add; split <;> simp_all
    rw [hadd]
    exact hc j u hu
theorem stepT (w : World) (op : Int) (ns : List Int) (hl : ns.length ≤ 4) (na : Option Addr) (nc : Nat) (h : RowS w AnyZ 1 (.slice na ns.length nc) ns.length (ns.flatMap cI64)) : Calls Tryz.prog 118 #[.int .i64 op, .slice na ns.length nc] w fun e w' => e = .returned (vIN (insV op ns)) ∧ Below w.heap.size w w' := by
  have hcp := copy4 w ns hl na nc h (.cells #[.int .i64 0, .int .i64 0, .int .i64 0, .int .i64 0, .int .i64 0] 57)
  have HX : Hid (vIN (insV op ns) = .agg #[.int .i64 op, .int .i64 (ns[0]?.getD 0), .int .i64 (ns[1]?.getD 0), .int .i64 (ns[2]?.getD 0), .int .i64 (ns[3]?.getD 0)]) := hid rfl
  unfold all4 at hcp
  clear h hl
  generalize ns[0]?.getD 0 = n0 at *
  generalize ns[1]?.getD 0 = n1 at *
  generalize ns[2]?.getD 0 = n2 at *
  generalize ns[3]?.getD 0 = n3 at *
  go_enter Tryz.func118, Tryz.ntmps118
  go_wp2
  exact bodyPost_ret (v := .agg #[.int .i64 op, .int .i64 n0, .int .i64 n1, .int .i64 n2, .int .i64 n3]) (by simp [results, Tryz.results118, go_sem]) rfl ⟨by rw [HX.out], by exact blBy⟩
end Go.Proofs.YtmcbllannkhfaaaGreatDoor
namespace Go.Proofs.YtmcbllannkhfaaaGreatDoor
open Go.RowKit
set_option maxRecDepth 1000000
set_option linter.unusedVariables false
set_option linter.unusedSimpArgs false
set_option maxHeartbeats 1000000
theorem step_append_ran {P : Program} {ops : Array Oper} {o : Oper} {a : Act} {w : World} {K : Act → World → Prop} {Q : Exit → Act → World → Prop} {E : Prop}
    (hg : o.guard = none) (s x : Operand) (t ty : TypeId) (hop : o.op = Op.call { callee := Callee.builtin Builtin.append, args := #[s, x], argTypes := #[t, t] }) (hty : o.type = ty)
    (v xv v' : Value) (w' : World) (hs : a.eval s = v) (hx : a.eval x = xv) (hr : (Builtin.append_ #[t, t] ty #[v, xv]).run P w = .ok v' w') (hK : K (a.put o.dst v') w') :
    if Region.wanted o (yielded ops a.tmps) = true then Oper.wp P o a w K Q else E := by
  have hw : Region.wanted o (yielded ops a.tmps) = true := by simp [Region.wanted, hg]
  rw [if_pos hw]
  subst hty
  unfold Oper.wp
  simp [execOp, hop, resolve, invoke, builtin, hs, hx, hr, Result.andThen]
  exact hK
theorem Tryz.infoPI : (Tryz.prog.info? 57).map (fun i => (i.zero, i.size, i.bytes)) = some (some (.agg #[.int .i64 0, .int .i64 0, .int .i64 0, .int .i64 0, .int .i64 0]), 5, 40) := by kernel_rfl
/-- One more. -/
theorem appendPI (base : Nat) (v : Value) (l : List IN) (y : IN) (w : World) (h : w.ownsRow base 57 5 v l.length (l.flatMap cIN)) (hb : base ≤ w.heap.size) (hn : l.length ≤ 4000000) :
    ∃ a c w', Hid ((Builtin.append_ #[22, 22] 22 #[v, .slice (some ⟨w.heap.size, 0, none⟩) 1 1]).run Tryz.prog (w.alloc (.cells #[.int .i64 y.op, .int .i64 y.a, .int .i64 y.b, .int .i64 y.c, .int .i64 y.d] 57)) = .ok (.slice a (l.length + 1) c) w') ∧ Hid (w'.ownsRow base 57 5 (.slice a (l.length + 1) c) (l ++ [y]).length ((l ++ [y]).flatMap cIN)) ∧ Hid (Grow w w' v (.slice a (l.length + 1) c)) := by
  obtain ⟨v', w', h1, h2, h3⟩ := append_st 57 22 5 40 (.agg #[.int .i64 0, .int .i64 0, .int .i64 0, .int .i64 0, .int .i64 0]) Tryz.underlying22 Tryz.infoPI rfl (by decide) (by decide) base v l.length (l.flatMap cIN) w #[.int .i64 y.op, .int .i64 y.a, .int .i64 y.b, .int .i64 y.c, .int .i64 y.d] rfl (fun u hu => by simp at hu; rcases hu with rfl | rfl | rfl | rfl | rfl <;> rfl) h hb hn
  obtain ⟨a, c, rfl⟩ := own_shape h2
  exact ⟨a, c, w', hid h1, hid (by rw [List.flatMap_append, List.length_append]; exact h2), hid h3⟩
/-- The steps that a layout holds. -/
def LyR (w : World) (base p : Nat) (l : List IN) : Prop := base ≤ p ∧ ∃ v, Blk w p 101 #[v] ∧ w.ownsRow base 57 5 v l.length (l.flatMap cIN)
/-- What stays where steps are laid: all below base, and all else but the layout and rows of steps. -/
structure LF (base p : Nat) (w w' : World) : Prop where
  os : w'.os = w.os
  tape : w'.tape = w.tape
  output : w'.output = w.output
  size : w.heap.size ≤ w'.heap.size
  block : ∀ k, k < w.heap.size → k < base ∨ (k ≠ p ∧ ∀ cs fr, w.heap[k]? ≠ some (.cells cs 57 fr)) → w'.heap[k]? = w.heap[k]?
theorem LF.refl (base p : Nat) (w : World) : LF base p w w := ⟨rfl, rfl, rfl, Nat.le_refl _, fun _ _ _ => rfl⟩
theorem LF.trans {base p : Nat} {w w1 w2 : World} (h : LF base p w w1) (g : LF base p w1 w2) : LF base p w w2 :=
  ⟨g.os.trans h.os, g.tape.trans h.tape, g.output.trans h.output, Nat.le_trans h.size g.size, fun k hk hf => by
    have e := h.block k hk hf
    rw [g.block k (Nat.lt_of_lt_of_le hk h.size) (hf.imp id fun ⟨h1, h2⟩ => ⟨h1, fun cs fr => by rw [e]; exact h2 cs fr⟩), e]⟩
theorem LF.ofBelow {base p : Nat} {w w' : World} (h : Below w.heap.size w w') : LF base p w w' := ⟨h.os, h.tape, h.output, h.size, fun k hk _ => h.block k hk⟩
theorem LF.below {base p : Nat} {w w' : World} (h : LF base p w w') (hb : base ≤ w.heap.size) : Below base w w' := ⟨h.os, h.tape, h.output, h.size, fun k hk => h.block k (by omega) (.inl hk)⟩
theorem Blk.lf {base p : Nat} {w w' : World} {q : Nat} {t : TypeId} {cs : Array Value} (h : Blk w q t cs) (g : LF base p w w') (hq : q ≠ p) (ht : t ≠ 57) : Blk w' q t cs := by
  refine (g.block q h.lt (.inr ⟨hq, fun cs' fr e => ?_⟩)).trans h
  rw [show w.heap[q]? = _ from h] at e
  cases e
  exact ht rfl
theorem LF.grow {base p : Nat} {w w' : World} {v v' : Value} {n : Nat} {fl : List Value} (g : Grow w w' v v') (h : w.ownsRow base 57 5 v n fl) : LF base p w w' :=
  ⟨g.os, g.tape, g.output, g.size, fun k hk hf => g.block k hk fun e => by
    obtain ⟨h1, h2, cur, h3⟩ := own_type h e
    rcases hf with hf | ⟨_, hf⟩
    · omega
    · exact hf _ _ h3⟩
theorem LF.set {base p : Nat} (w : World) (i : Nat) (v : Value) (hp : base ≤ p) : LF base p w (w.setCell ⟨p, i, none⟩ v) :=
  ⟨rfl, rfl, rfl, by simp [World.setCell], fun k hk hf => Below.heap_setCell _ _ _ _ (fun e => by
    have e' : k = p := e
    rcases hf with hf | ⟨hf, _⟩
    · omega
    · exact hf e')⟩
theorem layT (w : World) (base p : Nat) (l : List IN) (op : Int) (ns : List Int) (hl : ns.length ≤ 4) (na : Option Addr) (nc : Nat) (h : RowS w AnyZ 1 (.slice na ns.length nc) ns.length (ns.flatMap cI64)) (hL : LyR w base p l) (hn : l.length ≤ 4000000) : Calls Tryz.prog 70 #[.pointer (some ⟨p, 0, none⟩), .int .i64 op, .slice na ns.length nc] w fun e w' => e = .returned (.tuple #[]) ∧ LyR w' base p (l ++ [insV op ns]) ∧ LF base p w w' := by
  obtain ⟨hp, v, hB, hO⟩ := hL
  have HS : Hid (∀ W, Below w.heap.size w W → Calls Tryz.prog 118 #[.int .i64 op, .slice na ns.length nc] W fun e w' => e = .returned (.agg #[.int .i64 (insV op ns).op, .int .i64 (insV op ns).a, .int .i64 (insV op ns).b, .int .i64 (insV op ns).c, .int .i64 (insV op ns).d]) ∧ Below W.heap.size W w') := hid fun W hW => stepT W op ns hl na nc (h.kept hW)
  generalize insV op ns = y at *
  have HB := hid hB
  have HO := hid hO
  have HP := hid hp
  have xp := hB.cellF
  have yp := hB.frz
  have zp := hB.lt
  obtain ⟨a0, c0, rfl⟩ := own_shape hO
  have HAP : Hid (∀ W, Below w.heap.size w W → ∃ a c w', Hid ((Builtin.append_ #[22, 22] 22 #[.slice a0 l.length c0, .slice (some ⟨W.heap.size, 0, none⟩) 1 1]).run Tryz.prog (W.alloc (.cells #[.int .i64 y.op, .int .i64 y.a, .int .i64 y.b, .int .i64 y.c, .int .i64 y.d] 57)) = .ok (.slice a (l.length + 1) c) w') ∧ Hid (Blk w' p 101 #[.slice a0 l.length c0]) ∧ Hid (LyR (w'.setCell ⟨p, 0, none⟩ (.slice a (l.length + 1) c)) base p (l ++ [y]) ∧ LF base p w (w'.setCell ⟨p, 0, none⟩ (.slice a (l.length + 1) c)))) := hid fun W hW => by
    have hO1 := own_kept hO hW
    obtain ⟨a, c, w', h1, h2, h3⟩ := appendPI base _ l y W hO1 (Nat.le_trans (by have := hB.lt; omega) hW.size) hn
    have hB2 : Blk w' p 101 #[.slice a0 l.length c0] := grow_blk h3.out hO1 (hB.kept hW) (by decide)
    refine ⟨a, c, w', h1, hid hB2, hid ⟨⟨hp, .slice a (l.length + 1) c, (hB2.set 0 _).is (by simp), ?_⟩, ((LF.ofBelow hW).trans (LF.grow h3.out hO1)).trans (LF.set _ _ _ hp)⟩⟩
    refine own_keep (f := (· ≠ p)) h2.out (fun k hk e => ?_) (Keep.setCell _ _ _ (fun h => h rfl))
    obtain ⟨_, _, cur, h4⟩ := own_type h2.out hk
    rw [e, show w'.heap[p]? = _ from hB2] at h4
    cases h4
  clear hB hO hp h
  go_enter Tryz.func70, Tryz.ntmps70
  go_wp2_with fail
  go_region_law (first | (refine step_append_ran rfl _ _ 22 22 rfl rfl _ _ _ _ rfl rfl HRUN.out ?_) | (go_simp; go_wp2_with (go_at_call 118; refine (HS.out _ (by first | exact below_drew1 _ | exact blBy)).mono ?_; rintro e u1 ⟨rfl, hb1⟩; have HB1 : Hid (Below w.heap.size w u1) := hid (bl_then (by first | exact below_drew1 _ | exact blBy) hb1); have xp1 := (HB.out.kept HB1.out).cellF; have zp1 := (HB.out.kept HB1.out).lt; obtain ⟨a3, c3, w3, HRUN, HB3, HE⟩ := HAP.out u1 HB1.out; have xp3 := HB3.out.cellF; have yp3 := HB3.out.frz; have zp3 := HB3.out.lt)))
  all_goals (go_end0; exact ⟨rfl, HE.out.1, HE.out.2⟩)
theorem LyR.kept {w w' : World} {base p : Nat} {l : List IN} (h : LyR w base p l) (hb : Below w.heap.size w w') : LyR w' base p l := by
  obtain ⟨hp, v, h1, h2⟩ := h
  exact ⟨hp, v, h1.kept hb, own_kept h2 hb⟩
theorem LyR.lt {w : World} {base p : Nat} {l : List IN} (h : LyR w base p l) : p < w.heap.size := by
  obtain ⟨hp, v, h1, h2⟩ := h
  exact h1.lt
theorem LF.pre {base p : Nat} {w w1 w2 : World} (g : LF base p w1 w2) (hb : Below w.heap.size w w1) : LF base p w w2 := (LF.ofBelow hb).trans g
def ints (ns : List Int) : Array Value := (ns.map (fun n => Value.int .i64 n)).toArray
theorem rowOf' {w : World} {b : Nat} {t : TypeId} {cs : Array Value} (B : Blk w b t cs) (k n : Nat) (fl : List Value) (h : cs = fl.toArray) (hl : fl.length = n * k) (hn : n ≤ 9223372036854775807) : RowS w AnyZ k (.slice (some ⟨b, 0, none⟩) n n) n fl :=
  ⟨some ⟨b, 0, none⟩, n, rfl, hl, Nat.le_refl _, hn, .inr ⟨b, 0, rfl, trivial, fun j u hu => by
    rw [Nat.zero_add]
    exact B.cell j u (by rw [h, List.getElem?_toArray]; exact hu)⟩⟩
theorem mapI : ∀ ns : List Int, ns.map (fun n => Value.int .i64 n) = ns.flatMap cI64
  | [] => rfl
  | a :: r => by rw [List.map_cons, List.flatMap_cons, mapI r]; rfl
theorem ints_row {w : World} {b : Nat} (ns : List Int) (hl : ns.length ≤ 4) (B : Blk w b 3 (ints ns)) : RowS w AnyZ 1 (.slice (some ⟨b, 0, none⟩) ns.length ns.length) ns.length (ns.flatMap cI64) :=
  rowOf' B 1 ns.length _ (by unfold ints; congr 1; exact mapI ns) (flatM_len (g := cI64) (fun _ => rfl) ns) (by omega)
theorem layN (w : World) (base p : Nat) (l : List IN) (op : Int) (ns : List Int) (hl : ns.length ≤ 4) (b : Nat) (hB : Blk w b 3 (ints ns)) (hL : LyR w base p l) (hn : l.length ≤ 4000000) : Calls Tryz.prog 70 #[.pointer (some ⟨p, 0, none⟩), .int .i64 op, .slice (some ⟨b, 0, none⟩) ns.length ns.length] w fun e w' => e = .returned (.tuple #[]) ∧ LyR w' base p (l ++ [insV op ns]) ∧ LF base p w w' :=
  layT w base p l op ns hl _ _ (ints_row ns hl hB) hL hn
theorem layA {w : World} {base p : Nat} {l : List IN} (op : Int) (ns : List Int) (hl : ns.length ≤ 4) (hL : LyR w base p l) (hn : l.length ≤ 4000000) (W : World) (hW : Below w.heap.size w W) : Calls Tryz.prog 70 #[.pointer (some ⟨p, 0, none⟩), .int .i64 op, .slice (some ⟨W.heap.size, 0, none⟩) ns.length ns.length] (W.alloc (.cells (ints ns) 3)) fun e w' => e = .returned (.tuple #[]) ∧ LyR w' base p (l ++ [insV op ns]) ∧ LF base p w w' :=
  (layN _ base p l op ns hl _ (Blk.new _ _ _) ((hL.kept hW).kept (below_alloc _)) hn).mono fun e w' ⟨a, b, c⟩ => ⟨a, b, (c.pre (below_alloc _)).pre hW⟩
theorem layB {w : World} {base p : Nat} {l : List IN} (op : Int) (ns : List Int) (hl : ns.length ≤ 4) (hL : LyR w base p l) (hn : l.length ≤ 4000000) (W : World) (b : Nat) (hW : Below w.heap.size w W) (hB : Blk W b 3 (ints ns)) : Calls Tryz.prog 70 #[.pointer (some ⟨p, 0, none⟩), .int .i64 op, .slice (some ⟨b, 0, none⟩) ns.length ns.length] W fun e w' => e = .returned (.tuple #[]) ∧ LyR w' base p (l ++ [insV op ns]) ∧ LF base p w w' :=
  (layN _ base p l op ns hl _ hB (hL.kept hW) hn).mono fun e w' ⟨a, b, c⟩ => ⟨a, b, c.pre hW⟩
theorem lay0 (w : World) (base p : Nat) (l : List IN) (op : Int) (hL : LyR w base p l) (hn : l.length ≤ 4000000) : Calls Tryz.prog 70 #[.pointer (some ⟨p, 0, none⟩), .int .i64 op, .slice none 0 0] w fun e w' => e = .returned (.tuple #[]) ∧ LyR w' base p (l ++ [insV op []]) ∧ LF base p w w' :=
  layT w base p l op [] (by decide) none 0 (rowS_nil _ _ _) hL hn
end Go.Proofs.YtmcbllannkhfaaaGreatDoor
namespace Go.Proofs.YtmcbllannkhfaaaGreatDoor
open Go.RowKit
set_option maxRecDepth 1000000
set_option linter.unusedVariables false
set_option linter.unusedSimpArgs false
set_option maxHeartbeats 1000000
/-- The closure that tells a step its place. -/
def Arr (w : World) (p : Nat) (fv : Value) (at_ : Nat) : Prop := ∃ bl ba, fv = .func (.func 125) #[] #[.pointer (some ⟨bl, 0, none⟩), .pointer (some ⟨ba, 0, none⟩)] ∧ Blk w bl 127 #[.pointer (some ⟨p, 0, none⟩)] ∧ Blk w ba 3 #[.int .i64 at_] ∧ bl ≠ p ∧ ba ≠ p
theorem Arr.lf {base p : Nat} {w w' : World} {fv : Value} {n : Nat} (h : Arr w p fv n) (g : LF base p w w') : Arr w' p fv n := by
  obtain ⟨bl, ba, e, h1, h2, h3, h4⟩ := h
  exact ⟨bl, ba, e, h1.lf g h3 (by decide), h2.lf g h4 (by decide), h3, h4⟩
theorem layAheadT (w : World) (base p : Nat) (l : List IN) (op : Int) (ns : List Int) (hl : ns.length ≤ 4) (b : Nat) (hB : Blk w b 3 (ints ns)) (hL : LyR w base p l) (hn : l.length ≤ 4000000) : Calls Tryz.prog 78 #[.pointer (some ⟨p, 0, none⟩), .int .i64 op, .slice (some ⟨b, 0, none⟩) ns.length ns.length] w fun e w' => ∃ fv, e = .returned fv ∧ Arr w' p fv l.length ∧ LyR w' base p (l ++ [insV op ns]) ∧ LF base p w w' := by
  have HLY : Hid (∀ W, Below w.heap.size w W → Calls Tryz.prog 70 #[.pointer (some ⟨p, 0, none⟩), .int .i64 op, .slice (some ⟨b, 0, none⟩) ns.length ns.length] W fun e w' => e = .returned (.tuple #[]) ∧ LyR w' base p (l ++ [insV op ns]) ∧ LF base p W w') := hid fun W hW => layN W base p l op ns hl b (hB.kept hW) (hL.kept hW) hn
  obtain ⟨hp, v, hP, hO⟩ := hL
  obtain ⟨a0, c0, rfl⟩ := own_shape hO
  have xp := hP.cellF
  have zp := hP.lt
  clear hB
  go_enter Tryz.func78, Tryz.ntmps78
  go_wp2_with fail
  refine (HLY.out _ (by exact blBy)).mono ?_
  rintro e w1 ⟨rfl, hL1, hf1⟩
  have A1 : Arr w1 p (.func (.func 125) #[] #[.pointer (some ⟨w.heap.size, 0, none⟩), .pointer (some ⟨w.heap.size + 1, 0, none⟩)]) l.length := ⟨_, _, rfl, ((Blk.new _ _ _).kept (below_alloc _)).lf hf1 (by omega) (by decide), (Blk.newAt (by simp)).lf hf1 (by omega) (by decide), by omega, by omega⟩
  go_wp2
  go_ret
  exact ⟨_, rfl, A1, hL1, hf1.pre (by exact blBy)⟩
theorem cIN_set (l : List IN) (i : Nat) (x : IN) (h : i < l.length) : (l.set i { l[i] with b := x.b }).flatMap cIN = (l.flatMap cIN).set (i * 5 + 2) (.int .i64 x.b) := by
  induction l generalizing i with
  | nil => simp at h
  | cons y r ih =>
    cases i with
    | zero => simp [cIN]
    | succ i =>
      have hi : i < r.length := by simpa using h
      have := ih i hi
      simp only [List.set_cons_succ, List.flatMap_cons, List.getElem_cons_succ]
      rw [this, List.set_append_right _ _ (by simp [cIN]; omega)]
      congr 2
      simp [cIN]
      omega
theorem cellOth {w : World} {b i g j : Nat} {v u : Value} (h : w.cell? ⟨b, i, none⟩ = some v) (hne : b ≠ g) : (w.setCell ⟨g, j, none⟩ u).cell? ⟨b, i, none⟩ = some v := by
  have := Below.heap_setCell w ⟨g, j, none⟩ u b hne
  simp only [World.cell?] at *
  rw [this]
  exact h
theorem arriveT (w : World) (base p bl ba n : Nat) (l : List IN) (h1 : Blk w bl 127 #[.pointer (some ⟨p, 0, none⟩)]) (h2 : Blk w ba 3 #[.int .i64 n]) (hL : LyR w base p l) (hn : l.length ≤ 4000000) (hi : n < l.length) : Calls Tryz.prog 125 #[.pointer (some ⟨bl, 0, none⟩), .pointer (some ⟨ba, 0, none⟩)] w fun e w' => e = .returned (.tuple #[]) ∧ LyR w' base p (l.set n { l[n] with b := l.length }) ∧ LF base p w w' := by
  obtain ⟨hp, v, hP, hO⟩ := hL
  obtain ⟨a0, c0, rfl⟩ := own_shape hO
  have xp := hP.cellF
  have zp := hP.lt
  have x1 := h1.cellF
  have z1 := h1.lt
  have x2 := h2.cellF
  have z2 := h2.lt
  have hi' : (n : Int) < (l.length : Int) := by omega
  rcases hO.2 with ⟨_, h0⟩ | ⟨g, cap, cur, e, hbg, hgg, hnc, hcm, hcs, htk⟩
  · omega
  cases e
  have hG : Blk w g 57 cur := hgg
  have hne : g ≠ p := by
    intro e
    subst e
    have h3 := hP
    unfold Blk at h3 hG
    rw [hG] at h3
    cases h3
  have hsz : n * 5 + 2 < cur.size := by rw [hcs]; omega
  have xg : w.cell? ⟨g, n * 5 + 2, none⟩ = some cur[n * 5 + 2] := hG.cell _ _ (Array.getElem?_eq_getElem hsz)
  have yg := hG.frz
  have zg := hG.lt
  have HF : Hid (LyR ((w.drew).setCell ⟨g, n * 5 + 2, none⟩ (.int .i64 (l.length : Int))) base p (l.set n { l[n] with b := l.length }) ∧ LF base p w ((w.drew).setCell ⟨g, n * 5 + 2, none⟩ (.int .i64 (l.length : Int)))) := hid (by
    refine ⟨⟨hp, .slice (some ⟨g, 0, none⟩) l.length c0, (hP.kept (below_drew1 _)).other (a := ⟨g, n * 5 + 2, none⟩) (fun e => hne e.symm) _, ?_, .inr ⟨g, c0, cur.setIfInBounds (n * 5 + 2) (.int .i64 (l.length : Int)), by rw [List.length_set], hbg, (hG.kept (below_drew1 _)).set _ _, by rw [List.length_set]; exact hnc, hcm, by simpa using hcs, ?_⟩⟩, ?_⟩
    · rw [List.length_set, flatM_len (g := cIN) (k := 5) (fun _ => rfl), List.length_set]
    · rw [List.length_set, cIN_set l n ⟨0, 0, l.length, 0, 0⟩ hi, ← htk]
      simp [List.take_set]
    · exact ⟨rfl, rfl, rfl, by simp [World.setCell], fun k hk hf => (Below.heap_setCell _ _ _ _ (fun e => by
        have e' : k = g := e
        subst e'
        rcases hf with hf | ⟨_, hf⟩
        · omega
        · exact hf _ _ hG)).trans rfl⟩)
  have e1 := x1 0
  have e2 := xp 0
  have e3 := x2 0
  simp only [List.getElem?_toArray, List.getElem?_cons_zero] at e1 e2 e3
  have nt : ∀ {q : Nat} {t : TypeId} {cs : Array Value}, Blk w q t cs → t ≠ 57 → q ≠ g := by
    intro q t cs hq ht e
    subst e
    unfold Blk at hq hG
    rw [hG] at hq
    cases hq
    exact ht rfl
  have n1 := nt h1 (by decide)
  have n2 := nt hP (by decide)
  have n3 := nt h2 (by decide)
  clear nt x1 x2 xp
  clear hP hO hgg hG hcs htk hcm hnc h1 h2
  go_enter Tryz.func125, Tryz.ntmps125
  go_wp2_with fail
  go_region_held3 (fun W => W.cell? ⟨bl, 0, none⟩ = some (.pointer (some ⟨p, 0, none⟩)) ∧ W.cell? ⟨p, 0, none⟩ = some (.slice (some ⟨g, 0, none⟩) l.length c0) ∧ W.cell? ⟨ba, 0, none⟩ = some (.int .i64 n)) (first | exact ⟨e1, e2, e3⟩ | exact ⟨cellOth e1 n1, cellOth e2 n2, cellOth e3 n3⟩) (fail)
  go_end0
  exact ⟨rfl, HF.out.1, HF.out.2⟩
end Go.Proofs.YtmcbllannkhfaaaGreatDoor
namespace Go.Proofs.YtmcbllannkhfaaaGreatDoor
open Go.RowKit
set_option maxRecDepth 1000000
set_option linter.unusedVariables false
set_option linter.unusedSimpArgs false
set_option maxHeartbeats 1000000
theorem wraps_i64 (n : Int) (h0 : 0 ≤ n) (h1 : n < 2 ^ 62) : IntKind.i64.wrap n = n := by
  simp [IntKind.wrap, IntKind.bits, IntKind.signed]
  omega
theorem tag_or (n k : Int) (hn : 1 ≤ n ∧ n ≤ 536870911) (hk : 0 ≤ k ∧ k < 8) : bits .or .i64 (n * 8) k = n * 8 + k := by
  have h := bits_join .i64 62 (by decide) wraps_i64 3 (n * 8) k (by omega) (by omega) (by omega) (by omega) (by omega) (by omega)
  exact h
theorem tagT (w : World) (n k : Int) (hn : 1 ≤ n ∧ n ≤ 536870911) (hk : 0 ≤ k ∧ k < 8) : Calls Tryz.prog 120 #[.int .i64 n, .int .i64 k] w fun e w' => e = .returned (.int .i64 (tagV n k)) ∧ w' = w := by
  have HX : Hid (bits .or .i64 (n * 8) k = tagV n k) := hid (tag_or n k hn hk)
  go_enter Tryz.func120, Tryz.ntmps120
  go_wp2
  go_ret
  exact ⟨ret_int HX.out, rfl⟩
theorem set_mid (l r : List IN) (x : IN) (n : Int) (L : List IN) (e : L = l ++ x :: r) (h : l.length < L.length) : L.set l.length { L[l.length] with b := n } = l ++ { x with b := n } :: r := by
  subst e
  simp
theorem case_set (l body : List IN) (tag : Int) (h : l.length < (((l ++ [insV 2 [tag]]) ++ body) ++ [insV 4 [0]]).length) : ((((l ++ [insV 2 [tag]]) ++ body) ++ [insV 4 [0]]).set l.length { (((l ++ [insV 2 [tag]]) ++ body) ++ [insV 4 [0]])[l.length] with b := ((((l ++ [insV 2 [tag]]) ++ body) ++ [insV 4 [0]]).length : Int) }) = l ++ caseL l.length tag body := by
  rw [set_mid l (body ++ [insV 4 [0]]) (insV 2 [tag]) _ _ (by simp) h]
  unfold caseL insV
  congr 2
  simp
  omega
theorem layCaseT (w : World) (base p : Nat) (l body : List IN) (f : FT) (hf : FOk f) (k : Int) (hk : 0 ≤ k ∧ k < 8) (fn : FuncId) (caps : Array Value) (hcf : ∀ (args : Array Value) (W : World), (callFunc fn args).run Tryz.prog W = .ok (.enter fn args) W)
    (hK : ∀ W l', LyR W base p l' → l'.length ≤ l.length + 1 → LF base p w W → Calls Tryz.prog fn caps W fun e w' => e = .returned (.tuple #[]) ∧ LyR w' base p (l' ++ body) ∧ LF base p W w') (hL : LyR w base p l) (hn : l.length + body.length ≤ 3999990) : Calls Tryz.prog 72 #[.pointer (some ⟨p, 0, none⟩), .agg #[.string (strOfNums f.name), .int .i64 f.num, .int .i64 f.kind, .int .i64 f.ref, .int .i64 f.lab, .int .i64 f.one, .int .i64 f.key], .int .i64 k, .func (.func fn) #[] caps] w fun e w' => e = .returned (.tuple #[]) ∧ LyR w' base p (l ++ caseL l.length (tagV f.num k) body) ∧ LF base p w w' := by
  have HT := hid (tagT · f.num k hf.num hk)
  have HL := hid hL
  have HK := hid hK
  have HN := hid hn
  clear hK hL hf hk hn
  go_enter Tryz.func72, Tryz.ntmps72
  go_wp2_with (first | (go_at_call 120; refine (HT.out _).mono ?_; rintro e w1 ⟨rfl, rfl⟩))
  refine (layAheadT _ base p l 2 [tagV f.num k] (by simp) _ (Blk.newAt (by simp)) (HL.out.kept (by exact blBy)) (by have := HN.out; omega)).mono ?_
  rintro e w1 ⟨fv, rfl, ⟨bl, ba, rfl, A1, A2, n1, n2⟩, h1, g1⟩
  replace g1 : Hid (LF base p w w1) := hid (g1.pre (by exact blBy))
  replace h1 := hid h1
  replace A1 := hid A1
  replace A2 := hid A2
  go_wp2_with fail
  refine (HK.out _ _ h1.out (by simp) g1.out).mono ?_
  rintro e w2 ⟨rfl, h2, g2⟩
  replace A1 := hid (A1.out.lf g2 n1 (by decide))
  replace A2 := hid (A2.out.lf g2 n2 (by decide))
  replace h2 := hid h2
  replace g2 : Hid (LF base p w w2) := hid (g1.out.trans g2)
  clear h1 g1
  go_wp2_with fail
  refine (layN _ base p _ 4 [0] (by decide) _ (Blk.newAt (by simp)) (h2.out.kept (by exact blBy)) (by have := HN.out; simp; omega)).mono ?_
  rintro e w3 ⟨rfl, h3, g3⟩
  replace g3 : LF base p w2 w3 := g3.pre (by exact blBy)
  replace A1 := hid (A1.out.lf g3 n1 (by decide))
  replace A2 := hid (A2.out.lf g3 n2 (by decide))
  replace h3 := hid h3
  replace g3 : Hid (LF base p w w3) := hid (g2.out.trans g3)
  clear h2 g2
  go_wp2_with fail
  refine (arriveT _ base p bl ba l.length _ A1.out A2.out h3.out (by have := HN.out; simp; omega) (by simp)).mono ?_
  rintro e w4 ⟨rfl, h4, g4⟩
  rw [case_set] at h4
  go_wp2
  go_end0
  exact ⟨rfl, h4, g3.out.trans g4⟩
end Go.Proofs.YtmcbllannkhfaaaGreatDoor
