/-
  What is around a type.
  A table is good: what the program answers.
  A type by its name: both answers.
  The table of the examples.
  What comes in, opened: strings; and what the bound on it says.
  A table that comes in, opened.
  A table that comes in, opened: fields, symbols, ranges, types.
  The variables of Go's library that the rows list: a world that lays them; the one that is named alone.
  A type at its index, where it is a message of a good table.
  A type at its index, where there is none of that sort.
  A field by its number: where there is none; a field in memory of its own.
  A field by its number: what the program answers.
  What a field takes an entry as: what the program answers.
  Takes, Named: what the program answers.
-/
import Derived.Test.YtmfaakimhgkedaaGreatDoorCTP
import Derived.ProofKit
import Derived.OpenShut
import Derived.ShutString
import Derived.Lib.SmallJoins
import Derived.Deep.Slices
import Derived.Deep.Fields
import Derived.Test.YtmfaakimhgkedaaGreatDoorRows
import Derived.Stop.LaidErr
import Derived.Deep.DeepHandedRow
import Derived.Deep.DeepWitnessRowRef
import Derived.LaidLaws
namespace Go.Proofs.YtmfaakimhgkedaaGreatDoor
open Go.RowKit
set_option maxRecDepth 1000000
set_option linter.unusedVariables false
set_option linter.unusedSimpArgs false
set_option maxHeartbeats 1000000
def lastD (x : List Int) : Int := Lib.lastIndexByte (strOfNums x) 46
theorem lastD_is (x : List Int) : lastD x = -1 ∨ ∃ i : Nat, lastD x = i ∧ i < x.length := by
  rcases Lib.lastIndexByte_spec (strOfNums x) 46 with ⟨e, _⟩ | ⟨i, hi, e, _⟩
  · exact .inl e
  · exact .inr ⟨i, e, by rw [strOfNums_size] at hi; exact hi⟩
theorem lastT (x : List Int) (w : World) (h : x.length < 4611686018427387904) : Calls Tryz.prog 53 #[.string (strOfNums x), .string dotS] w fun e w' => e = .returned (.int .i64 (lastD x)) ∧ w = w' := by
  refine (Tryz.strings_LastIndex_one (strOfNums x) dotS rfl (by rw [strOfNums_size]; exact h) w).mono ?_
  rintro e w' ⟨rfl, rfl⟩
  exact ⟨rfl, rfl⟩
def standB (l : List TV) (i : Nat) (x : List Int) : Bool := if lastD x < 0 then true else match (l.take i).find? (fun v => v.t.name == x.take (lastD x).toNat) with
  | none => false
  | some v => !v.t.enum
theorem standsRightT (w : World) (l : List TV) (ta : Option Addr) (tc : Nat) (b i : Nat) (x : List Int) (h : TbR w (.slice ta l.length tc) l) (hk : Kn w b l i) (hx : TxA x) (hl : x.length < 4294967281) : Calls Tryz.prog 37 #[.agg #[.slice ta l.length tc], .map (some b), .string (strOfNums x)] w fun e w' => e = .returned (.bool (standB l i x)) ∧ Below w.heap.size w w' := by
  have HX : Hid (standB l i x = if lastD x < 0 then true else match (l.take i).find? (fun v => v.t.name == x.take (lastD x).toNat) with
  | none => false
  | some v => !v.t.enum) := hid rfl
  have HC : Hid (∀ W, Calls Tryz.prog 53 #[.string (strOfNums x), .string dotS] W fun e w' => e = .returned (.int .i64 (lastD x)) ∧ W = w') := hid fun W => lastT x W (by omega)
  obtain ⟨_, _, e, hn⟩ := rowS_sl h.row
  clear e
  have h1 : (l.length : Int) ≤ 9223372036854775807 := by omega
  have HT := hid h
  have HK := hid hk
  rcases lastD_is x with e | ⟨k, e, hkx⟩
  · rw [e] at HX HC
    replace HX := hid (show standB l i x = true by rw [HX.out]; rfl)
    clear h hk hx
    go_enter Tryz.func37, Tryz.ntmps37
    go_wp2_with (first | (go_at_call 53; refine (HC.out _).mono ?_; rintro e w1 ⟨rfl, rfl⟩))
    go_ret
    exact ⟨ret_bool HX.out.symm, by exact blBy⟩
  rw [e] at HX HC
  have hy : TxA (x.take k) := ⟨fun c hc => hx.1 c (List.mem_of_mem_take hc), by have := hx.2; simp; omega⟩
  have HS : Hid ((strOfNums x).extract 0 k = strOfNums (x.take k)) := hid (by rw [str_cut]; rfl)
  have HSZ : (strOfNums x).size = x.length := strOfNums_size x
  replace HX := hid (show standB l i x = match (l.take i).find? (fun v => v.t.name == x.take k) with
  | none => false
  | some v => !v.t.enum by rw [HX.out, if_neg (by omega)]; rfl)
  have k0 : ¬ (k : Int) < 0 := by omega
  have hkx' : (k : Int) < (x.length : Int) := by omega
  obtain ⟨c, hr, hc⟩ := (HK.out.kept (below_alloc (w := w) (.cells #[.slice ta l.length tc] 24))).look hy
  rw [← HS.out] at hr
  cases hf : (l.take i).find? (fun v => v.t.name == x.take k) with
  | none =>
    have hno : named (l.take i) (x.take k) = false := by
      unfold named
      rw [List.any_eq_false]
      intro v hv
      exact List.find?_eq_none.1 hf v hv
    replace HX := hid (show standB l i x = false by rw [HX.out, hf])
    rw [hno] at hr
    clear h hk hx hno hf hc
    go_enter Tryz.func37, Tryz.ntmps37
    go_wp2_with (first | (go_at_call 53; refine (HC.out _).mono ?_; rintro e w1 ⟨rfl, rfl⟩))
    go_ret
    exact ⟨ret_bool HX.out.symm, by exact blBy⟩
  | some v =>
    have hyes : named (l.take i) (x.take k) = true := by
      unfold named
      rw [List.any_eq_true]
      exact ⟨v, List.mem_of_find?_eq_some hf, by simpa using List.find?_some hf⟩
    obtain ⟨j, hj, ej⟩ := List.mem_take_iff_getElem.1 (List.mem_of_find?_eq_some hf)
    have hjl : j < l.length := by omega
    have hcj : c = (j : Int) := hc j hjl (by omega) (by rw [ej]; simpa using List.find?_some hf)
    subst hcj
    replace HX := hid (show standB l i x = !l[j].t.enum by rw [HX.out, hf, ej])
    rw [hyes] at hr
    have hjl' : (j : Int) < (l.length : Int) := by omega
    obtain ⟨tb, tof, rfl, hbl, -, c1, -⟩ := row6 HT.out.row hjl
    clear h hk hx hyes hf hc ej
    generalize l[j].t.enum = en at *
    go_enter Tryz.func37, Tryz.ntmps37
    go_wp2_with (first | (go_at_call 53; refine (HC.out _).mono ?_; rintro e w1 ⟨rfl, rfl⟩))
    go_ret
    exact ⟨ret_bool HX.out.symm, by exact blBy⟩
end Go.Proofs.YtmfaakimhgkedaaGreatDoor
namespace Go.Proofs.YtmfaakimhgkedaaGreatDoor
open Go.RowKit
set_option maxRecDepth 1000000
set_option linter.unusedVariables false
set_option linter.unusedSimpArgs false
set_option maxHeartbeats 1000000
/-- What is asked of a table: that its texts and numbers can be. -/
structure OkV (x : TV) : Prop where
  ok : OkT x.t
  nl : x.t.name.length < 4294967281
  sz : x.t.fs.length + x.t.os.length + x.t.rs.length ≤ 9223372036854775807
def stepB (l : List TV) (j : Nat) (t : TT) : Bool := !named (l.take j) t.name && (fullB t && (standB l j t.name && typB l t))
def goodA (l : List TV) : List TV → Nat → Bool
  | [], _ => true
  | x :: r, j => stepB l j x.t && goodA l r (j + 1)
def goodB (l : List TV) : Bool := decide (l.length ≤ 128) && goodA l l 0
theorem run_makeMap0 {P : Program} (t : TypeId) (w : World) {ki e : TypeId} (ht : P.underlying t = some (.map ki e)) : (Instr.makeMap t none).run P w = .ok (.map (some w.heap.size)) (w.alloc (.map #[] 0)) := by
  simp [Instr.makeMap, run_underlying ht, Result.andThen]
theorem goodT (w : World) (l : List TV) (ta : Option Addr) (tc : Nat) (h : TbR w (.slice ta l.length tc) l) (hk : ∀ x ∈ l, OkV x) (m : Int) (hm : w.cell? ⟨0, 0, none⟩ = some (.int .i64 m)) : Calls Tryz.prog 18 #[.agg #[.slice ta l.length tc]] w fun e w' => e = .returned (.bool (goodB l)) ∧ Below w.heap.size w w' := by
  obtain ⟨_, _, e, hn⟩ := rowS_sl h.row
  clear e
  have h1 : (l.length : Int) ≤ 9223372036854775807 := by omega
  have HT := hid h
  have HK := hid hk
  have HM := hid hm
  clear h hk hm
  have HX : Hid (goodB l = (decide (l.length ≤ 128) && goodA l l 0)) := hid rfl
  by_cases hbig : 128 < l.length
  case pos =>
    have h2 : (128 : Int) < (l.length : Int) := by omega
    replace HX := hid (show goodB l = false by rw [HX.out, decide_eq_false (by omega)]; rfl)
    go_enter Tryz.func18, Tryz.ntmps18
    go_wp2
    go_ret
    exact ⟨ret_bool HX.out.symm, by exact blBy⟩
  have h2 : ¬ (128 : Int) < (l.length : Int) := by omega
  replace HX := hid (show goodB l = goodA l l 0 by rw [HX.out, decide_eq_true (by omega)]; rfl)
  have hmk := fun W => run_makeMap0 (P := Tryz.prog) 58 W Tryz.underlying58
  go_enter Tryz.func18, Tryz.ntmps18
  go_wp2
  clear hmk
  go_loopw [16] (fun r wr => ∃ j : Nat, r = .int .i64 j ∧ j ≤ l.length ∧ Hid (goodA l l 0 = goodA l (l.drop j) j) ∧ Hid (Kn wr (w.heap.size + 1) l j) ∧ Hid (Blk wr w.heap.size 24 #[.slice ta l.length tc]) ∧ Hid (Below w.heap.size w wr)) (fun r wr => l.length - numAt wr r)
  case atStart => exact ⟨0, rfl, by omega, hid rfl, hid (by have := Kn.new (w.alloc (Obj.cells #[Value.slice ta l.length tc] 24)) l; simpa using this), hid ((Blk.new _ _ _).kept (below_alloc _)), hid (by exact blBy)⟩
  case round =>
    obtain ⟨j, rfl, hj, hg, HKN, hB, hb⟩ := hrel
    by_cases hlt : j < l.length
    · have h3 : (j : Int) < (l.length : Int) := by omega
      have HST : Hid (goodA l (l.drop j) j = (stepB l j l[j].t && goodA l (l.drop (j + 1)) (j + 1))) := hid (by rw [List.drop_eq_getElem_cons hlt, goodA])
      have HTY := hid (HT.out.ty _ (List.getElem_mem hlt))
      have HOK := hid (HK.out _ (List.getElem_mem hlt))
      obtain ⟨tb, tof, rfl, hbl, c0, c1, c2, c3, c4, c5⟩ := row6 (HT.out.row.kept hb.out) hlt
      have HPUT : Hid (∀ W, Kn W (w.heap.size + 1) l j → named (l.take j) l[j].t.name = false → ∃ w', (Instr.mapUpdate 58 (.map (some (w.heap.size + 1))) (.string (strOfNums l[j].t.name)) (.int .i64 (j : Int))).run Tryz.prog W = .ok () w' ∧ Kn w' (w.heap.size + 1) l (j + 1) ∧ W.grownBy w' (some (w.heap.size + 1))) := hid fun W hW hN => hW.put hlt (by omega) (fun v hv => (HK.out v hv).ok.nm) hN
      generalize l[j] = x at *
      obtain ⟨t, f, o, s, r⟩ := x
      obtain ⟨fa, fc, ef, -⟩ := rowS_sl HTY.out.f
      obtain ⟨oa, oc, eo, -⟩ := rowS_sl HTY.out.o
      obtain ⟨sa, sc, es, -⟩ := rowS_sl HTY.out.s
      obtain ⟨ra, rc, er, -⟩ := rowS_sl HTY.out.r
      dsimp only at ef eo es er
      subst ef eo es er
      dsimp only at c0 c1 c2 c3 c4 c5
      obtain ⟨c, hr, -⟩ := (HKN.out.kept (below_alloc (w := wr) (.cells #[.string (strOfNums t.name), .bool t.enum, .slice fa t.fs.length fc, .slice oa t.os.length oc, .slice sa t.ss.length sc, .slice ra t.rs.length rc] 50))).look HOK.out.ok.nm
      try dsimp only at hr
      have Ba := hB.out
      have xa := Ba.cellF
      have ya := Ba.frz
      have za : w.heap.size < wr.heap.size := Ba.lt
      cases q0 : named (l.take j) t.name with
      | true =>
        rw [q0] at hr
        have HF : Hid (goodB l = false) := hid (by rw [HX.out, hg.out, HST.out]; simp [stepB, q0])
        go_wp2
        go_ret
        exact ⟨ret_bool HF.out.symm, by have := hb.out; exact blBy⟩
      | false =>
      rw [q0] at hr
      go_wp2_with fail
      refine (isFullNameT _ t _ _ _ _ m (cell_below HM.out (by have := hb.out; exact blBy)) HOK.out.ok.nm.1 HOK.out.nl).mono ?_
      rintro e w1 ⟨rfl, hb1⟩
      have Bb : Blk (wr.alloc (.cells #[.string (strOfNums t.name), .bool t.enum, .slice fa t.fs.length fc, .slice oa t.os.length oc, .slice sa t.ss.length sc, .slice ra t.rs.length rc] 50)) wr.heap.size 50 #[.string (strOfNums t.name), .bool t.enum, .slice fa t.fs.length fc, .slice oa t.os.length oc, .slice sa t.ss.length sc, .slice ra t.rs.length rc] := Blk.new _ _ _
      have Ba := Ba.kept (below_alloc (.cells #[.string (strOfNums t.name), .bool t.enum, .slice fa t.fs.length fc, .slice oa t.os.length oc, .slice sa t.ss.length sc, .slice ra t.rs.length rc] 50))
      replace HKN := hid (HKN.out.kept (below_alloc (.cells #[.string (strOfNums t.name), .bool t.enum, .slice fa t.fs.length fc, .slice oa t.os.length oc, .slice sa t.ss.length sc, .slice ra t.rs.length rc] 50)))
      have xb : True := trivial
      have yb : True := trivial
      have zb : True := trivial
      clear hr
      replace Ba : Blk w1 w.heap.size 24 #[.slice (some ⟨tb, tof, none⟩) l.length tc] := Blk.kept (Ba.is (by first | rfl | simp)) hb1
      replace Bb : Blk w1 wr.heap.size 50 #[.string (strOfNums t.name), .bool t.enum, .slice fa t.fs.length fc, .slice oa t.os.length oc, .slice sa t.ss.length sc, .slice ra t.rs.length rc] := Blk.kept (Bb.is (by first | rfl | simp)) hb1
      replace HKN := hid (HKN.out.kept hb1)
      clear xa ya xb yb
      have hs1 := hb1.size
      try simp at hs1
      have xa := Ba.cellF
      have ya := Ba.frz
      replace za : w.heap.size < w1.heap.size := by omega
      have xb := Bb.cellF
      have yb := Bb.frz
      replace zb : wr.heap.size < w1.heap.size := by omega
      replace hb1 : Hid (Below w.heap.size w w1) := hid (bl_then (by have := hb.out; exact blBy) hb1)
      cases q1 : fullB t with
      | false =>
        have HF : Hid (goodB l = false) := hid (by rw [HX.out, hg.out, HST.out]; simp [stepB, q0, q1])
        go_wp2
        go_ret
        exact ⟨ret_bool HF.out.symm, by have := hb1.out; exact blBy⟩
      | true =>
      go_wp2_with fail
      refine (standsRightT _ l _ tc (w.heap.size + 1) j t.name (HT.out.kept (by have := hb1.out; exact blBy)) HKN.out HOK.out.ok.nm HOK.out.nl).mono ?_
      rintro e w2 ⟨rfl, hb2⟩
      replace Ba : Blk w2 w.heap.size 24 #[.slice (some ⟨tb, tof, none⟩) l.length tc] := Blk.kept (Ba.is (by first | rfl | simp)) hb2
      replace Bb : Blk w2 wr.heap.size 50 #[.string (strOfNums t.name), .bool t.enum, .slice fa t.fs.length fc, .slice oa t.os.length oc, .slice sa t.ss.length sc, .slice ra t.rs.length rc] := Blk.kept (Bb.is (by first | rfl | simp)) hb2
      replace HKN := hid (HKN.out.kept hb2)
      clear xa ya xb yb
      have hs2 := hb2.size
      try simp at hs2
      have xa := Ba.cellF
      have ya := Ba.frz
      replace za : w.heap.size < w2.heap.size := by omega
      have xb := Bb.cellF
      have yb := Bb.frz
      replace zb : wr.heap.size < w2.heap.size := by omega
      replace hb2 : Hid (Below w.heap.size w w2) := hid (bl_then hb1.out hb2)
      cases q2 : standB l j t.name with
      | false =>
        have HF : Hid (goodB l = false) := hid (by rw [HX.out, hg.out, HST.out]; simp [stepB, q0, q1, q2])
        go_wp2
        go_ret
        exact ⟨ret_bool HF.out.symm, by have := hb2.out; exact blBy⟩
      | true =>
      go_wp2_with fail
      refine (isGoodTypeT _ l _ tc t fa oa sa ra fc oc sc rc (HT.out.kept (by have := hb2.out; exact blBy)) (HTY.out.kept (by have := hb2.out; exact blBy)) HOK.out.ok HOK.out.sz).mono ?_
      rintro e w3 ⟨rfl, hb3⟩
      replace Ba : Blk w3 w.heap.size 24 #[.slice (some ⟨tb, tof, none⟩) l.length tc] := Blk.kept (Ba.is (by first | rfl | simp)) hb3
      replace Bb : Blk w3 wr.heap.size 50 #[.string (strOfNums t.name), .bool t.enum, .slice fa t.fs.length fc, .slice oa t.os.length oc, .slice sa t.ss.length sc, .slice ra t.rs.length rc] := Blk.kept (Bb.is (by first | rfl | simp)) hb3
      replace HKN := hid (HKN.out.kept hb3)
      clear xa ya xb yb
      have hs3 := hb3.size
      try simp at hs3
      have xa := Ba.cellF
      have ya := Ba.frz
      replace za : w.heap.size < w3.heap.size := by omega
      have xb := Bb.cellF
      have yb := Bb.frz
      replace zb : wr.heap.size < w3.heap.size := by omega
      replace hb3 : Hid (Below w.heap.size w w3) := hid (bl_then hb2.out hb3)
      cases q3 : typB l t with
      | false =>
        have HF : Hid (goodB l = false) := hid (by rw [HX.out, hg.out, HST.out]; simp [stepB, q0, q1, q2, q3])
        go_wp2
        go_ret
        exact ⟨ret_bool HF.out.symm, by have := hb3.out; exact blBy⟩
      | true =>
      obtain ⟨w4, hr4, hk4, hg4⟩ := HPUT.out w3 HKN.out q0
      try dsimp only at hr4
      have HK4 := hid hk4
      have HB4 : Hid (Blk w4 w.heap.size 24 #[.slice (some ⟨tb, tof, none⟩) l.length tc]) := hid ((hg4.block _ za (by simp)).trans Ba)
      have HL4 : Hid (Below w.heap.size w w4) := hid (hb3.out.trans (grown_below hg4 (by omega) (by omega)))
      clear hk4 hg4
      go_wp2
      exact ⟨⟨j + 1, by simp, by omega, hid (by rw [hg.out, HST.out]; simp [stepB, q0, q1, q2, q3]), HK4, HB4, HL4⟩, by simp [numAt]; omega⟩
    · have h3 : ¬ (j : Int) < (l.length : Int) := by omega
      have HF : Hid (goodB l = true) := hid (by rw [HX.out, hg.out, List.drop_of_length_le (by omega)]; rfl)
      go_wp2
      go_ret
      exact ⟨ret_bool HF.out.symm, hb.out⟩
end Go.Proofs.YtmfaakimhgkedaaGreatDoor
namespace Go.Proofs.YtmfaakimhgkedaaGreatDoor
open Go.RowKit
set_option maxRecDepth 1000000
set_option linter.unusedVariables false
set_option linter.unusedSimpArgs false
set_option maxHeartbeats 1000000
def nameP (nm : List Int) (v : TV) : Bool := decide (v.t.name = nm)
def findI (l : List TV) (nm : List Int) : Int := fnd (nameP nm) l 0
theorem fnd_ge {α : Type} (p : α → Bool) : ∀ (l : List α) (i : Nat), fnd p l i < 0 → fnd p l i = -1
  | [], i, _ => rfl
  | x :: r, i, h => by
    rw [fnd] at h ⊢
    split at h
    · omega
    · rename_i q
      rw [if_neg q]
      exact fnd_ge p r (i + 1) h
theorem findR (w : World) (l : List TV) (ta : Option Addr) (tc : Nat) (h : TbR w (.slice ta l.length tc) l) (hk : ∀ x ∈ l, TxA x.t.name) (nm : List Int) (hn : TxA nm) : Calls Tryz.prog 16 #[.agg #[.slice ta l.length tc], .string (strOfNums nm)] w fun e w' => e = .returned (.int .i64 (findI l nm)) ∧ Below w.heap.size w w' := by
  obtain ⟨_, _, e, hn2⟩ := rowS_sl h.row
  clear e
  have h1 : (l.length : Int) ≤ 9223372036854775807 := by omega
  have HT := hid h
  have HK := hid hk
  have HN := hid hn
  clear h hk hn
  go_enter Tryz.func16, Tryz.ntmps16
  go_wp2
  go_loopw [5] (fun r wr => ∃ j : Nat, r = .int .i64 j ∧ j ≤ l.length ∧ Hid (findI l nm = fnd (nameP nm) (l.drop j) j) ∧ Hid (Blk wr w.heap.size 24 #[.slice ta l.length tc]) ∧ Hid (Below w.heap.size w wr)) (fun r wr => l.length - numAt wr r)
  case atStart => exact ⟨0, rfl, by omega, hid rfl, hid (Blk.new _ _ _), hid (by exact blBy)⟩
  case round =>
    obtain ⟨j, rfl, hj, hf, BX, hb⟩ := hrel
    have xb := BX.out.cellF
    have zb := BX.out.lt
    by_cases hlt : j < l.length
    · have h2 : (j : Int) < (l.length : Int) := by omega
      obtain ⟨b, o, rfl, hbl, c0, -⟩ := row6 (HT.out.row.kept hb.out) hlt
      have HST := hid (fnd_at (p := nameP nm) hlt)
      have HS := hid (str_eq (HK.out _ (List.getElem_mem hlt)).1 HN.out.1)
      clear HK
      generalize l[j] = x at *
      have hs := HS.out
      by_cases hq : x.t.name = nm
      · rw [decide_eq_true hq] at hs
        have HQ : Hid (nameP nm x = true) := hid (by unfold nameP; exact decide_eq_true hq)
        replace hq := hid hq
        go_wp2
        go_ret
        exact ⟨ret_int (by rw [hf.out, HST.out, HQ.out]; simp), by have := hb.out; exact blBy⟩
      · rw [decide_eq_false hq] at hs
        have HQ : Hid (nameP nm x = false) := hid (by unfold nameP; exact decide_eq_false hq)
        replace hq := hid hq
        go_wp2
        exact ⟨⟨j + 1, by simp, by omega, hid (by rw [hf.out, HST.out, HQ.out]; simp), BX, hid (by have := hb.out; exact blBy)⟩, by simp [numAt]; omega⟩
    · have h2 : ¬ (j : Int) < (l.length : Int) := by omega
      have HE : Hid (findI l nm = -1) := hid (by rw [hf.out, List.drop_of_length_le (by omega)]; rfl)
      go_wp2
      go_ret
      exact ⟨ret_int (by rw [HE.out]), by have := hb.out; exact blBy⟩
end Go.Proofs.YtmfaakimhgkedaaGreatDoor
namespace Go.Proofs.YtmfaakimhgkedaaGreatDoor
open Go.RowKit
set_option maxRecDepth 1000000
set_option linter.unusedVariables false
set_option linter.unusedSimpArgs false
set_option maxHeartbeats 1000000
theorem rowOf {w : World} {b : Nat} {t : TypeId} {cs : Array Value} (B : Blk w b t cs) (k n : Nat) (fl : List Value) (h : cs = fl.toArray) (hl : fl.length = n * k) (hn : n ≤ 9223372036854775807) : RowS w AnyZ k (.slice (some ⟨b, 0, none⟩) n n) n fl :=
  ⟨some ⟨b, 0, none⟩, n, rfl, hl, Nat.le_refl _, hn, .inr ⟨b, 0, rfl, trivial, fun j u hu => by
    rw [Nat.zero_add]
    exact B.cell j u (by rw [h, List.getElem?_toArray]; exact hu)⟩⟩
def simE (h : Nat) : TV := ⟨⟨[69], true, [], [], [⟨[65], 0⟩], []⟩, .slice none 0 0, .slice none 0 0, .slice (some ⟨h + 1, 0, none⟩) 1 1, .slice none 0 0⟩
def simF : List FT := [⟨[120], 1, 2, 0, 0, 0, 0⟩, ⟨[108], 2, 4, 0, 3, 0, 0⟩, ⟨[109], 3, 17, 1, 1, 0, 0⟩]
def simM (h : Nat) : TV := ⟨⟨[77], false, simF, [], [], []⟩, .slice (some ⟨h + 1 + 1, 0, none⟩) 3 3, .slice none 0 0, .slice none 0 0, .slice none 0 0⟩
def simL (h : Nat) : List TV := [simE h, simM h]
theorem simpleW (w : World) : Calls Tryz.prog 25 #[] w fun e w' => e = .returned (.agg #[.slice (some ⟨w.heap.size + 1 + 1 + 1, 0, none⟩) (simL w.heap.size).length 2]) ∧ TbR w' (.slice (some ⟨w.heap.size + 1 + 1 + 1, 0, none⟩) (simL w.heap.size).length 2) (simL w.heap.size) ∧ Below w.heap.size w w' := by
  have HT : Hid (∀ W : World, Blk W (w.heap.size + 1) 77 #[.string ⟨#[65]⟩, .int .i64 0] → Blk W (w.heap.size + 1 + 1) 79 #[.string ⟨#[120]⟩, .int .i64 1, .int .i64 2, .int .i64 0, .int .i64 0, .int .i64 0, .int .i64 0, .string ⟨#[108]⟩, .int .i64 2, .int .i64 4, .int .i64 0, .int .i64 3, .int .i64 0, .int .i64 0, .string ⟨#[109]⟩, .int .i64 3, .int .i64 17, .int .i64 1, .int .i64 1, .int .i64 0, .int .i64 0] → Blk W (w.heap.size + 1 + 1 + 1) 50 #[.string ⟨#[69]⟩, .bool true, .slice none 0 0, .slice none 0 0, .slice (some ⟨w.heap.size + 1, 0, none⟩) 1 1, .slice none 0 0, .string ⟨#[77]⟩, .bool false, .slice (some ⟨w.heap.size + 1 + 1, 0, none⟩) 3 3, .slice none 0 0, .slice none 0 0, .slice none 0 0] → TbR W (.slice (some ⟨w.heap.size + 1 + 1 + 1, 0, none⟩) (simL w.heap.size).length 2) (simL w.heap.size)) := hid fun W B1 B2 B3 => by
    refine ⟨rowOf B3 6 2 _ rfl rfl (by decide), fun x hx => ?_⟩
    rcases List.mem_cons.1 hx with rfl | hx
    · exact ⟨rowS_nil _ _ _, rowS_nil _ _ _, rowOf B1 2 1 _ rfl rfl (by decide), rowS_nil _ _ _⟩
    · rcases List.mem_cons.1 hx with rfl | hx
      · exact ⟨rowOf B2 7 3 _ rfl rfl (by decide), rowS_nil _ _ _, rowS_nil _ _ _, rowS_nil _ _ _⟩
      · cases hx
  go_enter Tryz.func25, Tryz.ntmps25
  go_wp2
  refine bodyPost_ret (v := .agg #[.slice (some ⟨w.heap.size + 1 + 1 + 1, 0, none⟩) 2 2]) (by simp [results, Tryz.results25, go_sem]) rfl ⟨rfl, HT.out _ ?_ ?_ ?_, by exact blBy⟩
  · exact ((Blk.newAt (by simp)).kept (below_alloc _)).kept (below_alloc _)
  · exact (Blk.newAt (by simp)).kept (below_alloc _)
  · exact Blk.newAt (by simp)
theorem simGood (h : Nat) : goodB (simL h) = true := by kernel_rfl
theorem simOk (h : Nat) : ∀ x ∈ simL h, OkV x := by
  have tx : ∀ n : List Int, n ∈ ([[69], [77], [65], [120], [108], [109]] : List (List Int)) → TxA n := by
    intro n hn
    simp only [List.mem_cons, List.not_mem_nil, or_false] at hn
    rcases hn with rfl | rfl | rfl | rfl | rfl | rfl <;> exact ⟨by decide, by decide⟩
  intro x hx
  rcases List.mem_cons.1 hx with rfl | hx
  · refine ⟨⟨tx _ (by simp [simE]), by simp [simE], by simp [simE], fun s hs => ?_⟩, by simp [simE], by simp [simE]⟩
    simp [simE] at hs
    subst hs
    exact ⟨tx _ (by simp), by unfold I64; decide⟩
  · rcases List.mem_cons.1 hx with rfl | hx
    · refine ⟨⟨tx _ (by simp [simM]), fun f hf => ?_, by simp [simM], by simp [simM]⟩, by simp [simM], by simp [simM, simF]⟩
      simp [simM, simF] at hf
      rcases hf with rfl | rfl | rfl <;> exact tx _ (by simp)
    · cases hx
end Go.Proofs.YtmfaakimhgkedaaGreatDoor
namespace Go.Proofs.YtmfaakimhgkedaaGreatDoor
open Go.ChangeShapes Go.WideShapes Go.ChangeAt Go.RowKit Go.Deep
set_option maxRecDepth 1000000
section
variable {H : Type}
theorem bulk_one (d : DataW H) : 1 ≤ Rows.uptoBulk d := by
  cases d with
  | lit l => cases l <;> simp [Rows.uptoBulk]
  | nil => simp [Rows.uptoBulk]
  | ptr d => simp [Rows.uptoBulk]
  | slice elems spare => simp [Rows.uptoBulk]
  | agg parts => simp [Rows.uptoBulk]
  | iface t d => simp [Rows.uptoBulk]
  | map entries => simp [Rows.uptoBulk]
  | held h => simp [Rows.uptoBulk]
theorem bulk_length (l : List (DataW H)) : l.length ≤ Rows.uptoBulkAll l := by
  induction l with
  | nil => simp [Rows.uptoBulkAll]
  | cons x r ih => have := bulk_one x; simp only [Rows.uptoBulkAll, List.length_cons]; omega
theorem small_le {l : List (DataW H)} (hk : Rows.uptoSmall H l = true) : Rows.uptoBulkAll l ≤ 1048576 := of_decide_eq_true hk
end
/-- The numbers of a string's bytes. -/
def numsS (s : ByteArray) : List Int := s.data.toList.map fun b => (b.toNat : Int)
theorem numsS_str (s : ByteArray) : strOfNums (numsS s) = s := by
  apply ByteArray.ext
  apply Array.ext'
  simp [strOfNums, numsS, Function.comp_def]
theorem numsS_bd (s : ByteArray) : ∀ x ∈ numsS s, 0 ≤ x ∧ x ≤ 255 := by
  intro x hx
  obtain ⟨b, _, rfl⟩ := List.mem_map.1 hx
  have := b.toNat_lt
  omega
theorem numsS_len (s : ByteArray) : (numsS s).length = s.data.toList.length := by simp [numsS]
end Go.Proofs.YtmfaakimhgkedaaGreatDoor
namespace Go.Proofs.YtmfaakimhgkedaaGreatDoor
open Go.ChangeShapes Go.WideShapes Go.ChangeAt Go.RowKit Go.Deep
set_option maxRecDepth 1000000
set_option linter.unusedVariables false
set_option linter.unusedSimpArgs false
set_option maxHeartbeats 1000000
section
variable {H : Type} {enc : TypeId × Value → H} {W : World} {spare : Nat → Bool} {held : Bool}
/-- A struct of fields of one cell each, opened. -/
theorem struct_open {t : TypeId} {fs : Array Field} (ht : Tryz.prog.underlying t = some (.struct fs)) (hone : oneCellFields Tryz.prog fs = true) (hsz : Tryz.prog.cellsOf t = fs.size) {fuel : Nat} {cs : List Value} {y : DataW H × List MemPlace} (h : DataW.trod enc Tryz.prog W 0 spare held fuel t cs = some y) :
    ∃ (xs : List (DataW H × List MemPlace)) (n : Nat), y.1 = .agg (xs.map (·.1)) ∧ xs.length = fs.size ∧ cs.length = fs.size ∧ ∀ (i : Nat) (f : Field), fs[i]? = some f → ∃ v yi, cs[i]? = some v ∧ xs[i]? = some yi ∧ DataW.trod enc Tryz.prog W 0 spare held n f.type [v] = some yi := by
  obtain ⟨xs, n, _, rfl, hl, hlen, hf⟩ := DataW.trod_struct ht h
  refine ⟨xs, n, rfl, hlen, hl.trans hsz, fun i f hi => ?_⟩
  have hlt : i < fs.size := (Array.getElem?_eq_some_iff.1 hi).1
  obtain ⟨o1, o2⟩ := hone_of hone i f hi
  have hc : i < cs.length := by omega
  have hx : i < xs.length := by omega
  refine ⟨cs[i], xs[i], by simp [hc], by simp [hx], ?_⟩
  have := hf i f hi
  have e : (cs.drop i).take 1 = [cs[i]] := by rw [List.drop_eq_getElem_cons hc]; rfl
  rw [o1, o2, e] at this
  rw [this]
  simp [hx]
theorem bulk_mem {l : List (DataW H)} {d : DataW H} (h : d ∈ l) : Rows.uptoBulk d ≤ Rows.uptoBulkAll l := by
  induction l with
  | nil => cases h
  | cons x r ih =>
    simp only [Rows.uptoBulkAll]
    rcases List.mem_cons.1 h with rfl | h
    · omega
    · have := ih h; omega
theorem bulk_get {xs : List (DataW H × List MemPlace)} {i : Nat} {y : DataW H × List MemPlace} (h : xs[i]? = some y) : Rows.uptoBulk y.1 + 1 ≤ Rows.uptoBulk (DataW.agg (xs.map (·.1))) := by
  have := bulk_mem (l := xs.map (·.1)) (d := y.1) (List.mem_map.2 ⟨y, List.mem_of_getElem? h, rfl⟩)
  simp only [Rows.uptoBulk]
  omega
/-- A row of structs, opened. -/
theorem rows_open {α : Type} (g : α → List Value) (K : Nat) (hK0 : 0 < K) (Q : α → DataW H → Prop) {t e : TypeId} (ht : Tryz.prog.underlying t = some (.slice e)) (hK : Tryz.prog.cellsOf e = K) (hg : ∀ x, (g x).length = K)
    (hel : ∀ (n : Nat) (cs : List Value) (y : DataW H × List MemPlace), DataW.trod enc Tryz.prog W 0 spare held n e cs = some y → ∃ x, cs = g x ∧ Q x y.1) {fuel : Nat} {v : Value} {y : DataW H × List MemPlace} (hf : DataW.trod enc Tryz.prog W 0 spare held fuel t [v] = some y) :
    ∃ (a : Option Addr) (cap : Nat) (xs : List α), v = .slice a xs.length cap ∧ RowS W AnyZ K v xs.length (xs.flatMap g) ∧ xs.length + 1 ≤ Rows.uptoBulk y.1 ∧ ∀ x ∈ xs, ∃ d, Q x d ∧ Rows.uptoBulk d ≤ Rows.uptoBulk y.1 := by
  rcases open_slice ht hf with ⟨hcs, rfl⟩ | ⟨a, len, cap, m, n, D, Pl, hcs, _, hl, hm, hmm, rfl, hx⟩
  · simp at hcs
    subst hcs
    exact ⟨none, 0, [], rfl, rowS_nil _ _ _, by simp [Rows.uptoBulk], fun x hx => by cases hx⟩
  · simp at hcs
    subst hcs
    rw [hK] at hx
    have hlm : len ≤ m := by rw [hmm]; split <;> omega
    have hc : ∀ i, i < len → ∃ x : α, W.cells? 0 (a.add (i * K)) K = some (g x) ∧ Q x (D i) := fun i hi => by
      obtain ⟨cs', h1, h2⟩ := hx i (by omega)
      obtain ⟨x, rfl, hq⟩ := hel _ _ _ h2
      exact ⟨x, h1, hq⟩
    obtain ⟨xs, hxl, hxs⟩ : ∃ xs : List α, xs.length = len ∧ ∀ i (h : i < xs.length), W.cells? 0 (a.add (i * K)) K = some (g xs[i]) ∧ Q xs[i] (D i) := by
      clear hx hl hlm hmm hf
      induction len with
      | zero => exact ⟨[], rfl, fun i h => by simp at h⟩
      | succ k ih =>
        obtain ⟨xs, h1, h2⟩ := ih (fun i hi => hc i (by omega))
        obtain ⟨x, h3, h4⟩ := hc k (by omega)
        refine ⟨xs ++ [x], by simp [h1], fun i h => ?_⟩
        by_cases e : i < xs.length
        · rw [List.getElem_append_left e]; exact h2 i e
        · have ei : i = k := by simp at h; omega
          subst ei
          rw [List.getElem_append_right (by omega)]
          simp [h1, h3, h4]
    subst hxl
    have hb : ∀ i, i < xs.length → D i ∈ (List.range xs.length).map D := fun i hi => List.mem_map.2 ⟨i, List.mem_range.2 hi, rfl⟩
    refine ⟨some a, cap, xs, rfl, ⟨some a, cap, rfl, flatM_len hg xs, hl, by unfold maxLen at hm; omega, ?_⟩, ?_, fun x hxm => ?_⟩
    · by_cases h0 : xs.length = 0
      · exact .inl ⟨h0, fun e => by cases e⟩
      · obtain ⟨b, off, spot⟩ := a
        have hspot : spot = none := by
          have h1 := (World.cells?_some (hxs 0 (by omega)).1).2.2 0 hK0
          have h2 : (g xs[0])[0]? = some ((g xs[0])[0]'(by rw [hg]; exact hK0)) := by simp
          rw [h2] at h1
          simpa [Addr.add] using World.cell?_spot h1
        subst hspot
        refine .inr ⟨b, off, rfl, trivial, fun j u hu => ?_⟩
        have hj : j < xs.length * K := by rw [← flatM_len hg xs]; exact (List.getElem?_eq_some_iff.1 hu).1
        have hi : j / K < xs.length := (Nat.div_lt_iff_lt_mul hK0).2 hj
        have hr : j % K < K := Nat.mod_lt _ hK0
        have hjj : j / K * K + j % K = j := by rw [Nat.mul_comm]; exact Nat.div_add_mod j K
        have h2 : (g xs[j / K])[j % K]? = some ((g xs[j / K])[j % K]'(by rw [hg]; exact hr)) := by simp
        have h3 := flatM_get hg xs (j / K) (j % K) xs[j / K] _ (by simp [hi]) h2
        rw [hjj] at h3
        rw [h3] at hu
        have h1 := (World.cells?_some (hxs (j / K) hi).1).2.2 (j % K) hr
        have hadd : ((⟨b, off, none⟩ : Addr).add (j / K * K)).add (j % K) = ⟨b, off + j, none⟩ := by
          have e1 : ∀ (o i : Nat), (⟨b, o, none⟩ : Addr).add i = ⟨b, o + i, none⟩ := fun o i => by unfold Addr.add; split <;> simp_all
          rw [e1, e1, Nat.add_assoc, hjj]
        rw [hadd, h2] at h1
        rw [h1]
        exact hu
    · simp only [Rows.uptoBulk]
      have := bulk_length ((List.range xs.length).map D)
      simp at this
      omega
    · obtain ⟨i, hi, rfl⟩ := List.mem_iff_getElem.1 hxm
      refine ⟨D i, (hxs i hi).2, ?_⟩
      have := bulk_mem (hb i hi)
      simp only [Rows.uptoBulk]
      omega
/-- What a text that was read is. -/
def okX (b : Nat) (x : List Int) : Prop := TxA x ∧ x.length + 1 ≤ b
theorem str_open {n : Nat} {v : Value} {y : DataW H × List MemPlace} (h : DataW.trod enc Tryz.prog W 0 spare held n 9 [v] = some y) : ∃ x : List Int, v = .string (strOfNums x) ∧ okX (Rows.uptoBulk y.1) x := by
  obtain ⟨s, e, rfl, hs⟩ := DataW.trod_string Tryz.underlying9 h
  simp at e
  subst e
  refine ⟨numsS s, by rw [numsS_str], ⟨numsS_bd s, ?_⟩, ?_⟩
  · rw [numsS_len]
    unfold maxLen at hs
    simpa using hs
  · rw [numsS_len]
    simp [Rows.uptoBulk]
theorem int_open {n : Nat} {v : Value} {y : DataW H × List MemPlace} (h : DataW.trod enc Tryz.prog W 0 spare held n 3 [v] = some y) : ∃ x : Int, v = .int .i64 x ∧ I64 x := by
  obtain ⟨x, e, rfl, hs⟩ := DataW.trod_int Tryz.underlying3 h
  simp at e
  subst e
  refine ⟨x, rfl, ?_⟩
  unfold I64
  simp [Lit.wf, IntKind.min, IntKind.max, IntKind.signed, IntKind.bits] at hs
  omega
end
end Go.Proofs.YtmfaakimhgkedaaGreatDoor
namespace Go.Proofs.YtmfaakimhgkedaaGreatDoor
open Go.ChangeShapes Go.WideShapes Go.ChangeAt Go.RowKit Go.Deep
set_option maxRecDepth 1000000
set_option linter.unusedVariables false
set_option linter.unusedSimpArgs false
set_option maxHeartbeats 1000000
theorem fieldsF : ∃ f0 f1 f2 f3 f4 f5 f6, Tryz.prog.underlying 79 = some (.struct #[f0, f1, f2, f3, f4, f5, f6]) ∧ oneCellFields Tryz.prog #[f0, f1, f2, f3, f4, f5, f6] = true ∧ Tryz.prog.cellsOf 79 = 7 ∧ f0.type = 9 ∧ f1.type = 3 ∧ f2.type = 3 ∧ f3.type = 3 ∧ f4.type = 3 ∧ f5.type = 3 ∧ f6.type = 3 :=
  ⟨_, _, _, _, _, _, _, Tryz.underlying79, by kernel_rfl, by kernel_rfl, by kernel_rfl, by kernel_rfl, by kernel_rfl, by kernel_rfl, by kernel_rfl, by kernel_rfl, by kernel_rfl⟩
theorem fieldsS : ∃ f0 f1, Tryz.prog.underlying 77 = some (.struct #[f0, f1]) ∧ oneCellFields Tryz.prog #[f0, f1] = true ∧ Tryz.prog.cellsOf 77 = 2 ∧ f0.type = 9 ∧ f1.type = 3 :=
  ⟨_, _, Tryz.underlying77, by kernel_rfl, by kernel_rfl, by kernel_rfl, by kernel_rfl⟩
theorem fieldsR : ∃ f0 f1, Tryz.prog.underlying 88 = some (.struct #[f0, f1]) ∧ oneCellFields Tryz.prog #[f0, f1] = true ∧ Tryz.prog.cellsOf 88 = 2 ∧ f0.type = 3 ∧ f1.type = 3 :=
  ⟨_, _, Tryz.underlying88, by kernel_rfl, by kernel_rfl, by kernel_rfl, by kernel_rfl⟩
theorem fieldsT : ∃ f0 f1 f2 f3 f4 f5, Tryz.prog.underlying 50 = some (.struct #[f0, f1, f2, f3, f4, f5]) ∧ oneCellFields Tryz.prog #[f0, f1, f2, f3, f4, f5] = true ∧ Tryz.prog.cellsOf 50 = 6 ∧ f0.type = 9 ∧ f1.type = 4 ∧ f2.type = 45 ∧ f3.type = 46 ∧ f4.type = 47 ∧ f5.type = 48 :=
  ⟨_, _, _, _, _, _, Tryz.underlying50, by kernel_rfl, by kernel_rfl, by kernel_rfl, by kernel_rfl, by kernel_rfl, by kernel_rfl, by kernel_rfl, by kernel_rfl⟩
theorem list_eq {cs : List Value} : ∀ (l : List Value), cs.length = l.length → (∀ (i : Nat) (v : Value), l[i]? = some v → cs[i]? = some v) → cs = l := fun l hl h => by
  apply List.ext_getElem? 
  intro i
  by_cases hi : i < l.length
  · rw [h i l[i] (by simp [hi])]; simp [hi]
  · rw [List.getElem?_eq_none (by omega), List.getElem?_eq_none (by omega)]
section
variable {H : Type} {enc : TypeId × Value → H} {W : World} {spare : Nat → Bool} {held : Bool}
theorem ft_open (n : Nat) (cs : List Value) (y : DataW H × List MemPlace) (h : DataW.trod enc Tryz.prog W 0 spare held n 79 cs = some y) : ∃ x : FT, cs = cFT x ∧ okX (Rows.uptoBulk y.1) x.name := by
  obtain ⟨f0, f1, f2, f3, f4, f5, f6, hs, hone, hsz, t0, t1, t2, t3, t4, t5, t6⟩ := fieldsF
  obtain ⟨xs, m, hy, hxl, hcl, hi⟩ := struct_open hs hone hsz h
  obtain ⟨v0, y0, c0, x0, h0⟩ := hi 0 f0 rfl
  rw [t0] at h0
  obtain ⟨v1, y1, c1, x1, h1⟩ := hi 1 f1 rfl
  rw [t1] at h1
  obtain ⟨v2, y2, c2, x2, h2⟩ := hi 2 f2 rfl
  rw [t2] at h2
  obtain ⟨v3, y3, c3, x3, h3⟩ := hi 3 f3 rfl
  rw [t3] at h3
  obtain ⟨v4, y4, c4, x4, h4⟩ := hi 4 f4 rfl
  rw [t4] at h4
  obtain ⟨v5, y5, c5, x5, h5⟩ := hi 5 f5 rfl
  rw [t5] at h5
  obtain ⟨v6, y6, c6, x6, h6⟩ := hi 6 f6 rfl
  rw [t6] at h6
  obtain ⟨a0, rfl, k0⟩ := str_open h0
  obtain ⟨a1, rfl, k1⟩ := int_open h1
  obtain ⟨a2, rfl, k2⟩ := int_open h2
  obtain ⟨a3, rfl, k3⟩ := int_open h3
  obtain ⟨a4, rfl, k4⟩ := int_open h4
  obtain ⟨a5, rfl, k5⟩ := int_open h5
  obtain ⟨a6, rfl, k6⟩ := int_open h6
  refine ⟨⟨a0, a1, a2, a3, a4, a5, a6⟩, list_eq _ (by rw [hcl]; rfl) fun i v hv => ?_, k0.1, ?_⟩
  · match i, hv with
    | 0, hv => simp [cFT] at hv; subst hv; exact c0
    | 1, hv => simp [cFT] at hv; subst hv; exact c1
    | 2, hv => simp [cFT] at hv; subst hv; exact c2
    | 3, hv => simp [cFT] at hv; subst hv; exact c3
    | 4, hv => simp [cFT] at hv; subst hv; exact c4
    | 5, hv => simp [cFT] at hv; subst hv; exact c5
    | 6, hv => simp [cFT] at hv; subst hv; exact c6
    | i + 7, hv => simp [cFT] at hv
  · have := bulk_get x0
    rw [hy]
    have := k0.2
    dsimp only
    omega
theorem sy_open (n : Nat) (cs : List Value) (y : DataW H × List MemPlace) (h : DataW.trod enc Tryz.prog W 0 spare held n 77 cs = some y) : ∃ x : SY, cs = cSY x ∧ (okX (Rows.uptoBulk y.1) x.name ∧ I64 x.num) := by
  obtain ⟨f0, f1, hs, hone, hsz, t0, t1⟩ := fieldsS
  obtain ⟨xs, m, hy, hxl, hcl, hi⟩ := struct_open hs hone hsz h
  obtain ⟨v0, y0, c0, x0, h0⟩ := hi 0 f0 rfl
  rw [t0] at h0
  obtain ⟨v1, y1, c1, x1, h1⟩ := hi 1 f1 rfl
  rw [t1] at h1
  obtain ⟨a0, rfl, k0⟩ := str_open h0
  obtain ⟨a1, rfl, k1⟩ := int_open h1
  refine ⟨⟨a0, a1⟩, list_eq _ (by rw [hcl]; rfl) fun i v hv => ?_, ⟨k0.1, ?_⟩, k1⟩
  · match i, hv with
    | 0, hv => simp [cSY] at hv; subst hv; exact c0
    | 1, hv => simp [cSY] at hv; subst hv; exact c1
    | i + 2, hv => simp [cSY] at hv
  · have := bulk_get x0
    rw [hy]
    have := k0.2
    dsimp only
    omega
theorem rg_open (n : Nat) (cs : List Value) (y : DataW H × List MemPlace) (h : DataW.trod enc Tryz.prog W 0 spare held n 88 cs = some y) : ∃ x : RG, cs = cRG x ∧ True := by
  obtain ⟨f0, f1, hs, hone, hsz, t0, t1⟩ := fieldsR
  obtain ⟨xs, m, hy, hxl, hcl, hi⟩ := struct_open hs hone hsz h
  obtain ⟨v0, y0, c0, x0, h0⟩ := hi 0 f0 rfl
  rw [t0] at h0
  obtain ⟨v1, y1, c1, x1, h1⟩ := hi 1 f1 rfl
  rw [t1] at h1
  obtain ⟨a0, rfl, k0⟩ := int_open h0
  obtain ⟨a1, rfl, k1⟩ := int_open h1
  refine ⟨⟨a0, a1⟩, list_eq _ (by rw [hcl]; rfl) fun i v hv => ?_, trivial⟩
  match i, hv with
  | 0, hv => simp [cRG] at hv; subst hv; exact c0
  | 1, hv => simp [cRG] at hv; subst hv; exact c1
  | i + 2, hv => simp [cRG] at hv
theorem st_open (n : Nat) (cs : List Value) (y : DataW H × List MemPlace) (h : DataW.trod enc Tryz.prog W 0 spare held n 9 cs = some y) : ∃ x : List Int, cs = cN x ∧ okX (Rows.uptoBulk y.1) x := by
  obtain ⟨s, e, _⟩ := DataW.trod_string Tryz.underlying9 h
  subst e
  obtain ⟨x, e, k⟩ := str_open h
  exact ⟨x, by rw [e]; rfl, k⟩
theorem tv_open (n : Nat) (cs : List Value) (y : DataW H × List MemPlace) (h : DataW.trod enc Tryz.prog W 0 spare held n 50 cs = some y) : ∃ x : TV, cs = cTV x ∧ (TyR W x ∧ (Rows.uptoBulk y.1 ≤ 1048576 → OkV x ∧ x.t.name.length < 4000000)) := by
  obtain ⟨f0, f1, f2, f3, f4, f5, hs, hone, hsz, t0, t1, t2, t3, t4, t5⟩ := fieldsT
  obtain ⟨xs, m, hy, hxl, hcl, hi⟩ := struct_open hs hone hsz h
  obtain ⟨v0, y0, c0, x0, h0⟩ := hi 0 f0 rfl
  rw [t0] at h0
  have b0 := bulk_get x0
  obtain ⟨v1, y1, c1, x1, h1⟩ := hi 1 f1 rfl
  rw [t1] at h1
  have b1 := bulk_get x1
  obtain ⟨v2, y2, c2, x2, h2⟩ := hi 2 f2 rfl
  rw [t2] at h2
  have b2 := bulk_get x2
  obtain ⟨v3, y3, c3, x3, h3⟩ := hi 3 f3 rfl
  rw [t3] at h3
  have b3 := bulk_get x3
  obtain ⟨v4, y4, c4, x4, h4⟩ := hi 4 f4 rfl
  rw [t4] at h4
  have b4 := bulk_get x4
  obtain ⟨v5, y5, c5, x5, h5⟩ := hi 5 f5 rfl
  rw [t5] at h5
  have b5 := bulk_get x5
  rw [← hy] at b0 b1 b2 b3 b4 b5
  obtain ⟨a0, rfl, k0⟩ := str_open h0
  obtain ⟨e1, he1, _⟩ := DataW.trod_bool Tryz.underlying4 h1
  simp at he1
  subst he1
  obtain ⟨fa, fc, fs, rfl, rf, lf, qf⟩ := rows_open cFT 7 (by decide) (fun x d => okX (Rows.uptoBulk d) x.name) Tryz.underlying45 (by kernel_rfl) (fun _ => rfl) ft_open h2
  obtain ⟨oa, oc, os, rfl, ro, lo, qo⟩ := rows_open cN 1 (by decide) (fun x d => okX (Rows.uptoBulk d) x) Tryz.underlying46 (by kernel_rfl) (fun _ => rfl) st_open h3
  obtain ⟨sa, sc, ss, rfl, rs, ls, qs⟩ := rows_open cSY 2 (by decide) (fun x d => okX (Rows.uptoBulk d) x.name ∧ I64 x.num) Tryz.underlying47 (by kernel_rfl) (fun _ => rfl) sy_open h4
  obtain ⟨ra, rc, gs, rfl, rr, lr, qr⟩ := rows_open cRG 2 (by decide) (fun _ _ => True) Tryz.underlying48 (by kernel_rfl) (fun _ => rfl) rg_open h5
  refine ⟨⟨⟨a0, e1, fs, os, ss, gs⟩, _, _, _, _⟩, list_eq _ (by rw [hcl]; rfl) fun i v hv => ?_, ⟨rf, ro, rs, rr⟩, fun hb => ⟨⟨⟨k0.1, fun x hx => ?_, fun x hx => ?_, fun x hx => ?_⟩, ?_, ?_⟩, ?_⟩⟩
  · match i, hv with
    | 0, hv => simp [cTV] at hv; subst hv; exact c0
    | 1, hv => simp [cTV] at hv; subst hv; exact c1
    | 2, hv => simp [cTV] at hv; subst hv; exact c2
    | 3, hv => simp [cTV] at hv; subst hv; exact c3
    | 4, hv => simp [cTV] at hv; subst hv; exact c4
    | 5, hv => simp [cTV] at hv; subst hv; exact c5
    | i + 6, hv => simp [cTV] at hv
  · obtain ⟨d, hd, _⟩ := qf x hx
    exact hd.1
  · obtain ⟨d, hd, _⟩ := qo x hx
    exact hd.1
  · obtain ⟨d, hd, _⟩ := qs x hx
    exact ⟨hd.1.1, hd.2⟩
  · have := k0.2
    dsimp only
    omega
  · dsimp only
    omega
  · have := k0.2
    dsimp only
    omega
theorem fieldsB : ∃ f0, Tryz.prog.underlying 24 = some (.struct #[f0]) ∧ oneCellFields Tryz.prog #[f0] = true ∧ Tryz.prog.cellsOf 24 = 1 ∧ Tryz.prog.underlying f0.type = some (.slice 50) :=
  ⟨_, Tryz.underlying24, by kernel_rfl, by kernel_rfl, by kernel_rfl⟩
theorem tb_open {n : Nat} {v : Value} {y : DataW H × List MemPlace} (h : DataW.trod enc Tryz.prog W 0 spare held n 24 [v] = some y) : ∃ (a : Option Addr) (c : Nat) (l : List TV), v = .slice a l.length c ∧ TbR W (.slice a l.length c) l ∧ (Rows.uptoBulk y.1 ≤ 1048576 → ∀ x ∈ l, OkV x ∧ x.t.name.length < 4000000) := by
  obtain ⟨f0, hs, hone, hsz, t0⟩ := fieldsB
  obtain ⟨xs, m, hy, hxl, hcl, hi⟩ := struct_open hs hone hsz h
  obtain ⟨v0, y0, c0, x0, h0⟩ := hi 0 f0 rfl
  simp at c0
  subst c0
  have b0 := bulk_get x0
  rw [← hy] at b0
  obtain ⟨a, c, l, rfl, r, hl, q⟩ := rows_open cTV 6 (by decide) (fun x d => TyR W x ∧ (Rows.uptoBulk d ≤ 1048576 → OkV x ∧ x.t.name.length < 4000000)) t0 (by kernel_rfl) (fun _ => rfl) tv_open h0
  exact ⟨a, c, l, rfl, ⟨r, fun x hx => by obtain ⟨d, hd, _⟩ := q x hx; exact hd.1⟩, fun hb x hx => by obtain ⟨d, hd, hdb⟩ := q x hx; exact hd.2 (by omega)⟩
end
end Go.Proofs.YtmfaakimhgkedaaGreatDoor
namespace Go.Proofs.YtmfaakimhgkedaaGreatDoor
open Go.ChangeShapes Go.WideShapes Go.ChangeAt Go.RowKit
set_option maxRecDepth 1000000
set_option maxRecDepth 100000
/-- The rows' list. -/
def laidL : List (String × DataW Unit) := [("unicode/utf8.acceptRanges", Rows.laid_unicode_utf8_acceptRanges), ("unicode/utf8.first", Rows.laid_unicode_utf8_first)]
theorem laid_plain {W : World} (h : laidMetH Tryz.prog laidL W) : laidMet Tryz.prog laidL W := h
/-- A block's cells laid anew. -/
noncomputable def layAt (g : Nat) (cs : Array Value) (w : World) : World := { w with heap := w.heap.modify g fun
      | .cells _ t frozen => .cells cs t frozen
      | o => o }
def numV : DataW Unit → Value
  | .lit (.int k n) => .int k n
  | _ => undef
def ldRow : DataW Unit → List Value
  | .agg ds => ds.map numV
  | _ => []
def ldRows : DataW Unit → List Value
  | .agg ds => ds.flatMap ldRow
  | _ => []
noncomputable def laidWorld (os : Os) : World :=
  layAt 2 (List.toArray (ldRows Rows.laid_unicode_utf8_acceptRanges)) (layAt 1 (List.toArray (ldRow Rows.laid_unicode_utf8_first)) (World.holding Tryz.prog os ⟨#[], #[], []⟩))
theorem laid_met (os : Os) (args : Array Value) : laidMet Tryz.prog laidL ((laidWorld os).forCall (fun _ _ => 0) ⟨#[], args, []⟩).memory :=
  laidMet_of_run' 8 (by kernel_rfl) (by kernel_rfl)
theorem maxLen_cell {W : World} (h : W.ShapedOpen Tryz.prog) : ∃ m, W.cell? ⟨0, 0, none⟩ = some (.int .i64 m) :=
  Go.Proofs.cell_of_shapedOpen_int (zero := #[.int .i64 0]) (t := 3) h (of_decide_eq_true (by kernel_rfl)) (by kernel_rfl) rfl (by kernel_rfl) (by kernel_rfl) Tryz.underlying3
end Go.Proofs.YtmfaakimhgkedaaGreatDoor
namespace Go.Proofs.YtmfaakimhgkedaaGreatDoor
open Go.RowKit
set_option maxRecDepth 1000000
set_option linter.unusedVariables false
set_option linter.unusedSimpArgs false
set_option maxHeartbeats 1000000
/-- What Find answers, where a field has that number. -/
theorem fieldOfOk (fs : List FT) (n : Int) (w : World) (a : Option Addr) (c : Nat) (h : RowS w AnyZ 7 (.slice a fs.length c) fs.length (fs.flatMap cFT)) (hr : Rise fs) (hl : fs.length ≤ 128) (k : Nat) (hk : k < fs.length) (hn : fs[k].num = n) : Calls Tryz.prog 48 #[.slice a fs.length c, .int .i64 n] w fun e w' => e = .returned (.tuple #[.agg #[.string (strOfNums fs[k].name), .int .i64 fs[k].num, .int .i64 fs[k].kind, .int .i64 fs[k].ref, .int .i64 fs[k].lab, .int .i64 fs[k].one, .int .i64 fs[k].key], .bool true]) ∧ Below w.heap.size w w' := by
  have HL : Hid (∀ W, Below w.heap.size w W → Calls Tryz.prog 68 #[.slice a fs.length c, .int .i64 n] W fun e w' => e = .returned (.tuple #[.agg #[.string (strOfNums fs[k].name), .int .i64 fs[k].num, .int .i64 fs[k].kind, .int .i64 fs[k].ref, .int .i64 fs[k].lab, .int .i64 fs[k].one, .int .i64 fs[k].key], .bool true]) ∧ Below W.heap.size W w') := hid fun W hW => ((lastUpToT fs n W a c (h.kept hW) hr hl).mono fun e w' hq => by
    rcases hq with ⟨⟨_, h1⟩ | ⟨j, hj, e1, h1, h2⟩, hb⟩
    · have := h1 k hk; omega
    · have ej : j = k := by
        rcases Nat.lt_trichotomy j k with q | q | q
        · have := h2 k q hk; omega
        · exact q
        · have := hr k j q hj hk; omega
      subst ej
      exact ⟨e1, hb⟩)
  clear h hr
  subst hn
  generalize fs[k] = f at *
  have kq : (f.num == f.num) = true := by simp
  go_enter Tryz.func48, Tryz.ntmps48
  go_wp2_with fail
  refine (HL.out _ (by exact blBy)).mono ?_
  rintro e w1 ⟨rfl, hb1⟩
  have Br : Blk w1 w.heap.size 79 #[.string ⟨#[]⟩, .int .i64 0, .int .i64 0, .int .i64 0, .int .i64 0, .int .i64 0, .int .i64 0] := (Blk.new _ _ _).kept hb1
  replace hb1 : Hid (Below w.heap.size w w1) := hid (bl_then (by exact blBy) hb1)
  have xr := Br.cellF
  have yr := Br.frz
  have zr := Br.lt
  go_wp2
  exact bodyPost_ret (v := .tuple #[.agg #[.string (strOfNums f.name), .int .i64 f.num, .int .i64 f.kind, .int .i64 f.ref, .int .i64 f.lab, .int .i64 f.one, .int .i64 f.key], .bool true]) (by simp [results, Tryz.results48, go_sem, xr, zr, yr]) rfl ⟨rfl, by have := hb1.out; exact blBy⟩
end Go.Proofs.YtmfaakimhgkedaaGreatDoor
namespace Go.Proofs.YtmfaakimhgkedaaGreatDoor
open Go.RowKit
set_option maxRecDepth 1000000
set_option linter.unusedVariables false
set_option linter.unusedSimpArgs false
set_option maxHeartbeats 1000000
end Go.Proofs.YtmfaakimhgkedaaGreatDoor
namespace Go.Proofs.YtmfaakimhgkedaaGreatDoor
open Go.RowKit
set_option maxRecDepth 1000000
set_option linter.unusedVariables false
set_option linter.unusedSimpArgs false
set_option maxHeartbeats 1000000
/-- The values of a field. -/
def aFT (f : FT) : Value := .agg #[.string (strOfNums f.name), .int .i64 f.num, .int .i64 f.kind, .int .i64 f.ref, .int .i64 f.lab, .int .i64 f.one, .int .i64 f.key]
def ftZ : FT := ⟨[], 0, 0, 0, 0, 0, 0⟩
theorem fieldOfNo (fs : List FT) (n : Int) (w : World) (a : Option Addr) (c : Nat) (h : RowS w AnyZ 7 (.slice a fs.length c) fs.length (fs.flatMap cFT)) (hr : Rise fs) (hl : fs.length ≤ 128) (hno : ∀ f ∈ fs, f.num ≠ n) : Calls Tryz.prog 48 #[.slice a fs.length c, .int .i64 n] w fun e w' => e = .returned (.tuple #[.agg #[.string ⟨#[]⟩, .int .i64 0, .int .i64 0, .int .i64 0, .int .i64 0, .int .i64 0, .int .i64 0], .bool false]) ∧ Below w.heap.size w w' := by
  have HL : Hid (∀ W, Below w.heap.size w W → Calls Tryz.prog 68 #[.slice a fs.length c, .int .i64 n] W fun e w' => (∃ (g : FT) (ok : Bool), e = .returned (.tuple #[.agg #[.string (strOfNums g.name), .int .i64 g.num, .int .i64 g.kind, .int .i64 g.ref, .int .i64 g.lab, .int .i64 g.one, .int .i64 g.key], .bool ok]) ∧ Hid (ok = true → (g.num == n) = false)) ∧ Below W.heap.size W w') := hid fun W hW => ((lastUpToT fs n W a c (h.kept hW) hr hl).mono fun e w' hq => by
    rcases hq with ⟨⟨e1, _⟩ | ⟨j, hj, e1, h1, h2⟩, hb⟩
    · exact ⟨⟨ftZ, false, e1, hid (fun q => by cases q)⟩, hb⟩
    · exact ⟨⟨fs[j], true, e1, hid (fun _ => by rw [beq_eq_false_iff_ne]; exact hno _ (List.getElem_mem hj))⟩, hb⟩)
  clear h hr hno
  go_enter Tryz.func48, Tryz.ntmps48
  go_wp2_with fail
  refine (HL.out _ (by exact blBy)).mono ?_
  rintro e w1 ⟨⟨f, ok, rfl, hok⟩, hb1⟩
  have Br : Blk w1 w.heap.size 79 #[.string ⟨#[]⟩, .int .i64 0, .int .i64 0, .int .i64 0, .int .i64 0, .int .i64 0, .int .i64 0] := (Blk.new _ _ _).kept hb1
  replace hb1 : Hid (Below w.heap.size w w1) := hid (bl_then (by exact blBy) hb1)
  have xr := Br.cellF
  have yr := Br.frz
  have zr := Br.lt
  cases ok with
  | false =>
    go_wp2
    exact bodyPost_ret (v := .tuple #[.agg #[.string ⟨#[]⟩, .int .i64 0, .int .i64 0, .int .i64 0, .int .i64 0, .int .i64 0, .int .i64 0], .bool false]) (by simp [results, Tryz.results48, go_sem, xr, zr, yr]) rfl ⟨rfl, by have := hb1.out; exact blBy⟩
  | true =>
    have kq := hok.out rfl
    go_wp2
    exact bodyPost_ret (v := .tuple #[.agg #[.string ⟨#[]⟩, .int .i64 0, .int .i64 0, .int .i64 0, .int .i64 0, .int .i64 0, .int .i64 0], .bool false]) (by simp [results, Tryz.results48, go_sem, xr, zr, yr]) rfl ⟨rfl, by have := hb1.out; exact blBy⟩
theorem cloneS (x : List Int) (w : World) (hl : x.length ≤ 4000000) : Calls Tryz.prog 20 #[.string (strOfNums x)] w fun e w' => e = .returned (.string (strOfNums x)) ∧ Below w.heap.size w w' := by
  have HC := hid (Tryz.stringslite_Clone (strOfNums x) w (by rw [strOfNums_size]; omega))
  go_enter Tryz.func20, Tryz.ntmps20
  go_wp2_with fail
  refine HC.out.mono ?_
  rintro e w1 ⟨rfl, hb1⟩
  replace hb1 := hid hb1
  go_wp2
  go_ret
  exact ⟨rfl, hb1.out⟩
theorem good_at {l : List TV} (hg : goodB l = true) {k : Nat} (hk : k < l.length) : stepB l k l[k].t = true := by
  unfold goodB at hg
  rw [Bool.and_eq_true] at hg
  have : ∀ (r : List TV) (i j : Nat), goodA l r i = true → (hj : j < r.length) → stepB l (i + j) r[j].t = true := by
    intro r
    induction r with
    | nil => intro i j _ hj; simp at hj
    | cons x r ih =>
      intro i j h hj
      rw [goodA, Bool.and_eq_true] at h
      cases j with
      | zero => exact h.1
      | succ j =>
        have := ih (i + 1) j h.2 (by simpa using hj)
        rw [show i + (j + 1) = i + 1 + j by omega]
        exact this
  have := this l 0 k hg.2 hk
  rw [Nat.zero_add] at this
  exact this
end Go.Proofs.YtmfaakimhgkedaaGreatDoor
namespace Go.Proofs.YtmfaakimhgkedaaGreatDoor
open Go.RowKit
set_option maxRecDepth 1000000
set_option linter.unusedVariables false
set_option linter.unusedSimpArgs false
set_option maxHeartbeats 1000000
end Go.Proofs.YtmfaakimhgkedaaGreatDoor
namespace Go.Proofs.YtmfaakimhgkedaaGreatDoor
open Go.RowKit
set_option maxRecDepth 1000000
set_option linter.unusedVariables false
set_option linter.unusedSimpArgs false
set_option maxHeartbeats 1000000
section
variable (f : FT) (w : World)
end
end Go.Proofs.YtmfaakimhgkedaaGreatDoor
namespace Go.Proofs.YtmfaakimhgkedaaGreatDoor
open Go.RowKit
set_option maxRecDepth 1000000
set_option linter.unusedVariables false
set_option linter.unusedSimpArgs false
set_option maxHeartbeats 1000000
theorem fnd_find {α : Type} (p : α → Bool) : ∀ (l : List α) (i : Nat), (fnd p l i < 0 ∧ l.find? p = none) ∨ ∃ (j : Nat) (hj : j < l.length), fnd p l i = ((i + j : Nat) : Int) ∧ l.find? p = some l[j]
  | [], i => .inl ⟨by simp [fnd], rfl⟩
  | x :: r, i => by
    rw [fnd, List.find?_cons]
    by_cases h : p x = true
    · rw [if_pos h, h]
      exact .inr ⟨0, by simp, by simp, rfl⟩
    · rw [if_neg h, Bool.eq_false_iff.2 h]
      rcases fnd_find p r (i + 1) with ⟨h1, h2⟩ | ⟨j, hj, h1, h2⟩
      · exact .inl ⟨h1, h2⟩
      · exact .inr ⟨j + 1, by simp; omega, by rw [h1]; congr 1; omega, by simpa using h2⟩
end Go.Proofs.YtmfaakimhgkedaaGreatDoor
