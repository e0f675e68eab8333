/-
  What is around a type.
  A table is good: what the program answers.
  A type by its name: both answers.
  The table of the examples.
  A type at its index, where it is a message of a good table.
  A type at its index, where there is none of that sort.
  A field by its number: where there is none; a field in memory of its own.
  A field by its number: what the program answers.
  What a field takes an entry as: what the program answers.
  Takes, Named: what the program answers.
  Changes, gathered one behind the other.
  Ranges: held against one another, one list within another.
-/
import Derived.Test.YtmjgonckadcbkaaGreatDoorCTP
import Derived.Test.YtmjgonckadcbkaaGreatDoorCTH
import Derived.Deep.RegionHeld3
import Derived.Laws.StructEq
import Derived.BigQuiet
namespace Go.Proofs.YtmjgonckadcbkaaGreatDoor
open Go.RowKit
set_option maxRecDepth 1000000
set_option linter.unusedVariables false
set_option linter.unusedSimpArgs false
set_option maxHeartbeats 1000000
def lastD (x : List Int) : Int := Lib.lastIndexByte (strOfNums x) 46
theorem lastD_is (x : List Int) : lastD x = -1 ∨ ∃ i : Nat, lastD x = i ∧ i < x.length := by
  rcases Lib.lastIndexByte_spec (strOfNums x) 46 with ⟨e, _⟩ | ⟨i, hi, e, _⟩
  · exact .inl e
  · exact .inr ⟨i, e, by rw [strOfNums_size] at hi; exact hi⟩
theorem lastT (x : List Int) (w : World) (h : x.length < 4611686018427387904) : Calls Tryz.prog 53 #[.string (strOfNums x), .string dotS] w fun e w' => e = .returned (.int .i64 (lastD x)) ∧ w = w' := by
  refine (Tryz.strings_LastIndex_one (strOfNums x) dotS rfl (by rw [strOfNums_size]; exact h) w).mono ?_
  rintro e w' ⟨rfl, rfl⟩
  exact ⟨rfl, rfl⟩
def standB (l : List TV) (i : Nat) (x : List Int) : Bool := if lastD x < 0 then true else match (l.take i).find? (fun v => v.t.name == x.take (lastD x).toNat) with
  | none => false
  | some v => !v.t.enum
theorem standsRightT (w : World) (l : List TV) (ta : Option Addr) (tc : Nat) (b i : Nat) (x : List Int) (h : TbR w (.slice ta l.length tc) l) (hk : Kn w b l i) (hx : TxA x) (hl : x.length < 4294967281) : Calls Tryz.prog 37 #[.agg #[.slice ta l.length tc], .map (some b), .string (strOfNums x)] w fun e w' => e = .returned (.bool (standB l i x)) ∧ Below w.heap.size w w' := by
  have HX : Hid (standB l i x = if lastD x < 0 then true else match (l.take i).find? (fun v => v.t.name == x.take (lastD x).toNat) with
  | none => false
  | some v => !v.t.enum) := hid rfl
  have HC : Hid (∀ W, Calls Tryz.prog 53 #[.string (strOfNums x), .string dotS] W fun e w' => e = .returned (.int .i64 (lastD x)) ∧ W = w') := hid fun W => lastT x W (by omega)
  obtain ⟨_, _, e, hn⟩ := rowS_sl h.row
  clear e
  have h1 : (l.length : Int) ≤ 9223372036854775807 := by omega
  have HT := hid h
  have HK := hid hk
  rcases lastD_is x with e | ⟨k, e, hkx⟩
  · rw [e] at HX HC
    replace HX := hid (show standB l i x = true by rw [HX.out]; rfl)
    clear h hk hx
    go_enter Tryz.func37, Tryz.ntmps37
    go_wp2_with (first | (go_at_call 53; refine (HC.out _).mono ?_; rintro e w1 ⟨rfl, rfl⟩))
    go_ret
    exact ⟨ret_bool HX.out.symm, by exact blBy⟩
  rw [e] at HX HC
  have hy : TxA (x.take k) := ⟨fun c hc => hx.1 c (List.mem_of_mem_take hc), by have := hx.2; simp; omega⟩
  have HS : Hid ((strOfNums x).extract 0 k = strOfNums (x.take k)) := hid (by rw [str_cut]; rfl)
  have HSZ : (strOfNums x).size = x.length := strOfNums_size x
  replace HX := hid (show standB l i x = match (l.take i).find? (fun v => v.t.name == x.take k) with
  | none => false
  | some v => !v.t.enum by rw [HX.out, if_neg (by omega)]; rfl)
  have k0 : ¬ (k : Int) < 0 := by omega
  have hkx' : (k : Int) < (x.length : Int) := by omega
  obtain ⟨c, hr, hc⟩ := (HK.out.kept (below_alloc (w := w) (.cells #[.slice ta l.length tc] 24))).look hy
  rw [← HS.out] at hr
  cases hf : (l.take i).find? (fun v => v.t.name == x.take k) with
  | none =>
    have hno : named (l.take i) (x.take k) = false := by
      unfold named
      rw [List.any_eq_false]
      intro v hv
      exact List.find?_eq_none.1 hf v hv
    replace HX := hid (show standB l i x = false by rw [HX.out, hf])
    rw [hno] at hr
    clear h hk hx hno hf hc
    go_enter Tryz.func37, Tryz.ntmps37
    go_wp2_with (first | (go_at_call 53; refine (HC.out _).mono ?_; rintro e w1 ⟨rfl, rfl⟩))
    go_ret
    exact ⟨ret_bool HX.out.symm, by exact blBy⟩
  | some v =>
    have hyes : named (l.take i) (x.take k) = true := by
      unfold named
      rw [List.any_eq_true]
      exact ⟨v, List.mem_of_find?_eq_some hf, by simpa using List.find?_some hf⟩
    obtain ⟨j, hj, ej⟩ := List.mem_take_iff_getElem.1 (List.mem_of_find?_eq_some hf)
    have hjl : j < l.length := by omega
    have hcj : c = (j : Int) := hc j hjl (by omega) (by rw [ej]; simpa using List.find?_some hf)
    subst hcj
    replace HX := hid (show standB l i x = !l[j].t.enum by rw [HX.out, hf, ej])
    rw [hyes] at hr
    have hjl' : (j : Int) < (l.length : Int) := by omega
    obtain ⟨tb, tof, rfl, hbl, -, c1, -⟩ := row6 HT.out.row hjl
    clear h hk hx hyes hf hc ej
    generalize l[j].t.enum = en at *
    go_enter Tryz.func37, Tryz.ntmps37
    go_wp2_with (first | (go_at_call 53; refine (HC.out _).mono ?_; rintro e w1 ⟨rfl, rfl⟩))
    go_ret
    exact ⟨ret_bool HX.out.symm, by exact blBy⟩
/-- What is asked of a table: that its texts and numbers can be. -/
structure OkV (x : TV) : Prop where
  ok : OkT x.t
  nl : x.t.name.length < 4294967281
  sz : x.t.fs.length + x.t.os.length + x.t.rs.length ≤ 9223372036854775807
def stepB (l : List TV) (j : Nat) (t : TT) : Bool := !named (l.take j) t.name && (fullB t && (standB l j t.name && typB l t))
def goodA (l : List TV) : List TV → Nat → Bool
  | [], _ => true
  | x :: r, j => stepB l j x.t && goodA l r (j + 1)
def goodB (l : List TV) : Bool := decide (l.length ≤ 128) && goodA l l 0
theorem run_makeMap0 {P : Program} (t : TypeId) (w : World) {ki e : TypeId} (ht : P.underlying t = some (.map ki e)) : (Instr.makeMap t none).run P w = .ok (.map (some w.heap.size)) (w.alloc (.map #[] 0)) := by
  simp [Instr.makeMap, run_underlying ht, Result.andThen]
theorem goodT (w : World) (l : List TV) (ta : Option Addr) (tc : Nat) (h : TbR w (.slice ta l.length tc) l) (hk : ∀ x ∈ l, OkV x) (m : Int) (hm : w.cell? ⟨0, 0, none⟩ = some (.int .i64 m)) : Calls Tryz.prog 18 #[.agg #[.slice ta l.length tc]] w fun e w' => e = .returned (.bool (goodB l)) ∧ Below w.heap.size w w' := by
  obtain ⟨_, _, e, hn⟩ := rowS_sl h.row
  clear e
  have h1 : (l.length : Int) ≤ 9223372036854775807 := by omega
  have HT := hid h
  have HK := hid hk
  have HM := hid hm
  clear h hk hm
  have HX : Hid (goodB l = (decide (l.length ≤ 128) && goodA l l 0)) := hid rfl
  by_cases hbig : 128 < l.length
  case pos =>
    have h2 : (128 : Int) < (l.length : Int) := by omega
    replace HX := hid (show goodB l = false by rw [HX.out, decide_eq_false (by omega)]; rfl)
    go_enter Tryz.func18, Tryz.ntmps18
    go_wp2
    go_ret
    exact ⟨ret_bool HX.out.symm, by exact blBy⟩
  have h2 : ¬ (128 : Int) < (l.length : Int) := by omega
  replace HX := hid (show goodB l = goodA l l 0 by rw [HX.out, decide_eq_true (by omega)]; rfl)
  have hmk := fun W => run_makeMap0 (P := Tryz.prog) 58 W Tryz.underlying58
  go_enter Tryz.func18, Tryz.ntmps18
  go_wp2
  clear hmk
  go_loopw [16] (fun r wr => ∃ j : Nat, r = .int .i64 j ∧ j ≤ l.length ∧ Hid (goodA l l 0 = goodA l (l.drop j) j) ∧ Hid (Kn wr (w.heap.size + 1) l j) ∧ Hid (Blk wr w.heap.size 24 #[.slice ta l.length tc]) ∧ Hid (Below w.heap.size w wr)) (fun r wr => l.length - numAt wr r)
  case atStart => exact ⟨0, rfl, by omega, hid rfl, hid (by have := Kn.new (w.alloc (Obj.cells #[Value.slice ta l.length tc] 24)) l; simpa using this), hid ((Blk.new _ _ _).kept (below_alloc _)), hid (by exact blBy)⟩
  case round =>
    obtain ⟨j, rfl, hj, hg, HKN, hB, hb⟩ := hrel
    by_cases hlt : j < l.length
    · have h3 : (j : Int) < (l.length : Int) := by omega
      have HST : Hid (goodA l (l.drop j) j = (stepB l j l[j].t && goodA l (l.drop (j + 1)) (j + 1))) := hid (by rw [List.drop_eq_getElem_cons hlt, goodA])
      have HTY := hid (HT.out.ty _ (List.getElem_mem hlt))
      have HOK := hid (HK.out _ (List.getElem_mem hlt))
      obtain ⟨tb, tof, rfl, hbl, c0, c1, c2, c3, c4, c5⟩ := row6 (HT.out.row.kept hb.out) hlt
      have HPUT : Hid (∀ W, Kn W (w.heap.size + 1) l j → named (l.take j) l[j].t.name = false → ∃ w', (Instr.mapUpdate 58 (.map (some (w.heap.size + 1))) (.string (strOfNums l[j].t.name)) (.int .i64 (j : Int))).run Tryz.prog W = .ok () w' ∧ Kn w' (w.heap.size + 1) l (j + 1) ∧ W.grownBy w' (some (w.heap.size + 1))) := hid fun W hW hN => hW.put hlt (by omega) (fun v hv => (HK.out v hv).ok.nm) hN
      generalize l[j] = x at *
      obtain ⟨t, f, o, s, r⟩ := x
      obtain ⟨fa, fc, ef, -⟩ := rowS_sl HTY.out.f
      obtain ⟨oa, oc, eo, -⟩ := rowS_sl HTY.out.o
      obtain ⟨sa, sc, es, -⟩ := rowS_sl HTY.out.s
      obtain ⟨ra, rc, er, -⟩ := rowS_sl HTY.out.r
      dsimp only at ef eo es er
      subst ef eo es er
      dsimp only at c0 c1 c2 c3 c4 c5
      obtain ⟨c, hr, -⟩ := (HKN.out.kept (below_alloc (w := wr) (.cells #[.string (strOfNums t.name), .bool t.enum, .slice fa t.fs.length fc, .slice oa t.os.length oc, .slice sa t.ss.length sc, .slice ra t.rs.length rc] 50))).look HOK.out.ok.nm
      try dsimp only at hr
      have Ba := hB.out
      have xa := Ba.cellF
      have ya := Ba.frz
      have za : w.heap.size < wr.heap.size := Ba.lt
      cases q0 : named (l.take j) t.name with
      | true =>
        rw [q0] at hr
        have HF : Hid (goodB l = false) := hid (by rw [HX.out, hg.out, HST.out]; simp [stepB, q0])
        go_wp2
        go_ret
        exact ⟨ret_bool HF.out.symm, by have := hb.out; exact blBy⟩
      | false =>
      rw [q0] at hr
      go_wp2_with fail
      refine (isFullNameT _ t _ _ _ _ m (cell_below HM.out (by have := hb.out; exact blBy)) HOK.out.ok.nm.1 HOK.out.nl).mono ?_
      rintro e w1 ⟨rfl, hb1⟩
      have Bb : Blk (wr.alloc (.cells #[.string (strOfNums t.name), .bool t.enum, .slice fa t.fs.length fc, .slice oa t.os.length oc, .slice sa t.ss.length sc, .slice ra t.rs.length rc] 50)) wr.heap.size 50 #[.string (strOfNums t.name), .bool t.enum, .slice fa t.fs.length fc, .slice oa t.os.length oc, .slice sa t.ss.length sc, .slice ra t.rs.length rc] := Blk.new _ _ _
      have Ba := Ba.kept (below_alloc (.cells #[.string (strOfNums t.name), .bool t.enum, .slice fa t.fs.length fc, .slice oa t.os.length oc, .slice sa t.ss.length sc, .slice ra t.rs.length rc] 50))
      replace HKN := hid (HKN.out.kept (below_alloc (.cells #[.string (strOfNums t.name), .bool t.enum, .slice fa t.fs.length fc, .slice oa t.os.length oc, .slice sa t.ss.length sc, .slice ra t.rs.length rc] 50)))
      have xb : True := trivial
      have yb : True := trivial
      have zb : True := trivial
      clear hr
      replace Ba : Blk w1 w.heap.size 24 #[.slice (some ⟨tb, tof, none⟩) l.length tc] := Blk.kept (Ba.is (by first | rfl | simp)) hb1
      replace Bb : Blk w1 wr.heap.size 50 #[.string (strOfNums t.name), .bool t.enum, .slice fa t.fs.length fc, .slice oa t.os.length oc, .slice sa t.ss.length sc, .slice ra t.rs.length rc] := Blk.kept (Bb.is (by first | rfl | simp)) hb1
      replace HKN := hid (HKN.out.kept hb1)
      clear xa ya xb yb
      have hs1 := hb1.size
      try simp at hs1
      have xa := Ba.cellF
      have ya := Ba.frz
      replace za : w.heap.size < w1.heap.size := by omega
      have xb := Bb.cellF
      have yb := Bb.frz
      replace zb : wr.heap.size < w1.heap.size := by omega
      replace hb1 : Hid (Below w.heap.size w w1) := hid (bl_then (by have := hb.out; exact blBy) hb1)
      cases q1 : fullB t with
      | false =>
        have HF : Hid (goodB l = false) := hid (by rw [HX.out, hg.out, HST.out]; simp [stepB, q0, q1])
        go_wp2
        go_ret
        exact ⟨ret_bool HF.out.symm, by have := hb1.out; exact blBy⟩
      | true =>
      go_wp2_with fail
      refine (standsRightT _ l _ tc (w.heap.size + 1) j t.name (HT.out.kept (by have := hb1.out; exact blBy)) HKN.out HOK.out.ok.nm HOK.out.nl).mono ?_
      rintro e w2 ⟨rfl, hb2⟩
      replace Ba : Blk w2 w.heap.size 24 #[.slice (some ⟨tb, tof, none⟩) l.length tc] := Blk.kept (Ba.is (by first | rfl | simp)) hb2
      replace Bb : Blk w2 wr.heap.size 50 #[.string (strOfNums t.name), .bool t.enum, .slice fa t.fs.length fc, .slice oa t.os.length oc, .slice sa t.ss.length sc, .slice ra t.rs.length rc] := Blk.kept (Bb.is (by first | rfl | simp)) hb2
      replace HKN := hid (HKN.out.kept hb2)
      clear xa ya xb yb
      have hs2 := hb2.size
      try simp at hs2
      have xa := Ba.cellF
      have ya := Ba.frz
      replace za : w.heap.size < w2.heap.size := by omega
      have xb := Bb.cellF
      have yb := Bb.frz
      replace zb : wr.heap.size < w2.heap.size := by omega
      replace hb2 : Hid (Below w.heap.size w w2) := hid (bl_then hb1.out hb2)
      cases q2 : standB l j t.name with
      | false =>
        have HF : Hid (goodB l = false) := hid (by rw [HX.out, hg.out, HST.out]; simp [stepB, q0, q1, q2])
        go_wp2
        go_ret
        exact ⟨ret_bool HF.out.symm, by have := hb2.out; exact blBy⟩
      | true =>
      go_wp2_with fail
      refine (isGoodTypeT _ l _ tc t fa oa sa ra fc oc sc rc (HT.out.kept (by have := hb2.out; exact blBy)) (HTY.out.kept (by have := hb2.out; exact blBy)) HOK.out.ok HOK.out.sz).mono ?_
      rintro e w3 ⟨rfl, hb3⟩
      replace Ba : Blk w3 w.heap.size 24 #[.slice (some ⟨tb, tof, none⟩) l.length tc] := Blk.kept (Ba.is (by first | rfl | simp)) hb3
      replace Bb : Blk w3 wr.heap.size 50 #[.string (strOfNums t.name), .bool t.enum, .slice fa t.fs.length fc, .slice oa t.os.length oc, .slice sa t.ss.length sc, .slice ra t.rs.length rc] := Blk.kept (Bb.is (by first | rfl | simp)) hb3
      replace HKN := hid (HKN.out.kept hb3)
      clear xa ya xb yb
      have hs3 := hb3.size
      try simp at hs3
      have xa := Ba.cellF
      have ya := Ba.frz
      replace za : w.heap.size < w3.heap.size := by omega
      have xb := Bb.cellF
      have yb := Bb.frz
      replace zb : wr.heap.size < w3.heap.size := by omega
      replace hb3 : Hid (Below w.heap.size w w3) := hid (bl_then hb2.out hb3)
      cases q3 : typB l t with
      | false =>
        have HF : Hid (goodB l = false) := hid (by rw [HX.out, hg.out, HST.out]; simp [stepB, q0, q1, q2, q3])
        go_wp2
        go_ret
        exact ⟨ret_bool HF.out.symm, by have := hb3.out; exact blBy⟩
      | true =>
      obtain ⟨w4, hr4, hk4, hg4⟩ := HPUT.out w3 HKN.out q0
      try dsimp only at hr4
      have HK4 := hid hk4
      have HB4 : Hid (Blk w4 w.heap.size 24 #[.slice (some ⟨tb, tof, none⟩) l.length tc]) := hid ((hg4.block _ za (by simp)).trans Ba)
      have HL4 : Hid (Below w.heap.size w w4) := hid (hb3.out.trans (grown_below hg4 (by omega) (by omega)))
      clear hk4 hg4
      go_wp2
      exact ⟨⟨j + 1, by simp, by omega, hid (by rw [hg.out, HST.out]; simp [stepB, q0, q1, q2, q3]), HK4, HB4, HL4⟩, by simp [numAt]; omega⟩
    · have h3 : ¬ (j : Int) < (l.length : Int) := by omega
      have HF : Hid (goodB l = true) := hid (by rw [HX.out, hg.out, List.drop_of_length_le (by omega)]; rfl)
      go_wp2
      go_ret
      exact ⟨ret_bool HF.out.symm, hb.out⟩
def nameP (nm : List Int) (v : TV) : Bool := decide (v.t.name = nm)
def findI (l : List TV) (nm : List Int) : Int := fnd (nameP nm) l 0
theorem fnd_ge {α : Type} (p : α → Bool) : ∀ (l : List α) (i : Nat), fnd p l i < 0 → fnd p l i = -1
  | [], i, _ => rfl
  | x :: r, i, h => by
    rw [fnd] at h ⊢
    split at h
    · omega
    · rename_i q
      rw [if_neg q]
      exact fnd_ge p r (i + 1) h
theorem findR (w : World) (l : List TV) (ta : Option Addr) (tc : Nat) (h : TbR w (.slice ta l.length tc) l) (hk : ∀ x ∈ l, TxA x.t.name) (nm : List Int) (hn : TxA nm) : Calls Tryz.prog 16 #[.agg #[.slice ta l.length tc], .string (strOfNums nm)] w fun e w' => e = .returned (.int .i64 (findI l nm)) ∧ Below w.heap.size w w' := by
  obtain ⟨_, _, e, hn2⟩ := rowS_sl h.row
  clear e
  have h1 : (l.length : Int) ≤ 9223372036854775807 := by omega
  have HT := hid h
  have HK := hid hk
  have HN := hid hn
  clear h hk hn
  go_enter Tryz.func16, Tryz.ntmps16
  go_wp2
  go_loopw [5] (fun r wr => ∃ j : Nat, r = .int .i64 j ∧ j ≤ l.length ∧ Hid (findI l nm = fnd (nameP nm) (l.drop j) j) ∧ Hid (Blk wr w.heap.size 24 #[.slice ta l.length tc]) ∧ Hid (Below w.heap.size w wr)) (fun r wr => l.length - numAt wr r)
  case atStart => exact ⟨0, rfl, by omega, hid rfl, hid (Blk.new _ _ _), hid (by exact blBy)⟩
  case round =>
    obtain ⟨j, rfl, hj, hf, BX, hb⟩ := hrel
    have xb := BX.out.cellF
    have zb := BX.out.lt
    by_cases hlt : j < l.length
    · have h2 : (j : Int) < (l.length : Int) := by omega
      obtain ⟨b, o, rfl, hbl, c0, -⟩ := row6 (HT.out.row.kept hb.out) hlt
      have HST := hid (fnd_at (p := nameP nm) hlt)
      have HS := hid (str_eq (HK.out _ (List.getElem_mem hlt)).1 HN.out.1)
      clear HK
      generalize l[j] = x at *
      have hs := HS.out
      by_cases hq : x.t.name = nm
      · rw [decide_eq_true hq] at hs
        have HQ : Hid (nameP nm x = true) := hid (by unfold nameP; exact decide_eq_true hq)
        replace hq := hid hq
        go_wp2
        go_ret
        exact ⟨ret_int (by rw [hf.out, HST.out, HQ.out]; simp), by have := hb.out; exact blBy⟩
      · rw [decide_eq_false hq] at hs
        have HQ : Hid (nameP nm x = false) := hid (by unfold nameP; exact decide_eq_false hq)
        replace hq := hid hq
        go_wp2
        exact ⟨⟨j + 1, by simp, by omega, hid (by rw [hf.out, HST.out, HQ.out]; simp), BX, hid (by have := hb.out; exact blBy)⟩, by simp [numAt]; omega⟩
    · have h2 : ¬ (j : Int) < (l.length : Int) := by omega
      have HE : Hid (findI l nm = -1) := hid (by rw [hf.out, List.drop_of_length_le (by omega)]; rfl)
      go_wp2
      go_ret
      exact ⟨ret_int (by rw [HE.out]), by have := hb.out; exact blBy⟩
theorem rowOf {w : World} {b : Nat} {t : TypeId} {cs : Array Value} (B : Blk w b t cs) (k n : Nat) (fl : List Value) (h : cs = fl.toArray) (hl : fl.length = n * k) (hn : n ≤ 9223372036854775807) : RowS w AnyZ k (.slice (some ⟨b, 0, none⟩) n n) n fl :=
  ⟨some ⟨b, 0, none⟩, n, rfl, hl, Nat.le_refl _, hn, .inr ⟨b, 0, rfl, trivial, fun j u hu => by
    rw [Nat.zero_add]
    exact B.cell j u (by rw [h, List.getElem?_toArray]; exact hu)⟩⟩
def simE (h : Nat) : TV := ⟨⟨[69], true, [], [], [⟨[65], 0⟩], []⟩, .slice none 0 0, .slice none 0 0, .slice (some ⟨h + 1, 0, none⟩) 1 1, .slice none 0 0⟩
def simF : List FT := [⟨[120], 1, 2, 0, 0, 0, 0⟩, ⟨[108], 2, 4, 0, 3, 0, 0⟩, ⟨[109], 3, 17, 1, 1, 0, 0⟩]
def simM (h : Nat) : TV := ⟨⟨[77], false, simF, [], [], []⟩, .slice (some ⟨h + 1 + 1, 0, none⟩) 3 3, .slice none 0 0, .slice none 0 0, .slice none 0 0⟩
def simL (h : Nat) : List TV := [simE h, simM h]
theorem simpleW (w : World) : Calls Tryz.prog 25 #[] w fun e w' => e = .returned (.agg #[.slice (some ⟨w.heap.size + 1 + 1 + 1, 0, none⟩) (simL w.heap.size).length 2]) ∧ TbR w' (.slice (some ⟨w.heap.size + 1 + 1 + 1, 0, none⟩) (simL w.heap.size).length 2) (simL w.heap.size) ∧ Below w.heap.size w w' := by
  have HT : Hid (∀ W : World, Blk W (w.heap.size + 1) 77 #[.string ⟨#[65]⟩, .int .i64 0] → Blk W (w.heap.size + 1 + 1) 79 #[.string ⟨#[120]⟩, .int .i64 1, .int .i64 2, .int .i64 0, .int .i64 0, .int .i64 0, .int .i64 0, .string ⟨#[108]⟩, .int .i64 2, .int .i64 4, .int .i64 0, .int .i64 3, .int .i64 0, .int .i64 0, .string ⟨#[109]⟩, .int .i64 3, .int .i64 17, .int .i64 1, .int .i64 1, .int .i64 0, .int .i64 0] → Blk W (w.heap.size + 1 + 1 + 1) 50 #[.string ⟨#[69]⟩, .bool true, .slice none 0 0, .slice none 0 0, .slice (some ⟨w.heap.size + 1, 0, none⟩) 1 1, .slice none 0 0, .string ⟨#[77]⟩, .bool false, .slice (some ⟨w.heap.size + 1 + 1, 0, none⟩) 3 3, .slice none 0 0, .slice none 0 0, .slice none 0 0] → TbR W (.slice (some ⟨w.heap.size + 1 + 1 + 1, 0, none⟩) (simL w.heap.size).length 2) (simL w.heap.size)) := hid fun W B1 B2 B3 => by
    refine ⟨rowOf B3 6 2 _ rfl rfl (by decide), fun x hx => ?_⟩
    rcases List.mem_cons.1 hx with rfl | hx
    · exact ⟨rowS_nil _ _ _, rowS_nil _ _ _, rowOf B1 2 1 _ rfl rfl (by decide), rowS_nil _ _ _⟩
    · rcases List.mem_cons.1 hx with rfl | hx
      · exact ⟨rowOf B2 7 3 _ rfl rfl (by decide), rowS_nil _ _ _, rowS_nil _ _ _, rowS_nil _ _ _⟩
      · cases hx
  go_enter Tryz.func25, Tryz.ntmps25
  go_wp2
  refine bodyPost_ret (v := .agg #[.slice (some ⟨w.heap.size + 1 + 1 + 1, 0, none⟩) 2 2]) (by simp [results, Tryz.results25, go_sem]) rfl ⟨rfl, HT.out _ ?_ ?_ ?_, by exact blBy⟩
  · exact ((Blk.newAt (by simp)).kept (below_alloc _)).kept (below_alloc _)
  · exact (Blk.newAt (by simp)).kept (below_alloc _)
  · exact Blk.newAt (by simp)
theorem simGood (h : Nat) : goodB (simL h) = true := by kernel_rfl
theorem simOk (h : Nat) : ∀ x ∈ simL h, OkV x := by
  have tx : ∀ n : List Int, n ∈ ([[69], [77], [65], [120], [108], [109]] : List (List Int)) → TxA n := by
    intro n hn
    simp only [List.mem_cons, List.not_mem_nil, or_false] at hn
    rcases hn with rfl | rfl | rfl | rfl | rfl | rfl <;> exact ⟨by decide, by decide⟩
  intro x hx
  rcases List.mem_cons.1 hx with rfl | hx
  · refine ⟨⟨tx _ (by simp [simE]), by simp [simE], by simp [simE], fun s hs => ?_⟩, by simp [simE], by simp [simE]⟩
    simp [simE] at hs
    subst hs
    exact ⟨tx _ (by simp), by unfold I64; decide⟩
  · rcases List.mem_cons.1 hx with rfl | hx
    · refine ⟨⟨tx _ (by simp [simM]), fun f hf => ?_, by simp [simM], by simp [simM]⟩, by simp [simM], by simp [simM, simF]⟩
      simp [simM, simF] at hf
      rcases hf with rfl | rfl | rfl <;> exact tx _ (by simp)
    · cases hx
/-- What Find answers, where a field has that number. -/
theorem fieldOfOk (fs : List FT) (n : Int) (w : World) (a : Option Addr) (c : Nat) (h : RowS w AnyZ 7 (.slice a fs.length c) fs.length (fs.flatMap cFT)) (hr : Rise fs) (hl : fs.length ≤ 128) (k : Nat) (hk : k < fs.length) (hn : fs[k].num = n) : Calls Tryz.prog 48 #[.slice a fs.length c, .int .i64 n] w fun e w' => e = .returned (.tuple #[.agg #[.string (strOfNums fs[k].name), .int .i64 fs[k].num, .int .i64 fs[k].kind, .int .i64 fs[k].ref, .int .i64 fs[k].lab, .int .i64 fs[k].one, .int .i64 fs[k].key], .bool true]) ∧ Below w.heap.size w w' := by
  have HL : Hid (∀ W, Below w.heap.size w W → Calls Tryz.prog 68 #[.slice a fs.length c, .int .i64 n] W fun e w' => e = .returned (.tuple #[.agg #[.string (strOfNums fs[k].name), .int .i64 fs[k].num, .int .i64 fs[k].kind, .int .i64 fs[k].ref, .int .i64 fs[k].lab, .int .i64 fs[k].one, .int .i64 fs[k].key], .bool true]) ∧ Below W.heap.size W w') := hid fun W hW => ((lastUpToT fs n W a c (h.kept hW) hr hl).mono fun e w' hq => by
    rcases hq with ⟨⟨_, h1⟩ | ⟨j, hj, e1, h1, h2⟩, hb⟩
    · have := h1 k hk; omega
    · have ej : j = k := by
        rcases Nat.lt_trichotomy j k with q | q | q
        · have := h2 k q hk; omega
        · exact q
        · have := hr k j q hj hk; omega
      subst ej
      exact ⟨e1, hb⟩)
  clear h hr
  subst hn
  generalize fs[k] = f at *
  have kq : (f.num == f.num) = true := by simp
  go_enter Tryz.func48, Tryz.ntmps48
  go_wp2_with fail
  refine (HL.out _ (by exact blBy)).mono ?_
  rintro e w1 ⟨rfl, hb1⟩
  have Br : Blk w1 w.heap.size 79 #[.string ⟨#[]⟩, .int .i64 0, .int .i64 0, .int .i64 0, .int .i64 0, .int .i64 0, .int .i64 0] := (Blk.new _ _ _).kept hb1
  replace hb1 : Hid (Below w.heap.size w w1) := hid (bl_then (by exact blBy) hb1)
  have xr := Br.cellF
  have yr := Br.frz
  have zr := Br.lt
  go_wp2
  exact bodyPost_ret (v := .tuple #[.agg #[.string (strOfNums f.name), .int .i64 f.num, .int .i64 f.kind, .int .i64 f.ref, .int .i64 f.lab, .int .i64 f.one, .int .i64 f.key], .bool true]) (by simp [results, Tryz.results48, go_sem, xr, zr, yr]) rfl ⟨rfl, by have := hb1.out; exact blBy⟩
/-- The values of a field. -/
def aFT (f : FT) : Value := .agg #[.string (strOfNums f.name), .int .i64 f.num, .int .i64 f.kind, .int .i64 f.ref, .int .i64 f.lab, .int .i64 f.one, .int .i64 f.key]
def ftZ : FT := ⟨[], 0, 0, 0, 0, 0, 0⟩
theorem fieldOfNo (fs : List FT) (n : Int) (w : World) (a : Option Addr) (c : Nat) (h : RowS w AnyZ 7 (.slice a fs.length c) fs.length (fs.flatMap cFT)) (hr : Rise fs) (hl : fs.length ≤ 128) (hno : ∀ f ∈ fs, f.num ≠ n) : Calls Tryz.prog 48 #[.slice a fs.length c, .int .i64 n] w fun e w' => e = .returned (.tuple #[.agg #[.string ⟨#[]⟩, .int .i64 0, .int .i64 0, .int .i64 0, .int .i64 0, .int .i64 0, .int .i64 0], .bool false]) ∧ Below w.heap.size w w' := by
  have HL : Hid (∀ W, Below w.heap.size w W → Calls Tryz.prog 68 #[.slice a fs.length c, .int .i64 n] W fun e w' => (∃ (g : FT) (ok : Bool), e = .returned (.tuple #[.agg #[.string (strOfNums g.name), .int .i64 g.num, .int .i64 g.kind, .int .i64 g.ref, .int .i64 g.lab, .int .i64 g.one, .int .i64 g.key], .bool ok]) ∧ Hid (ok = true → (g.num == n) = false)) ∧ Below W.heap.size W w') := hid fun W hW => ((lastUpToT fs n W a c (h.kept hW) hr hl).mono fun e w' hq => by
    rcases hq with ⟨⟨e1, _⟩ | ⟨j, hj, e1, h1, h2⟩, hb⟩
    · exact ⟨⟨ftZ, false, e1, hid (fun q => by cases q)⟩, hb⟩
    · exact ⟨⟨fs[j], true, e1, hid (fun _ => by rw [beq_eq_false_iff_ne]; exact hno _ (List.getElem_mem hj))⟩, hb⟩)
  clear h hr hno
  go_enter Tryz.func48, Tryz.ntmps48
  go_wp2_with fail
  refine (HL.out _ (by exact blBy)).mono ?_
  rintro e w1 ⟨⟨f, ok, rfl, hok⟩, hb1⟩
  have Br : Blk w1 w.heap.size 79 #[.string ⟨#[]⟩, .int .i64 0, .int .i64 0, .int .i64 0, .int .i64 0, .int .i64 0, .int .i64 0] := (Blk.new _ _ _).kept hb1
  replace hb1 : Hid (Below w.heap.size w w1) := hid (bl_then (by exact blBy) hb1)
  have xr := Br.cellF
  have yr := Br.frz
  have zr := Br.lt
  cases ok with
  | false =>
    go_wp2
    exact bodyPost_ret (v := .tuple #[.agg #[.string ⟨#[]⟩, .int .i64 0, .int .i64 0, .int .i64 0, .int .i64 0, .int .i64 0, .int .i64 0], .bool false]) (by simp [results, Tryz.results48, go_sem, xr, zr, yr]) rfl ⟨rfl, by have := hb1.out; exact blBy⟩
  | true =>
    have kq := hok.out rfl
    go_wp2
    exact bodyPost_ret (v := .tuple #[.agg #[.string ⟨#[]⟩, .int .i64 0, .int .i64 0, .int .i64 0, .int .i64 0, .int .i64 0, .int .i64 0], .bool false]) (by simp [results, Tryz.results48, go_sem, xr, zr, yr]) rfl ⟨rfl, by have := hb1.out; exact blBy⟩
theorem cloneS (x : List Int) (w : World) (hl : x.length ≤ 4000000) : Calls Tryz.prog 20 #[.string (strOfNums x)] w fun e w' => e = .returned (.string (strOfNums x)) ∧ Below w.heap.size w w' := by
  have HC := hid (Tryz.stringslite_Clone (strOfNums x) w (by rw [strOfNums_size]; omega))
  go_enter Tryz.func20, Tryz.ntmps20
  go_wp2_with fail
  refine HC.out.mono ?_
  rintro e w1 ⟨rfl, hb1⟩
  replace hb1 := hid hb1
  go_wp2
  go_ret
  exact ⟨rfl, hb1.out⟩
theorem good_at {l : List TV} (hg : goodB l = true) {k : Nat} (hk : k < l.length) : stepB l k l[k].t = true := by
  unfold goodB at hg
  rw [Bool.and_eq_true] at hg
  have : ∀ (r : List TV) (i j : Nat), goodA l r i = true → (hj : j < r.length) → stepB l (i + j) r[j].t = true := by
    intro r
    induction r with
    | nil => intro i j _ hj; simp at hj
    | cons x r ih =>
      intro i j h hj
      rw [goodA, Bool.and_eq_true] at h
      cases j with
      | zero => exact h.1
      | succ j =>
        have := ih (i + 1) j h.2 (by simpa using hj)
        rw [show i + (j + 1) = i + 1 + j by omega]
        exact this
  have := this l 0 k hg.2 hk
  rw [Nat.zero_add] at this
  exact this
section
variable (f : FT) (w : World)
end
theorem fnd_find {α : Type} (p : α → Bool) : ∀ (l : List α) (i : Nat), (fnd p l i < 0 ∧ l.find? p = none) ∨ ∃ (j : Nat) (hj : j < l.length), fnd p l i = ((i + j : Nat) : Int) ∧ l.find? p = some l[j]
  | [], i => .inl ⟨by simp [fnd], rfl⟩
  | x :: r, i => by
    rw [fnd, List.find?_cons]
    by_cases h : p x = true
    · rw [if_pos h, h]
      exact .inr ⟨0, by simp, by simp, rfl⟩
    · rw [if_neg h, Bool.eq_false_iff.2 h]
      rcases fnd_find p r (i + 1) with ⟨h1, h2⟩ | ⟨j, hj, h1, h2⟩
      · exact .inl ⟨h1, h2⟩
      · exact .inr ⟨j + 1, by simp; omega, by rw [h1]; congr 1; omega, by simpa using h2⟩
/-- A change: its class, what it is, the type's name, the number. -/
structure CH where
  cls : Int
  what : Int
  ty : List Int
  num : Int
def cCH (c : CH) : List Value := [.int .i64 c.cls, .int .i64 c.what, .string (strOfNums c.ty), .int .i64 c.num]
/-- The worst class. -/
def wsC (cs : List CH) : Int := cs.foldl (fun m c => max m c.cls) 1
theorem wsC_snoc (cs : List CH) (c : CH) : wsC (cs ++ [c]) = max (wsC cs) c.cls := by unfold wsC; rw [List.foldl_append]; rfl
theorem Tryz.infoCH : (Tryz.prog.info? 56).map (fun i => (i.zero, i.size, i.bytes)) = some (some (.agg #[.int .i64 0, .int .i64 0, .string ⟨#[]⟩, .int .i64 0]), 4, 40) := by kernel_rfl
/-- One more. -/
theorem appendCH (base : Nat) (v : Value) (l : List CH) (y : CH) (w : World) (h : w.ownsRow base 56 4 v l.length (l.flatMap cCH)) (hb : base ≤ w.heap.size) (hn : l.length ≤ 4000000) :
    ∃ a c w', Hid ((Builtin.append_ #[25, 25] 25 #[v, .slice (some ⟨w.heap.size, 0, none⟩) 1 1]).run Tryz.prog (w.alloc (.cells #[.int .i64 y.cls, .int .i64 y.what, .string (strOfNums y.ty), .int .i64 y.num] 56)) = .ok (.slice a (l.length + 1) c) w') ∧ Hid (w'.ownsRow base 56 4 (.slice a (l.length + 1) c) (l ++ [y]).length ((l ++ [y]).flatMap cCH)) ∧ Hid (Grow w w' v (.slice a (l.length + 1) c)) := by
  obtain ⟨v', w', h1, h2, h3⟩ := append_st 56 25 4 40 (.agg #[.int .i64 0, .int .i64 0, .string ⟨#[]⟩, .int .i64 0]) Tryz.underlying25 Tryz.infoCH rfl (by decide) (by decide) base v l.length (l.flatMap cCH) w #[.int .i64 y.cls, .int .i64 y.what, .string (strOfNums y.ty), .int .i64 y.num] rfl (fun u hu => by simp at hu; rcases hu with rfl | rfl | rfl | rfl <;> rfl) h hb hn
  obtain ⟨a, c, rfl⟩ := own_shape h2
  exact ⟨a, c, w', hid h1, hid (by rw [List.flatMap_append, List.length_append]; exact h2), hid h3⟩
/-- What stays where changes are gathered: all below base, and all else but the two boxes and rows of changes. -/
structure EvF (base p q : Nat) (w w' : World) : Prop where
  os : w'.os = w.os
  tape : w'.tape = w.tape
  output : w'.output = w.output
  size : w.heap.size ≤ w'.heap.size
  block : ∀ k, k < w.heap.size → k < base ∨ (k ≠ p ∧ k ≠ q ∧ ∀ cs fr, w.heap[k]? ≠ some (.cells cs 56 fr)) → w'.heap[k]? = w.heap[k]?
theorem EvF.refl (base p q : Nat) (w : World) : EvF base p q w w := ⟨rfl, rfl, rfl, Nat.le_refl _, fun _ _ _ => rfl⟩
theorem EvF.trans {base p q : Nat} {w w1 w2 : World} (h : EvF base p q w w1) (g : EvF base p q w1 w2) : EvF base p q w w2 :=
  ⟨g.os.trans h.os, g.tape.trans h.tape, g.output.trans h.output, Nat.le_trans h.size g.size, fun k hk hf => by
    have e := h.block k hk hf
    rw [g.block k (Nat.lt_of_lt_of_le hk h.size) (hf.imp id fun ⟨h1, h2, h3⟩ => ⟨h1, h2, fun cs fr => by rw [e]; exact h3 cs fr⟩), e]⟩
theorem EvF.ofBelow {base p q : Nat} {w w' : World} (h : Below w.heap.size w w') : EvF base p q w w' := ⟨h.os, h.tape, h.output, h.size, fun k hk _ => h.block k hk⟩
theorem EvF.below {base p q : Nat} {w w' : World} (h : EvF base p q w w') (hb : base ≤ w.heap.size) : Below base w w' := ⟨h.os, h.tape, h.output, h.size, fun k hk => h.block k (by omega) (.inl hk)⟩
theorem Blk.evf {base p q : Nat} {w w' : World} {k : Nat} {t : TypeId} {cs : Array Value} (h : Blk w k t cs) (g : EvF base p q w w') (hp : k ≠ p) (hq : k ≠ q) (ht : t ≠ 56) : Blk w' k t cs := by
  refine (g.block k h.lt (.inr ⟨hp, hq, fun cs' fr e => ?_⟩)).trans h
  rw [show w.heap[k]? = _ from h] at e
  cases e
  exact ht rfl
theorem EvF.grow {base p q : Nat} {w w' : World} {v v' : Value} {n : Nat} {fl : List Value} (g : Grow w w' v v') (h : w.ownsRow base 56 4 v n fl) : EvF base p q w w' :=
  ⟨g.os, g.tape, g.output, g.size, fun k hk hf => g.block k hk fun e => by
    obtain ⟨h1, h2, cur, h3⟩ := own_type h e
    rcases hf with hf | ⟨_, _, hf⟩
    · omega
    · exact hf _ _ h3⟩
theorem EvF.setP {base p q : Nat} (w : World) (i : Nat) (v : Value) (hp : base ≤ p) : EvF base p q w (w.setCell ⟨p, i, none⟩ v) :=
  ⟨rfl, rfl, rfl, by simp [World.setCell], fun k hk hf => Below.heap_setCell _ _ _ _ (fun e => by
    have e' : k = p := e
    rcases hf with hf | ⟨hf, _⟩
    · omega
    · exact hf e')⟩
theorem EvF.setQ {base p q : Nat} (w : World) (i : Nat) (v : Value) (hp : base ≤ q) : EvF base p q w (w.setCell ⟨q, i, none⟩ v) :=
  ⟨rfl, rfl, rfl, by simp [World.setCell], fun k hk hf => Below.heap_setCell _ _ _ _ (fun e => by
    have e' : k = q := e
    rcases hf with hf | ⟨_, hf, _⟩
    · omega
    · exact hf e')⟩
/-- The changes up to now, in their box, and the worst class in its box. -/
structure EvS (w : World) (base p q : Nat) (cs : List CH) : Prop where
  hp : base ≤ p
  hq : base ≤ q
  row : ∃ v, Blk w p 25 #[v] ∧ w.ownsRow base 56 4 v cs.length (cs.flatMap cCH)
  wst : Blk w q 3 #[.int .i64 (wsC cs)]
theorem EvS.kept {w w' : World} {base p q : Nat} {cs : List CH} (h : EvS w base p q cs) (hb : Below w.heap.size w w') : EvS w' base p q cs := by
  obtain ⟨v, h1, h2⟩ := h.row
  exact ⟨h.hp, h.hq, ⟨v, h1.kept hb, own_kept h2 hb⟩, h.wst.kept hb⟩
theorem EvS.bp {w : World} {base p q : Nat} {cs : List CH} (h : EvS w base p q cs) : p < w.heap.size := by
  obtain ⟨v, h1, h2⟩ := h.row
  exact h1.lt
theorem EvS.bq {w : World} {base p q : Nat} {cs : List CH} (h : EvS w base p q cs) : q < w.heap.size := h.wst.lt
theorem Blk.ne {w : World} {a b : Nat} {t u : TypeId} {x y : Array Value} (h : Blk w a t x) (g : Blk w b u y) (ht : t ≠ u) : a ≠ b := fun e => by
  subst e
  have := h.symm.trans g
  cases this
  exact ht rfl
theorem EvS.more {w : World} {base p q : Nat} {cs : List CH} {y : CH} {v : Value} {a : Option Addr} {c : Nat} {w' : World} {m : Int} (hS : EvS w base p q cs) (hv : Blk w p 25 #[v]) (ho : w.ownsRow base 56 4 v cs.length (cs.flatMap cCH)) (hm : m = max (wsC cs) y.cls)
    (h2 : w'.ownsRow base 56 4 (.slice a (cs.length + 1) c) (cs ++ [y]).length ((cs ++ [y]).flatMap cCH)) (h3 : Grow w w' v (.slice a (cs.length + 1) c)) :
    EvS ((w'.setCell ⟨p, 0, none⟩ (.slice a (cs.length + 1) c)).setCell ⟨q, 0, none⟩ (.int .i64 m)) base p q (cs ++ [y]) ∧ EvF base p q w ((w'.setCell ⟨p, 0, none⟩ (.slice a (cs.length + 1) c)).setCell ⟨q, 0, none⟩ (.int .i64 m)) := by
  have hpq : p ≠ q := hv.ne hS.wst (by decide)
  have hB2 := grow_blk h3 ho hv (by decide)
  have hQ2 := grow_blk h3 ho hS.wst (by decide)
  have hP3 : Blk (w'.setCell ⟨p, 0, none⟩ (.slice a (cs.length + 1) c)) p 25 #[.slice a (cs.length + 1) c] := (hB2.set 0 _).is (by simp)
  have hQ3 : Blk (w'.setCell ⟨p, 0, none⟩ (.slice a (cs.length + 1) c)) q 3 #[.int .i64 (wsC cs)] := hQ2.other (fun e => hpq e.symm) _
  refine ⟨⟨hS.hp, hS.hq, ⟨_, hP3.other hpq _, ?_⟩, ?_⟩, ((EvF.grow h3 ho).trans (EvF.setP _ _ _ hS.hp)).trans (EvF.setQ _ _ _ hS.hq)⟩
  · refine own_keep (f := (· ≠ q)) ?_ (fun k hk e => ?_) (Keep.setCell _ _ _ (fun h => h rfl))
    · refine own_keep (f := (· ≠ p)) h2 (fun k hk e => ?_) (Keep.setCell _ _ _ (fun h => h rfl))
      obtain ⟨_, _, cur, h4⟩ := own_type h2 hk
      rw [e, show w'.heap[p]? = _ from hB2] at h4
      cases h4
    · obtain ⟨_, _, cur, h4⟩ := own_type h2 hk
      rw [e, show w'.heap[q]? = _ from hQ2] at h4
      cases h4
  · rw [wsC_snoc, ← hm]
    exact (hQ3.set 0 _).is (by simp)
/-- The gatherer, of a type's name in the box nb. -/
theorem tellT (w : World) (base p q nb : Nat) (nm : List Int) (cs : List CH) (what num cls : Int) (hS : EvS w base p q cs) (hN : Blk w nb 9 #[.string (strOfNums nm)]) (hb : base ≤ w.heap.size) (hn : cs.length ≤ 4000000) : Calls Tryz.prog 21 #[.int .i64 what, .int .i64 num, .int .i64 cls, .pointer (some ⟨p, 0, none⟩), .pointer (some ⟨nb, 0, none⟩), .pointer (some ⟨q, 0, none⟩)] w fun e w' => e = .returned (.tuple #[]) ∧ EvS w' base p q (cs ++ [⟨cls, what, nm, num⟩]) ∧ EvF base p q w w' := by
  obtain ⟨v, hv, ho⟩ := hS.row
  obtain ⟨a0, c0, rfl⟩ := own_shape ho
  obtain ⟨a, c, w', H1, H2, H3⟩ := appendCH base _ cs ⟨cls, what, nm, num⟩ w ho hb hn
  have HM := hid fun m hm => EvS.more (m := m) hS hv ho hm H2.out H3.out
  have hpq : p ≠ q := hv.ne hS.wst (by decide)
  have hqp : q ≠ p := fun e => hpq e.symm
  have P1 := grow_blk H3.out ho hv (by decide)
  have Q1 := grow_blk H3.out ho hS.wst (by decide)
  have x1 := hv.cellF
  have z1 := hv.lt
  have x2 := hN.cellF
  have z2 := hN.lt
  have x3 := P1.cellF
  have y3 := P1.frz
  have z3 := P1.lt
  have x4 := Q1.cellF
  have y4 := Q1.frz
  have z4 := Q1.lt
  clear hS hv ho hN H2 H3 P1 Q1 hb hn
  generalize wsC cs = m0 at *
  go_enter Tryz.func21, Tryz.ntmps21
  go_wp2_with (first | (at_builtin; refine wpList_append_ran rfl _ _ 25 25 rfl rfl _ _ (.slice a (cs.length + 1) c) w' rfl rfl H1.out ?_))
  go_end0
  exact ⟨rfl, HM.out _ rfl⟩
set_option maxHeartbeats 2000000
def EvE (w : World) (P : Prop) (e : Ending) (w' : World) : Prop := ∃ r : Bool, e = .returned (.bool r) ∧ (r = true ↔ P) ∧ Below w.heap.size w w'
theorem EvE.yes {w w' : World} {P : Prop} (h : P) (hb : Below w.heap.size w w') : EvE w P (.returned (.bool true)) w' := ⟨true, rfl, ⟨fun _ => h, fun _ => rfl⟩, hb⟩
theorem EvE.no {w w' : World} {P : Prop} (h : ¬ P) (hb : Below w.heap.size w w') : EvE w P (.returned (.bool false)) w' := ⟨false, rfl, ⟨fun q => (by cases q), fun q => absurd q h⟩, hb⟩
def EvB (w : World) (b : Bool) (e : Ending) (w' : World) : Prop := e = .returned (.bool b) ∧ Below w.heap.size w w'
def rgB (x y : RG) : Bool := (x.lo == y.lo) && (x.hi == y.hi)
theorem rgB_iff (x y : RG) : rgB x y = true ↔ x = y := by
  cases x
  cases y
  simp [rgB]
theorem eqRG (x y : RG) (w : World) : (Op.equalIn 10000 88 (.agg #[.int .i64 x.lo, .int .i64 x.hi]) (.agg #[.int .i64 y.lo, .int .i64 y.hi])).run Tryz.prog w = .ok (rgB x y) w := by
  have u3 := Tryz.underlying3
  have a3 := Tryz.isAgg3
  have z3 := Tryz.sizeOf3
  have hS : Tryz.prog.underlying 88 = some (.struct (Tryz.prog.fieldsOf 88)) := by kernel_rfl
  have hp : Tryz.prog.stoodInHeld 88 = false := by kernel_rfl
  unfold rgB
  rw [show (10000 : Nat) = 9999 + 1 from rfl, run_equalIn_agg w 9999 88 _ _ hS hp]
  simp only [Program.fieldsOf, Tryz.underlying88]
  go_simp
  by_cases h1 : x.lo = y.lo <;> by_cases h2 : x.hi = y.hi <;> simp [h1, h2]
theorem gdRG : Tryz.prog.eqGuardType Tryz.prog.depth 88 = false := by kernel_rfl
theorem cfEnter {f : FuncId} {fn : Func} (hf : Tryz.prog.funcs[f]? = some fn) (hname : (fn.name == "runtime.NumGoroutine") = false) (hb : fn.body.isNone = false) (args : Array Value) (W : World) : (callFunc f args).run Tryz.prog W = .ok (.enter f args) W := by
  unfold callFunc
  simp only [Sem.run_bind, run_program, Result.andThen_ok, hf, hname, hb, Bool.false_eq_true, if_false, Sem.run_pure]
theorem eqRgT (w : World) (A B : List RG) (aa ba : Option Addr) (ac bc : Nat) (hA : RowS w AnyZ 2 (.slice aa A.length ac) A.length (A.flatMap cRG)) (hB : RowS w AnyZ 2 (.slice ba B.length bc) B.length (B.flatMap cRG)) : Calls Tryz.prog 60 #[.slice aa A.length ac, .slice ba B.length bc] w (EvE w (A = B)) := by
  have HA := hid hA
  have HB := hid hB
  obtain ⟨_, _, e, hn1⟩ := rowS_sl hA
  clear e
  obtain ⟨_, _, e, hm1⟩ := rowS_sl hB
  clear e
  clear hA hB
  by_cases h1 : A.length = B.length
  case neg =>
    have q1 : ((A.length : Int) != (B.length : Int)) = true := by simp; omega
    have q2 : ((A.length : Int) == (B.length : Int)) = false := by rw [beq_eq_false_iff_ne]; omega
    go_enter Tryz.func60, Tryz.ntmps60
    go_wp2
    go_ret
    exact EvE.no (fun q => absurd (by rw [q]) h1) (by first | exact Below.refl _ _ | exact blBy)
  replace HB : Hid (RowS w AnyZ 2 (.slice ba A.length bc) B.length (B.flatMap cRG)) := hid (by rw [h1]; exact HB.out)
  rw [← h1]
  have z1 : (A.length : Int) ≤ 9223372036854775807 := by omega
  have q1 : ((A.length : Int) != (A.length : Int)) = false := by simp
  clear hn1 hm1
  replace h1 := hid h1
  go_enter Tryz.func60, Tryz.ntmps60
  go_wp2
  go_loopw [13] (fun r wr => ∃ j : Nat, r = .int .i64 j ∧ j ≤ A.length ∧ Hid (A.take j = B.take j) ∧ Hid (Below w.heap.size w wr)) (fun r wr => A.length - numAt wr r)
  case atStart => exact ⟨0, rfl, by omega, hid (by simp), hid (Below.refl _ _)⟩
  case round =>
    obtain ⟨j, rfl, hj, HT, hb⟩ := hrel
    by_cases hlt : j < A.length
    · have k1 : (j : Int) < (A.length : Int) := by omega
      have hlt2 : j < B.length := by have := h1.out; omega
      have HTS : Hid (A.take (j + 1) = A.take j ++ [A[j]] ∧ B.take (j + 1) = B.take j ++ [B[j]]) := hid ⟨List.take_succ_eq_append_getElem hlt, List.take_succ_eq_append_getElem hlt2⟩
      have HNE : Hid (A[j] ≠ B[j] → A ≠ B) := hid (fun q e => q (by subst e; rfl))
      obtain ⟨pb, po, epb, hc⟩ := rowAt (g := cRG) (fun _ => rfl) (HA.out.kept hb.out) (i := j) (x := A[j]) (by simp [hlt])
      obtain ⟨qb, qo, eqb, hd⟩ := rowAt (g := cRG) (fun _ => rfl) (HB.out.kept hb.out) (i := j) (x := B[j]) (by simp [hlt2])
      subst epb eqb
      have c0 := hc 0 _ rfl
      have d0 := hd 0 _ rfl
      have c1 := hc 1 _ rfl
      have d1 := hd 1 _ rfl
      clear hc hd
      simp only [Nat.add_zero] at c0 d0
      have hpb : pb < wr.heap.size := World.block_lt_of_cell? _ _ c0
      have hqb : qb < wr.heap.size := World.block_lt_of_cell? _ _ d0
      generalize A[j] = x at *
      generalize B[j] = y at *
      have hgd := gdRG
      have heq := fun W => eqRG x y W
      cases hq : rgB x y with
      | false =>
        rw [hq] at heq
        have HF := hid (HNE.out (fun e => by rw [(rgB_iff x y).2 e] at hq; cases hq))
        clear HNE HTS hq
        go_wp2
        go_quiet (fail)
        go_wp2
        go_ret
        exact EvE.no HF.out (by have := hb.out; first | exact this | exact bl_drewN this _ | exact blBy)
      | true =>
        rw [hq] at heq
        have exy := hid ((rgB_iff x y).1 hq)
        clear HNE hq
        go_wp2
        go_quiet (fail)
        go_wp2
        exact ⟨⟨j + 1, by simp, by omega, hid (by rw [HTS.out.1, HTS.out.2, HT.out, exy.out]), hid (bl_drewN hb.out _)⟩, by simp [numAt]; omega⟩
    · have k1 : ¬ (j : Int) < (A.length : Int) := by omega
      have E : Hid (A = B) := hid (by have := HT.out; rwa [List.take_of_length_le (by omega), List.take_of_length_le (by have := h1.out; omega)] at this)
      go_wp2
      go_ret
      exact EvE.yes E.out hb.out
def IxR (w : World) (l : List RG) (p : RG → Bool) (e : Ending) (w' : World) : Prop := Below w.heap.size w w' ∧ ((e = .returned (.int .i64 (-1)) ∧ l.any p = false) ∨ ∃ j : Nat, e = .returned (.int .i64 (j : Int)) ∧ l.any p = true)
theorem idxRgB (w : World) (l : List RG) (la : Option Addr) (lc : Nat) (hl : RowS w AnyZ 2 (.slice la l.length lc) l.length (l.flatMap cRG)) (fn : FuncId) (caps : Array Value) (p : RG → Bool) (hcf : ∀ (args : Array Value) (W : World), (callFunc fn args).run Tryz.prog W = .ok (.enter fn args) W) (hc : ∀ x ∈ l, ∀ W, Below w.heap.size w W → Calls Tryz.prog fn (#[.agg #[.int .i64 x.lo, .int .i64 x.hi]] ++ caps) W (EvB W (p x))) : Calls Tryz.prog 110 #[.slice la l.length lc, .func (.func fn) #[] caps] w (IxR w l p) := by
  obtain ⟨_, _, e, hn⟩ := rowS_sl hl
  clear e
  have n63 : (l.length : Int) ≤ 9223372036854775807 := by omega
  have HR := hid hl
  have HC := hid hc
  clear hl hc
  go_enter Tryz.func110, Tryz.ntmps110
  go_wp2
  go_loopw [8] (fun r wr => ∃ j : Nat, r = .int .i64 j ∧ j ≤ l.length ∧ Hid (∀ i (h : i < l.length), i < j → p l[i] = false) ∧ Hid (Below w.heap.size w wr)) (fun r wr => l.length - numAt wr r)
  case atStart => exact ⟨0, rfl, by omega, hid (fun i h hi => by omega), hid (Below.refl _ _)⟩
  case round =>
    obtain ⟨j, rfl, hj, HS, hb⟩ := hrel
    by_cases hlt : j < l.length
    · have h2 : (j : Int) < (l.length : Int) := by omega
      obtain ⟨pb, po, epb, hcc⟩ := rowAt (g := cRG) (fun _ => rfl) (HR.out.kept hb.out) (i := j) (x := l[j]) (by simp [hlt])
      subst epb
      have c0 := hcc 0 _ rfl
      have c1 := hcc 1 _ rfl
      clear hcc
      simp only [Nat.add_zero] at c0
      have hpb : pb < wr.heap.size := World.block_lt_of_cell? _ _ c0
      have HCJ := hid (HC.out _ (List.getElem_mem hlt) wr hb.out)
      have HNX : Hid (p l[j] = false → ∀ i (h : i < l.length), i < j + 1 → p l[i] = false) := hid (fun ht i h hi => by
        by_cases e : i = j
        · subst e; exact ht
        · exact HS.out i h (by omega))
      have HNO : Hid (p l[j] = true → l.any p = true) := hid (fun ht => List.any_eq_true.2 ⟨_, List.getElem_mem hlt, ht⟩)
      clear HS
      generalize l[j] = x at *
      cases hpx : p x
      · rw [hpx] at HCJ
        have HS2 := hid (HNX.out hpx)
        clear HNX HNO hpx
        go_wp2_with fail
        refine HCJ.out.mono ?_
        rintro e w1 ⟨rfl, hb1⟩
        have HB1 := hid (bl_then hb.out hb1)
        go_wp2
        exact ⟨⟨j + 1, by simp, by omega, HS2, HB1⟩, by simp [numAt]; omega⟩
      · rw [hpx] at HCJ
        have HF := hid (HNO.out hpx)
        clear HNX HNO hpx
        go_wp2_with fail
        refine HCJ.out.mono ?_
        rintro e w1 ⟨rfl, hb1⟩
        have HB1 := hid (bl_then hb.out hb1)
        go_wp2
        go_ret
        exact ⟨HB1.out, .inr ⟨j, rfl, HF.out⟩⟩
    · have h2 : ¬ (j : Int) < (l.length : Int) := by omega
      have HE : Hid (l.any p = false) := hid (by
        rw [List.any_eq_false]
        intro x hx
        obtain ⟨i, hi, rfl⟩ := List.getElem_of_mem hx
        simp [HS.out i hi (by omega)])
      clear HS
      go_wp2
      go_ret
      exact ⟨hb.out, .inl ⟨rfl, HE.out⟩⟩
theorem conRgB (w : World) (l : List RG) (la : Option Addr) (lc : Nat) (hl : RowS w AnyZ 2 (.slice la l.length lc) l.length (l.flatMap cRG)) (fn : FuncId) (caps : Array Value) (p : RG → Bool) (hcf : ∀ (args : Array Value) (W : World), (callFunc fn args).run Tryz.prog W = .ok (.enter fn args) W) (hc : ∀ x ∈ l, ∀ W, Below w.heap.size w W → Calls Tryz.prog fn (#[.agg #[.int .i64 x.lo, .int .i64 x.hi]] ++ caps) W (EvB W (p x))) : Calls Tryz.prog 91 #[.slice la l.length lc, .func (.func fn) #[] caps] w (EvB w (l.any p)) := by
  have HI := hid (idxRgB w l la lc hl fn caps p hcf hc)
  clear hl hc
  go_enter Tryz.func91, Tryz.ntmps91
  go_wp2_with fail
  refine HI.out.mono ?_
  rintro e w1 ⟨hb1, ⟨rfl, hq⟩ | ⟨j, rfl, hq⟩⟩
  · go_wp2
    go_ret
    exact ⟨by rw [hq]; rfl, hb1⟩
  · have k0 : ((0 : Int) ≤ (j : Int)) = True := eq_true (by omega)
    go_wp2
    go_ret
    exact ⟨by rw [hq]; rfl, hb1⟩
/-- Is a range within another? -/
def rwB (r o : RG) : Bool := decide (o.lo ≤ r.lo) && decide (r.hi ≤ o.hi)
/-- Is each of some ranges within one of others? -/
def covB (os l : List RG) : Bool := !(l.any (fun r => !(os.any (rwB r))))
theorem covers11 (w : World) (r o : RG) (p : Nat) (hp : Blk w p 88 #[.int .i64 r.lo, .int .i64 r.hi]) : Calls Tryz.prog 92 #[.agg #[.int .i64 o.lo, .int .i64 o.hi], .pointer (some ⟨p, 0, none⟩)] w (EvB w (rwB r o)) := by
  have x1 := hp.cellF
  have z1 := hp.lt
  clear hp
  obtain ⟨rl, rh⟩ := r
  obtain ⟨ol, oh⟩ := o
  dsimp only at x1 ⊢
  have HX : Hid (rwB ⟨rl, rh⟩ ⟨ol, oh⟩ = (decide (ol ≤ rl) && decide (rh ≤ oh))) := hid rfl
  by_cases h1 : ol ≤ rl
  · by_cases h2 : rh ≤ oh
    · rw [decide_eq_true h1, decide_eq_true h2] at HX
      go_enter Tryz.func92, Tryz.ntmps92
      go_wp2
      go_ret
      exact ⟨ret_bool HX.out.symm, by exact blBy⟩
    · rw [decide_eq_true h1, decide_eq_false h2] at HX
      go_enter Tryz.func92, Tryz.ntmps92
      go_wp2
      go_ret
      exact ⟨ret_bool HX.out.symm, by exact blBy⟩
  · rw [decide_eq_false h1] at HX
    go_enter Tryz.func92, Tryz.ntmps92
    go_wp2
    go_ret
    exact ⟨ret_bool HX.out.symm, by exact blBy⟩
theorem covers1 (w : World) (os : List RG) (a : Option Addr) (c : Nat) (ho : RowS w AnyZ 2 (.slice a os.length c) os.length (os.flatMap cRG)) (p : Nat) (hp : Blk w p 48 #[.slice a os.length c]) (r : RG) : Calls Tryz.prog 90 #[.agg #[.int .i64 r.lo, .int .i64 r.hi], .pointer (some ⟨p, 0, none⟩)] w (EvB w (!(os.any (rwB r)))) := by
  have HC := hid fun W (hW : Below w.heap.size w W) (q : Nat) (hq : Blk W q 88 #[.int .i64 r.lo, .int .i64 r.hi]) => conRgB W os a c (ho.kept hW) 92 #[.pointer (some ⟨q, 0, none⟩)] (rwB r) (cfEnter Tryz.func92 (by kernel_rfl) (by kernel_rfl)) (fun x hx V hV => covers11 V r x q (hq.kept hV))
  have x1 := hp.cellF
  have z1 := hp.lt
  clear hp ho
  generalize os.any (rwB r) = B at *
  obtain ⟨rl, rh⟩ := r
  dsimp only at HC ⊢
  go_enter Tryz.func90, Tryz.ntmps90
  go_wp2_with fail
  refine (HC.out _ (by exact blBy) _ (Blk.new _ _ _)).mono ?_
  rintro e w1 ⟨rfl, hb1⟩
  have HB1 : Hid (Below w.heap.size w w1) := hid (bl_then (by exact blBy) hb1)
  clear hb1
  cases B <;> (go_wp2; go_ret; exact ⟨rfl, HB1.out⟩)
theorem coversT (w : World) (os l : List RG) (a b : Option Addr) (c d : Nat) (ho : RowS w AnyZ 2 (.slice a os.length c) os.length (os.flatMap cRG)) (hl : RowS w AnyZ 2 (.slice b l.length d) l.length (l.flatMap cRG)) : Calls Tryz.prog 62 #[.slice a os.length c, .slice b l.length d] w (EvB w (covB os l)) := by
  have HX : Hid (covB os l = !(l.any (fun r => !(os.any (rwB r))))) := hid rfl
  have HC := hid fun W (hW : Below w.heap.size w W) (q : Nat) (hq : Blk W q 48 #[.slice a os.length c]) => conRgB W l b d (hl.kept hW) 90 #[.pointer (some ⟨q, 0, none⟩)] (fun r => !(os.any (rwB r))) (cfEnter Tryz.func90 (by kernel_rfl) (by kernel_rfl)) (fun x hx V hV => covers1 V os a c (ho.kept (below_trans hW hV)) q (hq.kept hV) x)
  clear ho hl
  generalize l.any (fun r => !(os.any (rwB r))) = B at *
  go_enter Tryz.func62, Tryz.ntmps62
  go_wp2_with fail
  refine (HC.out _ (by exact blBy) _ (Blk.new _ _ _)).mono ?_
  rintro e w1 ⟨rfl, hb1⟩
  have HB1 : Hid (Below w.heap.size w w1) := hid (bl_then (by exact blBy) hb1)
  clear hb1
  cases B <;> (go_wp2; go_ret; exact ⟨ret_bool HX.out.symm, HB1.out⟩)
end Go.Proofs.YtmjgonckadcbkaaGreatDoor
