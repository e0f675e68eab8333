/-
  What is around a type.
  A table is good: what the program answers.
  A field by itself (the document's): what it answers.
  A field by itself (the document's): kinds below 16.
  A field by itself (the document's): enums.
-/
import Derived.Test.YthdkmlfpgmgicaaDoorCTP
import Derived.Test.YthdkmlfpgmgicaaDoorCTH
import Derived.Deep.CutRange
namespace Go.Proofs.YthdkmlfpgmgicaaDoor
open Go.RowKit
set_option maxRecDepth 1000000
set_option linter.unusedVariables false
set_option linter.unusedSimpArgs false
set_option maxHeartbeats 1000000
def lastD (x : List Int) : Int := Lib.lastIndexByte (strOfNums x) 46
theorem lastD_is (x : List Int) : lastD x = -1 ∨ ∃ i : Nat, lastD x = i ∧ i < x.length := by
  rcases Lib.lastIndexByte_spec (strOfNums x) 46 with ⟨e, _⟩ | ⟨i, hi, e, _⟩
  · exact .inl e
  · exact .inr ⟨i, e, by rw [strOfNums_size] at hi; exact hi⟩
theorem lastT (x : List Int) (w : World) (h : x.length < 4611686018427387904) : Calls Tryd.prog 50 #[.string (strOfNums x), .string dotS] w fun e w' => e = .returned (.int .i64 (lastD x)) ∧ w = w' := by
  refine (Tryd.strings_LastIndex_one (strOfNums x) dotS rfl (by rw [strOfNums_size]; exact h) w).mono ?_
  rintro e w' ⟨rfl, rfl⟩
  exact ⟨rfl, rfl⟩
def standB (l : List TV) (i : Nat) (x : List Int) : Bool := if lastD x < 0 then true else match (l.take i).find? (fun v => v.t.name == x.take (lastD x).toNat) with
  | none => false
  | some v => !v.t.enum
theorem standsRightT (w : World) (l : List TV) (ta : Option Addr) (tc : Nat) (b i : Nat) (x : List Int) (h : TbR w (.slice ta l.length tc) l) (hk : Kn w b l i) (hx : TxA x) (hl : x.length < 4294967281) : Calls Tryd.prog 29 #[.agg #[.slice ta l.length tc], .map (some b), .string (strOfNums x)] w fun e w' => e = .returned (.bool (standB l i x)) ∧ Below w.heap.size w w' := by
  have HX : Hid (standB l i x = if lastD x < 0 then true else match (l.take i).find? (fun v => v.t.name == x.take (lastD x).toNat) with
  | none => false
  | some v => !v.t.enum) := hid rfl
  have HC : Hid (∀ W, Calls Tryd.prog 50 #[.string (strOfNums x), .string dotS] W fun e w' => e = .returned (.int .i64 (lastD x)) ∧ W = w') := hid fun W => lastT x W (by omega)
  obtain ⟨_, _, e, hn⟩ := rowS_sl h.row
  clear e
  have h1 : (l.length : Int) ≤ 9223372036854775807 := by omega
  have HT := hid h
  have HK := hid hk
  rcases lastD_is x with e | ⟨k, e, hkx⟩
  · rw [e] at HX HC
    replace HX := hid (show standB l i x = true by rw [HX.out]; rfl)
    clear h hk hx
    go_enter Tryd.func29, Tryd.ntmps29
    go_wp2_with (first | (go_at_call 50; refine (HC.out _).mono ?_; rintro e w1 ⟨rfl, rfl⟩))
    go_ret
    exact ⟨ret_bool HX.out.symm, by exact blBy⟩
  rw [e] at HX HC
  have hy : TxA (x.take k) := ⟨fun c hc => hx.1 c (List.mem_of_mem_take hc), by have := hx.2; simp; omega⟩
  have HS : Hid ((strOfNums x).extract 0 k = strOfNums (x.take k)) := hid (by rw [str_cut]; rfl)
  have HSZ : (strOfNums x).size = x.length := strOfNums_size x
  replace HX := hid (show standB l i x = match (l.take i).find? (fun v => v.t.name == x.take k) with
  | none => false
  | some v => !v.t.enum by rw [HX.out, if_neg (by omega)]; rfl)
  have k0 : ¬ (k : Int) < 0 := by omega
  have hkx' : (k : Int) < (x.length : Int) := by omega
  obtain ⟨c, hr, hc⟩ := (HK.out.kept (below_alloc (w := w) (.cells #[.slice ta l.length tc] 24))).look hy
  rw [← HS.out] at hr
  cases hf : (l.take i).find? (fun v => v.t.name == x.take k) with
  | none =>
    have hno : named (l.take i) (x.take k) = false := by
      unfold named
      rw [List.any_eq_false]
      intro v hv
      exact List.find?_eq_none.1 hf v hv
    replace HX := hid (show standB l i x = false by rw [HX.out, hf])
    rw [hno] at hr
    clear h hk hx hno hf hc
    go_enter Tryd.func29, Tryd.ntmps29
    go_wp2_with (first | (go_at_call 50; refine (HC.out _).mono ?_; rintro e w1 ⟨rfl, rfl⟩))
    go_ret
    exact ⟨ret_bool HX.out.symm, by exact blBy⟩
  | some v =>
    have hyes : named (l.take i) (x.take k) = true := by
      unfold named
      rw [List.any_eq_true]
      exact ⟨v, List.mem_of_find?_eq_some hf, by simpa using List.find?_some hf⟩
    obtain ⟨j, hj, ej⟩ := List.mem_take_iff_getElem.1 (List.mem_of_find?_eq_some hf)
    have hjl : j < l.length := by omega
    have hcj : c = (j : Int) := hc j hjl (by omega) (by rw [ej]; simpa using List.find?_some hf)
    subst hcj
    replace HX := hid (show standB l i x = !l[j].t.enum by rw [HX.out, hf, ej])
    rw [hyes] at hr
    have hjl' : (j : Int) < (l.length : Int) := by omega
    obtain ⟨tb, tof, rfl, hbl, -, c1, -⟩ := row6 HT.out.row hjl
    clear h hk hx hyes hf hc ej
    generalize l[j].t.enum = en at *
    go_enter Tryd.func29, Tryd.ntmps29
    go_wp2_with (first | (go_at_call 50; refine (HC.out _).mono ?_; rintro e w1 ⟨rfl, rfl⟩))
    go_ret
    exact ⟨ret_bool HX.out.symm, by exact blBy⟩
/-- What is asked of a table: that its texts and numbers can be. -/
structure OkV (x : TV) : Prop where
  ok : OkT x.t
  nl : x.t.name.length < 4294967281
  sz : x.t.fs.length + x.t.os.length + x.t.rs.length ≤ 9223372036854775807
def stepB (l : List TV) (j : Nat) (t : TT) : Bool := !named (l.take j) t.name && (fullB t && (standB l j t.name && typB l t))
def goodA (l : List TV) : List TV → Nat → Bool
  | [], _ => true
  | x :: r, j => stepB l j x.t && goodA l r (j + 1)
def goodB (l : List TV) : Bool := decide (l.length ≤ 128) && goodA l l 0
theorem run_makeMap0 {P : Program} (t : TypeId) (w : World) {ki e : TypeId} (ht : P.underlying t = some (.map ki e)) : (Instr.makeMap t none).run P w = .ok (.map (some w.heap.size)) (w.alloc (.map #[] 0)) := by
  simp [Instr.makeMap, run_underlying ht, Result.andThen]
theorem goodT (w : World) (l : List TV) (ta : Option Addr) (tc : Nat) (h : TbR w (.slice ta l.length tc) l) (hk : ∀ x ∈ l, OkV x) (m : Int) (hm : w.cell? ⟨0, 0, none⟩ = some (.int .i64 m)) : Calls Tryd.prog 10 #[.agg #[.slice ta l.length tc]] w fun e w' => e = .returned (.bool (goodB l)) ∧ Below w.heap.size w w' := by
  obtain ⟨_, _, e, hn⟩ := rowS_sl h.row
  clear e
  have h1 : (l.length : Int) ≤ 9223372036854775807 := by omega
  have HT := hid h
  have HK := hid hk
  have HM := hid hm
  clear h hk hm
  have HX : Hid (goodB l = (decide (l.length ≤ 128) && goodA l l 0)) := hid rfl
  by_cases hbig : 128 < l.length
  case pos =>
    have h2 : (128 : Int) < (l.length : Int) := by omega
    replace HX := hid (show goodB l = false by rw [HX.out, decide_eq_false (by omega)]; rfl)
    go_enter Tryd.func10, Tryd.ntmps10
    go_wp2
    go_ret
    exact ⟨ret_bool HX.out.symm, by exact blBy⟩
  have h2 : ¬ (128 : Int) < (l.length : Int) := by omega
  replace HX := hid (show goodB l = goodA l l 0 by rw [HX.out, decide_eq_true (by omega)]; rfl)
  have hmk := fun W => run_makeMap0 (P := Tryd.prog) 65 W Tryd.underlying65
  go_enter Tryd.func10, Tryd.ntmps10
  go_wp2
  clear hmk
  go_loopw [16] (fun r wr => ∃ j : Nat, r = .int .i64 j ∧ j ≤ l.length ∧ Hid (goodA l l 0 = goodA l (l.drop j) j) ∧ Hid (Kn wr (w.heap.size + 1) l j) ∧ Hid (Blk wr w.heap.size 24 #[.slice ta l.length tc]) ∧ Hid (Below w.heap.size w wr)) (fun r wr => l.length - numAt wr r)
  case atStart => exact ⟨0, rfl, by omega, hid rfl, hid (by have := Kn.new (w.alloc (Obj.cells #[Value.slice ta l.length tc] 24)) l; simpa using this), hid ((Blk.new _ _ _).kept (below_alloc _)), hid (by exact blBy)⟩
  case round =>
    obtain ⟨j, rfl, hj, hg, HKN, hB, hb⟩ := hrel
    by_cases hlt : j < l.length
    · have h3 : (j : Int) < (l.length : Int) := by omega
      have HST : Hid (goodA l (l.drop j) j = (stepB l j l[j].t && goodA l (l.drop (j + 1)) (j + 1))) := hid (by rw [List.drop_eq_getElem_cons hlt, goodA])
      have HTY := hid (HT.out.ty _ (List.getElem_mem hlt))
      have HOK := hid (HK.out _ (List.getElem_mem hlt))
      obtain ⟨tb, tof, rfl, hbl, c0, c1, c2, c3, c4, c5⟩ := row6 (HT.out.row.kept hb.out) hlt
      have HPUT : Hid (∀ W, Kn W (w.heap.size + 1) l j → named (l.take j) l[j].t.name = false → ∃ w', (Instr.mapUpdate 65 (.map (some (w.heap.size + 1))) (.string (strOfNums l[j].t.name)) (.int .i64 (j : Int))).run Tryd.prog W = .ok () w' ∧ Kn w' (w.heap.size + 1) l (j + 1) ∧ W.grownBy w' (some (w.heap.size + 1))) := hid fun W hW hN => hW.put hlt (by omega) (fun v hv => (HK.out v hv).ok.nm) hN
      generalize l[j] = x at *
      obtain ⟨t, f, o, s, r⟩ := x
      obtain ⟨fa, fc, ef, -⟩ := rowS_sl HTY.out.f
      obtain ⟨oa, oc, eo, -⟩ := rowS_sl HTY.out.o
      obtain ⟨sa, sc, es, -⟩ := rowS_sl HTY.out.s
      obtain ⟨ra, rc, er, -⟩ := rowS_sl HTY.out.r
      dsimp only at ef eo es er
      subst ef eo es er
      dsimp only at c0 c1 c2 c3 c4 c5
      obtain ⟨c, hr, -⟩ := (HKN.out.kept (below_alloc (w := wr) (.cells #[.string (strOfNums t.name), .bool t.enum, .slice fa t.fs.length fc, .slice oa t.os.length oc, .slice sa t.ss.length sc, .slice ra t.rs.length rc] 62))).look HOK.out.ok.nm
      try dsimp only at hr
      have Ba := hB.out
      have xa := Ba.cellF
      have ya := Ba.frz
      have za : w.heap.size < wr.heap.size := Ba.lt
      cases q0 : named (l.take j) t.name with
      | true =>
        rw [q0] at hr
        have HF : Hid (goodB l = false) := hid (by rw [HX.out, hg.out, HST.out]; simp [stepB, q0])
        go_wp2
        go_ret
        exact ⟨ret_bool HF.out.symm, by have := hb.out; exact blBy⟩
      | false =>
      rw [q0] at hr
      go_wp2_with fail
      refine (isFullNameT _ t _ _ _ _ m (cell_below HM.out (by have := hb.out; exact blBy)) HOK.out.ok.nm.1 HOK.out.nl).mono ?_
      rintro e w1 ⟨rfl, hb1⟩
      have Bb : Blk (wr.alloc (.cells #[.string (strOfNums t.name), .bool t.enum, .slice fa t.fs.length fc, .slice oa t.os.length oc, .slice sa t.ss.length sc, .slice ra t.rs.length rc] 62)) wr.heap.size 62 #[.string (strOfNums t.name), .bool t.enum, .slice fa t.fs.length fc, .slice oa t.os.length oc, .slice sa t.ss.length sc, .slice ra t.rs.length rc] := Blk.new _ _ _
      have Ba := Ba.kept (below_alloc (.cells #[.string (strOfNums t.name), .bool t.enum, .slice fa t.fs.length fc, .slice oa t.os.length oc, .slice sa t.ss.length sc, .slice ra t.rs.length rc] 62))
      replace HKN := hid (HKN.out.kept (below_alloc (.cells #[.string (strOfNums t.name), .bool t.enum, .slice fa t.fs.length fc, .slice oa t.os.length oc, .slice sa t.ss.length sc, .slice ra t.rs.length rc] 62)))
      have xb : True := trivial
      have yb : True := trivial
      have zb : True := trivial
      clear hr
      replace Ba : Blk w1 w.heap.size 24 #[.slice (some ⟨tb, tof, none⟩) l.length tc] := Blk.kept (Ba.is (by first | rfl | simp)) hb1
      replace Bb : Blk w1 wr.heap.size 62 #[.string (strOfNums t.name), .bool t.enum, .slice fa t.fs.length fc, .slice oa t.os.length oc, .slice sa t.ss.length sc, .slice ra t.rs.length rc] := Blk.kept (Bb.is (by first | rfl | simp)) hb1
      replace HKN := hid (HKN.out.kept hb1)
      clear xa ya xb yb
      have hs1 := hb1.size
      try simp at hs1
      have xa := Ba.cellF
      have ya := Ba.frz
      replace za : w.heap.size < w1.heap.size := by omega
      have xb := Bb.cellF
      have yb := Bb.frz
      replace zb : wr.heap.size < w1.heap.size := by omega
      replace hb1 : Hid (Below w.heap.size w w1) := hid (bl_then (by have := hb.out; exact blBy) hb1)
      cases q1 : fullB t with
      | false =>
        have HF : Hid (goodB l = false) := hid (by rw [HX.out, hg.out, HST.out]; simp [stepB, q0, q1])
        go_wp2
        go_ret
        exact ⟨ret_bool HF.out.symm, by have := hb1.out; exact blBy⟩
      | true =>
      go_wp2_with fail
      refine (standsRightT _ l _ tc (w.heap.size + 1) j t.name (HT.out.kept (by have := hb1.out; exact blBy)) HKN.out HOK.out.ok.nm HOK.out.nl).mono ?_
      rintro e w2 ⟨rfl, hb2⟩
      replace Ba : Blk w2 w.heap.size 24 #[.slice (some ⟨tb, tof, none⟩) l.length tc] := Blk.kept (Ba.is (by first | rfl | simp)) hb2
      replace Bb : Blk w2 wr.heap.size 62 #[.string (strOfNums t.name), .bool t.enum, .slice fa t.fs.length fc, .slice oa t.os.length oc, .slice sa t.ss.length sc, .slice ra t.rs.length rc] := Blk.kept (Bb.is (by first | rfl | simp)) hb2
      replace HKN := hid (HKN.out.kept hb2)
      clear xa ya xb yb
      have hs2 := hb2.size
      try simp at hs2
      have xa := Ba.cellF
      have ya := Ba.frz
      replace za : w.heap.size < w2.heap.size := by omega
      have xb := Bb.cellF
      have yb := Bb.frz
      replace zb : wr.heap.size < w2.heap.size := by omega
      replace hb2 : Hid (Below w.heap.size w w2) := hid (bl_then hb1.out hb2)
      cases q2 : standB l j t.name with
      | false =>
        have HF : Hid (goodB l = false) := hid (by rw [HX.out, hg.out, HST.out]; simp [stepB, q0, q1, q2])
        go_wp2
        go_ret
        exact ⟨ret_bool HF.out.symm, by have := hb2.out; exact blBy⟩
      | true =>
      go_wp2_with fail
      refine (isGoodTypeT _ l _ tc t fa oa sa ra fc oc sc rc (HT.out.kept (by have := hb2.out; exact blBy)) (HTY.out.kept (by have := hb2.out; exact blBy)) HOK.out.ok HOK.out.sz).mono ?_
      rintro e w3 ⟨rfl, hb3⟩
      replace Ba : Blk w3 w.heap.size 24 #[.slice (some ⟨tb, tof, none⟩) l.length tc] := Blk.kept (Ba.is (by first | rfl | simp)) hb3
      replace Bb : Blk w3 wr.heap.size 62 #[.string (strOfNums t.name), .bool t.enum, .slice fa t.fs.length fc, .slice oa t.os.length oc, .slice sa t.ss.length sc, .slice ra t.rs.length rc] := Blk.kept (Bb.is (by first | rfl | simp)) hb3
      replace HKN := hid (HKN.out.kept hb3)
      clear xa ya xb yb
      have hs3 := hb3.size
      try simp at hs3
      have xa := Ba.cellF
      have ya := Ba.frz
      replace za : w.heap.size < w3.heap.size := by omega
      have xb := Bb.cellF
      have yb := Bb.frz
      replace zb : wr.heap.size < w3.heap.size := by omega
      replace hb3 : Hid (Below w.heap.size w w3) := hid (bl_then hb2.out hb3)
      cases q3 : typB l t with
      | false =>
        have HF : Hid (goodB l = false) := hid (by rw [HX.out, hg.out, HST.out]; simp [stepB, q0, q1, q2, q3])
        go_wp2
        go_ret
        exact ⟨ret_bool HF.out.symm, by have := hb3.out; exact blBy⟩
      | true =>
      obtain ⟨w4, hr4, hk4, hg4⟩ := HPUT.out w3 HKN.out q0
      try dsimp only at hr4
      have HK4 := hid hk4
      have HB4 : Hid (Blk w4 w.heap.size 24 #[.slice (some ⟨tb, tof, none⟩) l.length tc]) := hid ((hg4.block _ za (by simp)).trans Ba)
      have HL4 : Hid (Below w.heap.size w w4) := hid (hb3.out.trans (grown_below hg4 (by omega) (by omega)))
      clear hk4 hg4
      go_wp2
      exact ⟨⟨j + 1, by simp, by omega, hid (by rw [hg.out, HST.out]; simp [stepB, q0, q1, q2, q3]), HK4, HB4, HL4⟩, by simp [numAt]; omega⟩
    · have h3 : ¬ (j : Int) < (l.length : Int) := by omega
      have HF : Hid (goodB l = true) := hid (by rw [HX.out, hg.out, List.drop_of_length_le (by omega)]; rfl)
      go_wp2
      go_ret
      exact ⟨ret_bool HF.out.symm, hb.out⟩
def docB (l : List TV) (k : Nat) (f : FT) : Bool := decide (1 ≤ f.num ∧ f.num ≤ 536870911) && fldB l k f
theorem fieldLow (nm : List Int) (num kind ref lab one key : Int) (w : World) (l : List TV) (ta : Option Addr) (tc : Nat) (t : TT) (fa oa sa ra : Option Addr) (fc oc sc rc : Nat) (h : TbR w (.slice ta l.length tc) l) (hl : t.os.length ≤ 9223372036854775807) (n1 : 1 ≤ num) (n2 : num ≤ 536870911) (l1 : 0 ≤ lab) (l2 : lab ≤ 5) (k1 : 1 ≤ kind) (k2 : kind < 16) : Calls Tryd.prog 60 #[.agg #[.slice ta l.length tc], .agg #[.string (strOfNums t.name), .bool t.enum, .slice fa t.fs.length fc, .slice oa t.os.length oc, .slice sa t.ss.length sc, .slice ra t.rs.length rc], .agg #[.string (strOfNums nm), .int .i64 num, .int .i64 kind, .int .i64 ref, .int .i64 lab, .int .i64 one, .int .i64 key]] w fun e w' => e = .returned (.bool (docB l t.os.length ⟨nm, num, kind, ref, lab, one, key⟩)) ∧ Below w.heap.size w w' := by
  obtain ⟨_, _, e, hn⟩ := rowS_sl h.row
  clear e
  have h63 : (l.length : Int) ≤ 9223372036854775807 := by omega
  have h64 : (t.os.length : Int) ≤ 9223372036854775807 := by omega
  have m1 : (num < 1) = False := eq_false (by omega)
  have m2 : (536870911 < num) = False := eq_false (by omega)
  have m3 : (lab < 0) = False := eq_false (by omega)
  have m4 : (5 < lab) = False := eq_false (by omega)
  have HD : Hid (docB l t.os.length ⟨nm, num, kind, ref, lab, one, key⟩ = (refB l ⟨nm, num, kind, ref, lab, one, key⟩ && (labB ⟨nm, num, kind, ref, lab, one, key⟩ && (oneB t.os.length ⟨nm, num, kind, ref, lab, one, key⟩ && keyB ⟨nm, num, kind, ref, lab, one, key⟩)))) := hid (by unfold docB fldB; rw [decide_eq_true (by dsimp only; omega), decide_eq_true (by dsimp only; omega)]; rfl)
  have HK := hid (isKeyR key)
  have HN := hid (numericR kind)
  clear n1 n2
  have kA : (16 ≤ kind) = False := eq_false (by omega)
  have kB : (kind == 17) = false := by rw [beq_eq_false_iff_ne]; omega
  have kC : (kind < 1) = False := eq_false (by omega)
  have kD : (17 < kind) = False := eq_false (by omega)
  have HKX : Hid (¬ kind = 17) := hid (by omega)
  have HR0 : Hid (refB l ⟨nm, num, kind, ref, lab, one, key⟩ = decide (ref = 0)) := hid (by unfold refB; rw [if_neg (by dsimp only; omega)])
  clear k1 k2 h
  by_cases r1 : ref = 0
  case neg =>
    have r2 : (ref != 0) = true := by simpa using r1
    have HR : Hid (refB l ⟨nm, num, kind, ref, lab, one, key⟩ = false) := hid (by rw [HR0.out]; simp [r1])
    replace r1 := hid r1
    go_enter Tryd.func60, Tryd.ntmps60
    go_wp2
    go_ret
    exact ⟨ret_bool (by rw [HD.out, HR.out]; rfl), by exact blBy⟩
  have r2 : (ref != 0) = false := by simpa using r1
  have HR : Hid (refB l ⟨nm, num, kind, ref, lab, one, key⟩ = true) := hid (by rw [HR0.out]; simp [r1])
  replace r1 := hid r1
  clear HR0
  go_enter Tryd.func60, Tryd.ntmps60
  go_upto_region 8 with fail
  have Ba : Blk (((w.alloc (.cells #[.slice ta l.length tc] 24)).alloc (.cells #[.string (strOfNums t.name), .bool t.enum, .slice fa t.fs.length fc, .slice oa t.os.length oc, .slice sa t.ss.length sc, .slice ra t.rs.length rc] 62)).alloc (.cells #[.string (strOfNums nm), .int .i64 num, .int .i64 kind, .int .i64 ref, .int .i64 lab, .int .i64 one, .int .i64 key] 39)) w.heap.size 24 #[.slice ta l.length tc] := (((Blk.new _ _ _).kept (below_alloc _)).kept (below_alloc _))
  have Bb : Blk (((w.alloc (.cells #[.slice ta l.length tc] 24)).alloc (.cells #[.string (strOfNums t.name), .bool t.enum, .slice fa t.fs.length fc, .slice oa t.os.length oc, .slice sa t.ss.length sc, .slice ra t.rs.length rc] 62)).alloc (.cells #[.string (strOfNums nm), .int .i64 num, .int .i64 kind, .int .i64 ref, .int .i64 lab, .int .i64 one, .int .i64 key] 39)) (w.heap.size + 1) 62 #[.string (strOfNums t.name), .bool t.enum, .slice fa t.fs.length fc, .slice oa t.os.length oc, .slice sa t.ss.length sc, .slice ra t.rs.length rc] := ((Blk.newAt (by simp)).kept (below_alloc _))
  have Bc : Blk (((w.alloc (.cells #[.slice ta l.length tc] 24)).alloc (.cells #[.string (strOfNums t.name), .bool t.enum, .slice fa t.fs.length fc, .slice oa t.os.length oc, .slice sa t.ss.length sc, .slice ra t.rs.length rc] 62)).alloc (.cells #[.string (strOfNums nm), .int .i64 num, .int .i64 kind, .int .i64 ref, .int .i64 lab, .int .i64 one, .int .i64 key] 39)) (w.heap.size + 1 + 1) 39 #[.string (strOfNums nm), .int .i64 num, .int .i64 kind, .int .i64 ref, .int .i64 lab, .int .i64 one, .int .i64 key] := (Blk.newAt (by simp))
  have hb0 : Hid (Below w.heap.size w (((w.alloc (.cells #[.slice ta l.length tc] 24)).alloc (.cells #[.string (strOfNums t.name), .bool t.enum, .slice fa t.fs.length fc, .slice oa t.os.length oc, .slice sa t.ss.length sc, .slice ra t.rs.length rc] 62)).alloc (.cells #[.string (strOfNums nm), .int .i64 num, .int .i64 kind, .int .i64 ref, .int .i64 lab, .int .i64 one, .int .i64 key] 39))) := hid (by exact blBy)
  generalize (((w.alloc (.cells #[.slice ta l.length tc] 24)).alloc (.cells #[.string (strOfNums t.name), .bool t.enum, .slice fa t.fs.length fc, .slice oa t.os.length oc, .slice sa t.ss.length sc, .slice ra t.rs.length rc] 62)).alloc (.cells #[.string (strOfNums nm), .int .i64 num, .int .i64 kind, .int .i64 ref, .int .i64 lab, .int .i64 one, .int .i64 key] 39)) = W at *
  have xa := Ba.cellF
  have za := Ba.lt
  have xb := Bb.cellF
  have zb := Bb.lt
  have xc := Bc.cellF
  have zc := Bc.lt
  clear Ba Bb Bc
  have hlab : lab = 0 ∨ lab = 1 ∨ lab = 2 ∨ lab = 3 ∨ lab = 4 ∨ lab = 5 := by omega
  clear m3 m4 l1 l2
  rcases hlab with rfl | rfl | rfl | rfl | rfl | rfl
  · skip
    by_cases o1 : one = 0
    case neg =>
      have o2 : (one != 0) = true := by simpa using o1
      replace o1 := hid o1
      go_wp2_with (first | (go_at_call 46; refine (HN.out _).mono ?_; rintro e w1 ⟨rfl, rfl⟩) | (go_at_call 85; refine (HK.out _).mono ?_; rintro e w1 ⟨rfl, rfl⟩))
      go_ret
      exact ⟨ret_bool (by rw [HD.out, HR.out]; simp [oneB, o1.out]), by have := hb0.out; exact blBy⟩
    have o2 : (one != 0) = false := by simpa using o1
    replace o1 := hid o1
    go_wp2_with (first | (go_at_call 46; refine (HN.out _).mono ?_; rintro e w1 ⟨rfl, rfl⟩) | (go_at_call 85; refine (HK.out _).mono ?_; rintro e w1 ⟨rfl, rfl⟩))
    go_ret
    exact ⟨ret_bool (by rw [HD.out, HR.out]; simp [labB, HKX.out, oneB, keyB, o1.out]; by_cases hk : key = 0 <;> simp [hk]), by have := hb0.out; exact blBy⟩
  · skip
    by_cases o1 : one = 0
    case neg =>
      have o2 : (one != 0) = true := by simpa using o1
      replace o1 := hid o1
      go_wp2_with (first | (go_at_call 46; refine (HN.out _).mono ?_; rintro e w1 ⟨rfl, rfl⟩) | (go_at_call 85; refine (HK.out _).mono ?_; rintro e w1 ⟨rfl, rfl⟩))
      go_ret
      exact ⟨ret_bool (by rw [HD.out, HR.out]; simp [oneB, o1.out]), by have := hb0.out; exact blBy⟩
    have o2 : (one != 0) = false := by simpa using o1
    replace o1 := hid o1
    go_wp2_with (first | (go_at_call 46; refine (HN.out _).mono ?_; rintro e w1 ⟨rfl, rfl⟩) | (go_at_call 85; refine (HK.out _).mono ?_; rintro e w1 ⟨rfl, rfl⟩))
    go_ret
    exact ⟨ret_bool (by rw [HD.out, HR.out]; simp [labB, oneB, keyB, o1.out]; by_cases hk : key = 0 <;> simp [hk]), by have := hb0.out; exact blBy⟩
  · skip
    by_cases o1 : one = 0
    case neg =>
      have o2 : (one != 0) = true := by simpa using o1
      replace o1 := hid o1
      go_wp2_with (first | (go_at_call 46; refine (HN.out _).mono ?_; rintro e w1 ⟨rfl, rfl⟩) | (go_at_call 85; refine (HK.out _).mono ?_; rintro e w1 ⟨rfl, rfl⟩))
      go_ret
      exact ⟨ret_bool (by rw [HD.out, HR.out]; simp [oneB, o1.out]), by have := hb0.out; exact blBy⟩
    have o2 : (one != 0) = false := by simpa using o1
    replace o1 := hid o1
    go_wp2_with (first | (go_at_call 46; refine (HN.out _).mono ?_; rintro e w1 ⟨rfl, rfl⟩) | (go_at_call 85; refine (HK.out _).mono ?_; rintro e w1 ⟨rfl, rfl⟩))
    go_ret
    exact ⟨ret_bool (by rw [HD.out, HR.out]; simp [labB, oneB, keyB, o1.out]; by_cases hk : key = 0 <;> simp [hk]), by have := hb0.out; exact blBy⟩
  · skip
    cases q : knum kind with
    | false =>
      rw [q] at HN
      go_wp2_with (first | (go_at_call 46; refine (HN.out _).mono ?_; rintro e w1 ⟨rfl, rfl⟩) | (go_at_call 85; refine (HK.out _).mono ?_; rintro e w1 ⟨rfl, rfl⟩))
      go_ret
      exact ⟨ret_bool (by rw [HD.out, HR.out]; simp [labB, q]), by have := hb0.out; exact blBy⟩
    | true =>
      rw [q] at HN
      by_cases o1 : one = 0
      case neg =>
        have o2 : (one != 0) = true := by simpa using o1
        replace o1 := hid o1
        go_wp2_with (first | (go_at_call 46; refine (HN.out _).mono ?_; rintro e w1 ⟨rfl, rfl⟩) | (go_at_call 85; refine (HK.out _).mono ?_; rintro e w1 ⟨rfl, rfl⟩))
        go_ret
        exact ⟨ret_bool (by rw [HD.out, HR.out]; simp [oneB, o1.out]), by have := hb0.out; exact blBy⟩
      have o2 : (one != 0) = false := by simpa using o1
      replace o1 := hid o1
      go_wp2_with (first | (go_at_call 46; refine (HN.out _).mono ?_; rintro e w1 ⟨rfl, rfl⟩) | (go_at_call 85; refine (HK.out _).mono ?_; rintro e w1 ⟨rfl, rfl⟩))
      go_ret
      exact ⟨ret_bool (by rw [HD.out, HR.out]; simp [labB, q, oneB, keyB, o1.out]; by_cases hk : key = 0 <;> simp [hk]), by have := hb0.out; exact blBy⟩
  · skip
    by_cases o1 : one < 0
    · have o2 : (one < 0) = True := eq_true o1
      have HO : Hid (one < 0) := hid o1
      clear o1
      go_wp2_with (first | (go_at_call 46; refine (HN.out _).mono ?_; rintro e w1 ⟨rfl, rfl⟩) | (go_at_call 85; refine (HK.out _).mono ?_; rintro e w1 ⟨rfl, rfl⟩))
      go_ret
      exact ⟨ret_bool (by rw [HD.out, HR.out]; have := HO.out; simp [labB, oneB]; intro _ h2; omega), by have := hb0.out; exact blBy⟩
    by_cases o3 : (t.os.length : Int) ≤ one
    · have o2 : (one < 0) = False := eq_false o1
      have o4 : ((t.os.length : Int) ≤ one) = True := eq_true o3
      have HO : Hid ((t.os.length : Int) ≤ one) := hid o3
      clear o1 o3
      go_wp2_with (first | (go_at_call 46; refine (HN.out _).mono ?_; rintro e w1 ⟨rfl, rfl⟩) | (go_at_call 85; refine (HK.out _).mono ?_; rintro e w1 ⟨rfl, rfl⟩))
      go_ret
      exact ⟨ret_bool (by rw [HD.out, HR.out]; have := HO.out; simp [labB, oneB]; intro _ h2; omega), by have := hb0.out; exact blBy⟩
    have o2 : (one < 0) = False := eq_false o1
    have o4 : ((t.os.length : Int) ≤ one) = False := eq_false o3
    have HO : Hid (¬ one < 0 ∧ ¬ (t.os.length : Int) ≤ one) := hid ⟨o1, o3⟩
    clear o1 o3
    go_wp2_with (first | (go_at_call 46; refine (HN.out _).mono ?_; rintro e w1 ⟨rfl, rfl⟩) | (go_at_call 85; refine (HK.out _).mono ?_; rintro e w1 ⟨rfl, rfl⟩))
    go_ret
    exact ⟨ret_bool (by rw [HD.out, HR.out]; have := HO.out; simp [labB, oneB, keyB]; rw [show (decide (0 ≤ one) && decide (one < (t.os.length : Int))) = true by simp; omega]; by_cases hk : key = 0 <;> simp [hk]), by have := hb0.out; exact blBy⟩
  · skip
    by_cases o1 : one = 0
    case neg =>
      have o2 : (one != 0) = true := by simpa using o1
      replace o1 := hid o1
      go_wp2_with (first | (go_at_call 46; refine (HN.out _).mono ?_; rintro e w1 ⟨rfl, rfl⟩) | (go_at_call 85; refine (HK.out _).mono ?_; rintro e w1 ⟨rfl, rfl⟩))
      go_ret
      exact ⟨ret_bool (by rw [HD.out, HR.out]; simp [oneB, o1.out]), by have := hb0.out; exact blBy⟩
    have o2 : (one != 0) = false := by simpa using o1
    replace o1 := hid o1
    go_wp2_with (first | (go_at_call 46; refine (HN.out _).mono ?_; rintro e w1 ⟨rfl, rfl⟩) | (go_at_call 85; refine (HK.out _).mono ?_; rintro e w1 ⟨rfl, rfl⟩))
    go_ret
    exact ⟨ret_bool (by rw [HD.out, HR.out]; simp [labB, oneB, keyB, o1.out]), by have := hb0.out; exact blBy⟩
theorem fieldEnum (nm : List Int) (num ref lab one key : Int) (w : World) (l : List TV) (ta : Option Addr) (tc : Nat) (t : TT) (fa oa sa ra : Option Addr) (fc oc sc rc : Nat) (h : TbR w (.slice ta l.length tc) l) (hl : t.os.length ≤ 9223372036854775807) (n1 : 1 ≤ num) (n2 : num ≤ 536870911) (l1 : 0 ≤ lab) (l2 : lab ≤ 5)  : Calls Tryd.prog 60 #[.agg #[.slice ta l.length tc], .agg #[.string (strOfNums t.name), .bool t.enum, .slice fa t.fs.length fc, .slice oa t.os.length oc, .slice sa t.ss.length sc, .slice ra t.rs.length rc], .agg #[.string (strOfNums nm), .int .i64 num, .int .i64 16, .int .i64 ref, .int .i64 lab, .int .i64 one, .int .i64 key]] w fun e w' => e = .returned (.bool (docB l t.os.length ⟨nm, num, 16, ref, lab, one, key⟩)) ∧ Below w.heap.size w w' := by
  obtain ⟨_, _, e, hn⟩ := rowS_sl h.row
  clear e
  have h63 : (l.length : Int) ≤ 9223372036854775807 := by omega
  have h64 : (t.os.length : Int) ≤ 9223372036854775807 := by omega
  have m1 : (num < 1) = False := eq_false (by omega)
  have m2 : (536870911 < num) = False := eq_false (by omega)
  have m3 : (lab < 0) = False := eq_false (by omega)
  have m4 : (5 < lab) = False := eq_false (by omega)
  have HD : Hid (docB l t.os.length ⟨nm, num, 16, ref, lab, one, key⟩ = (refB l ⟨nm, num, 16, ref, lab, one, key⟩ && (labB ⟨nm, num, 16, ref, lab, one, key⟩ && (oneB t.os.length ⟨nm, num, 16, ref, lab, one, key⟩ && keyB ⟨nm, num, 16, ref, lab, one, key⟩)))) := hid (by unfold docB fldB; rw [decide_eq_true (by dsimp only; omega), decide_eq_true (by dsimp only; omega)]; rfl)
  have HK := hid (isKeyR key)
  have HN := hid (numericR 16)
  clear n1 n2
  have HKX : Hid (¬ (16 : Int) = 17) := hid (by omega)
  have HR0 : Hid (refB l ⟨nm, num, 16, ref, lab, one, key⟩ = (match l[ref.toNat]? with | some x => decide (0 ≤ ref) && (x.t.enum == true) | none => false)) := hid (by unfold refB; rw [if_pos (by simp)]; rfl)
  by_cases r1 : ref < 0
  case pos =>
    have r2 : (ref < 0) = True := eq_true r1
    have HR : Hid (refB l ⟨nm, num, 16, ref, lab, one, key⟩ = false) := hid (by rw [HR0.out]; split <;> simp; intro _; omega)
    clear r1 h HR0
    go_enter Tryd.func60, Tryd.ntmps60
    go_wp2
    have Ba : Blk (((w.alloc (.cells #[.slice ta l.length tc] 24)).alloc (.cells #[.string (strOfNums t.name), .bool t.enum, .slice fa t.fs.length fc, .slice oa t.os.length oc, .slice sa t.ss.length sc, .slice ra t.rs.length rc] 62)).alloc (.cells #[.string (strOfNums nm), .int .i64 num, .int .i64 16, .int .i64 ref, .int .i64 lab, .int .i64 one, .int .i64 key] 39)) w.heap.size 24 #[.slice ta l.length tc] := (((Blk.new _ _ _).kept (below_alloc _)).kept (below_alloc _))
    have Bb : Blk (((w.alloc (.cells #[.slice ta l.length tc] 24)).alloc (.cells #[.string (strOfNums t.name), .bool t.enum, .slice fa t.fs.length fc, .slice oa t.os.length oc, .slice sa t.ss.length sc, .slice ra t.rs.length rc] 62)).alloc (.cells #[.string (strOfNums nm), .int .i64 num, .int .i64 16, .int .i64 ref, .int .i64 lab, .int .i64 one, .int .i64 key] 39)) (w.heap.size + 1) 62 #[.string (strOfNums t.name), .bool t.enum, .slice fa t.fs.length fc, .slice oa t.os.length oc, .slice sa t.ss.length sc, .slice ra t.rs.length rc] := ((Blk.newAt (by simp)).kept (below_alloc _))
    have Bc : Blk (((w.alloc (.cells #[.slice ta l.length tc] 24)).alloc (.cells #[.string (strOfNums t.name), .bool t.enum, .slice fa t.fs.length fc, .slice oa t.os.length oc, .slice sa t.ss.length sc, .slice ra t.rs.length rc] 62)).alloc (.cells #[.string (strOfNums nm), .int .i64 num, .int .i64 16, .int .i64 ref, .int .i64 lab, .int .i64 one, .int .i64 key] 39)) (w.heap.size + 1 + 1) 39 #[.string (strOfNums nm), .int .i64 num, .int .i64 16, .int .i64 ref, .int .i64 lab, .int .i64 one, .int .i64 key] := (Blk.newAt (by simp))
    have hb0 : Hid (Below w.heap.size w (((w.alloc (.cells #[.slice ta l.length tc] 24)).alloc (.cells #[.string (strOfNums t.name), .bool t.enum, .slice fa t.fs.length fc, .slice oa t.os.length oc, .slice sa t.ss.length sc, .slice ra t.rs.length rc] 62)).alloc (.cells #[.string (strOfNums nm), .int .i64 num, .int .i64 16, .int .i64 ref, .int .i64 lab, .int .i64 one, .int .i64 key] 39))) := hid (by exact blBy)
    generalize (((w.alloc (.cells #[.slice ta l.length tc] 24)).alloc (.cells #[.string (strOfNums t.name), .bool t.enum, .slice fa t.fs.length fc, .slice oa t.os.length oc, .slice sa t.ss.length sc, .slice ra t.rs.length rc] 62)).alloc (.cells #[.string (strOfNums nm), .int .i64 num, .int .i64 16, .int .i64 ref, .int .i64 lab, .int .i64 one, .int .i64 key] 39)) = W at *
    have xa := Ba.cellF
    have za := Ba.lt
    have xb := Bb.cellF
    have zb := Bb.lt
    have xc := Bc.cellF
    have zc := Bc.lt
    clear Ba Bb Bc
    go_region
    go_wp2
    go_ret
    exact ⟨ret_bool (by rw [HD.out, HR.out]; rfl), by have := hb0.out; exact blBy⟩
  by_cases r3 : (l.length : Int) ≤ ref
  case pos =>
    have r2 : (ref < 0) = False := eq_false r1
    have r4 : ((l.length : Int) ≤ ref) = True := eq_true r3
    have HR : Hid (refB l ⟨nm, num, 16, ref, lab, one, key⟩ = false) := hid (by rw [HR0.out, List.getElem?_eq_none (by omega)])
    clear r1 r3 h HR0
    go_enter Tryd.func60, Tryd.ntmps60
    go_wp2
    have Ba : Blk (((w.alloc (.cells #[.slice ta l.length tc] 24)).alloc (.cells #[.string (strOfNums t.name), .bool t.enum, .slice fa t.fs.length fc, .slice oa t.os.length oc, .slice sa t.ss.length sc, .slice ra t.rs.length rc] 62)).alloc (.cells #[.string (strOfNums nm), .int .i64 num, .int .i64 16, .int .i64 ref, .int .i64 lab, .int .i64 one, .int .i64 key] 39)) w.heap.size 24 #[.slice ta l.length tc] := (((Blk.new _ _ _).kept (below_alloc _)).kept (below_alloc _))
    have Bb : Blk (((w.alloc (.cells #[.slice ta l.length tc] 24)).alloc (.cells #[.string (strOfNums t.name), .bool t.enum, .slice fa t.fs.length fc, .slice oa t.os.length oc, .slice sa t.ss.length sc, .slice ra t.rs.length rc] 62)).alloc (.cells #[.string (strOfNums nm), .int .i64 num, .int .i64 16, .int .i64 ref, .int .i64 lab, .int .i64 one, .int .i64 key] 39)) (w.heap.size + 1) 62 #[.string (strOfNums t.name), .bool t.enum, .slice fa t.fs.length fc, .slice oa t.os.length oc, .slice sa t.ss.length sc, .slice ra t.rs.length rc] := ((Blk.newAt (by simp)).kept (below_alloc _))
    have Bc : Blk (((w.alloc (.cells #[.slice ta l.length tc] 24)).alloc (.cells #[.string (strOfNums t.name), .bool t.enum, .slice fa t.fs.length fc, .slice oa t.os.length oc, .slice sa t.ss.length sc, .slice ra t.rs.length rc] 62)).alloc (.cells #[.string (strOfNums nm), .int .i64 num, .int .i64 16, .int .i64 ref, .int .i64 lab, .int .i64 one, .int .i64 key] 39)) (w.heap.size + 1 + 1) 39 #[.string (strOfNums nm), .int .i64 num, .int .i64 16, .int .i64 ref, .int .i64 lab, .int .i64 one, .int .i64 key] := (Blk.newAt (by simp))
    have hb0 : Hid (Below w.heap.size w (((w.alloc (.cells #[.slice ta l.length tc] 24)).alloc (.cells #[.string (strOfNums t.name), .bool t.enum, .slice fa t.fs.length fc, .slice oa t.os.length oc, .slice sa t.ss.length sc, .slice ra t.rs.length rc] 62)).alloc (.cells #[.string (strOfNums nm), .int .i64 num, .int .i64 16, .int .i64 ref, .int .i64 lab, .int .i64 one, .int .i64 key] 39))) := hid (by exact blBy)
    generalize (((w.alloc (.cells #[.slice ta l.length tc] 24)).alloc (.cells #[.string (strOfNums t.name), .bool t.enum, .slice fa t.fs.length fc, .slice oa t.os.length oc, .slice sa t.ss.length sc, .slice ra t.rs.length rc] 62)).alloc (.cells #[.string (strOfNums nm), .int .i64 num, .int .i64 16, .int .i64 ref, .int .i64 lab, .int .i64 one, .int .i64 key] 39)) = W at *
    have xa := Ba.cellF
    have za := Ba.lt
    have xb := Bb.cellF
    have zb := Bb.lt
    have xc := Bc.cellF
    have zc := Bc.lt
    clear Ba Bb Bc
    go_region
    go_wp2
    go_ret
    exact ⟨ret_bool (by rw [HD.out, HR.out]; rfl), by have := hb0.out; exact blBy⟩
  obtain ⟨k, rfl⟩ := Int.eq_ofNat_of_zero_le (show 0 ≤ ref by omega)
  have hkl : k < l.length := by omega
  have r2 : ((k : Int) < 0) = False := eq_false r1
  have r4 : ((l.length : Int) ≤ (k : Int)) = False := eq_false r3
  have r5 : (k : Int) < (l.length : Int) := by omega
  obtain ⟨b, o, rfl, hc⟩ := rowAt (g := cTV) (fun _ => rfl) h.row (i := k) (x := l[k]) (by simp [hkl])
  have c0 : w.cell? ⟨b, o + k * 6 + 1, none⟩ = some (.bool l[k].t.enum) := hc 1 _ rfl
  have HR1 : Hid (refB l ⟨nm, num, 16, (k : Int), lab, one, key⟩ = (l[k].t.enum == true)) := hid (by rw [HR0.out]; simp [hkl])
  clear r1 r3 h HR0 hc
  generalize l[k].t.enum = en at *
  cases en with
  | false =>
    have HR : Hid (refB l ⟨nm, num, 16, (k : Int), lab, one, key⟩ = false) := hid (by rw [HR1.out]; rfl)
    go_enter Tryd.func60, Tryd.ntmps60
    go_wp2
    have Ba : Blk (((w.alloc (.cells #[.slice (some ⟨b, o, none⟩) l.length tc] 24)).alloc (.cells #[.string (strOfNums t.name), .bool t.enum, .slice fa t.fs.length fc, .slice oa t.os.length oc, .slice sa t.ss.length sc, .slice ra t.rs.length rc] 62)).alloc (.cells #[.string (strOfNums nm), .int .i64 num, .int .i64 16, .int .i64 (k : Int), .int .i64 lab, .int .i64 one, .int .i64 key] 39)) w.heap.size 24 #[.slice (some ⟨b, o, none⟩) l.length tc] := (((Blk.new _ _ _).kept (below_alloc _)).kept (below_alloc _))
    have Bb : Blk (((w.alloc (.cells #[.slice (some ⟨b, o, none⟩) l.length tc] 24)).alloc (.cells #[.string (strOfNums t.name), .bool t.enum, .slice fa t.fs.length fc, .slice oa t.os.length oc, .slice sa t.ss.length sc, .slice ra t.rs.length rc] 62)).alloc (.cells #[.string (strOfNums nm), .int .i64 num, .int .i64 16, .int .i64 (k : Int), .int .i64 lab, .int .i64 one, .int .i64 key] 39)) (w.heap.size + 1) 62 #[.string (strOfNums t.name), .bool t.enum, .slice fa t.fs.length fc, .slice oa t.os.length oc, .slice sa t.ss.length sc, .slice ra t.rs.length rc] := ((Blk.newAt (by simp)).kept (below_alloc _))
    have Bc : Blk (((w.alloc (.cells #[.slice (some ⟨b, o, none⟩) l.length tc] 24)).alloc (.cells #[.string (strOfNums t.name), .bool t.enum, .slice fa t.fs.length fc, .slice oa t.os.length oc, .slice sa t.ss.length sc, .slice ra t.rs.length rc] 62)).alloc (.cells #[.string (strOfNums nm), .int .i64 num, .int .i64 16, .int .i64 (k : Int), .int .i64 lab, .int .i64 one, .int .i64 key] 39)) (w.heap.size + 1 + 1) 39 #[.string (strOfNums nm), .int .i64 num, .int .i64 16, .int .i64 (k : Int), .int .i64 lab, .int .i64 one, .int .i64 key] := (Blk.newAt (by simp))
    have hb0 : Hid (Below w.heap.size w (((w.alloc (.cells #[.slice (some ⟨b, o, none⟩) l.length tc] 24)).alloc (.cells #[.string (strOfNums t.name), .bool t.enum, .slice fa t.fs.length fc, .slice oa t.os.length oc, .slice sa t.ss.length sc, .slice ra t.rs.length rc] 62)).alloc (.cells #[.string (strOfNums nm), .int .i64 num, .int .i64 16, .int .i64 (k : Int), .int .i64 lab, .int .i64 one, .int .i64 key] 39))) := hid (by exact blBy)
    have c9 := cell_below c0 hb0.out
    clear c0
    generalize (((w.alloc (.cells #[.slice (some ⟨b, o, none⟩) l.length tc] 24)).alloc (.cells #[.string (strOfNums t.name), .bool t.enum, .slice fa t.fs.length fc, .slice oa t.os.length oc, .slice sa t.ss.length sc, .slice ra t.rs.length rc] 62)).alloc (.cells #[.string (strOfNums nm), .int .i64 num, .int .i64 16, .int .i64 (k : Int), .int .i64 lab, .int .i64 one, .int .i64 key] 39)) = W at *
    have xa := Ba.cellF
    have za := Ba.lt
    have xb := Bb.cellF
    have zb := Bb.lt
    have xc := Bc.cellF
    have zc := Bc.lt
    clear Ba Bb Bc
    have hbl2 : b < W.heap.size := World.block_lt_of_cell? _ _ c9
    go_region
    go_wp2
    go_ret
    exact ⟨ret_bool (by rw [HD.out, HR.out]; rfl), by have := hb0.out; exact blBy⟩
  | true =>
  have HR : Hid (refB l ⟨nm, num, 16, (k : Int), lab, one, key⟩ = true) := hid (by rw [HR1.out]; rfl)
  go_enter Tryd.func60, Tryd.ntmps60
  go_wp2
  have Ba : Blk (((w.alloc (.cells #[.slice (some ⟨b, o, none⟩) l.length tc] 24)).alloc (.cells #[.string (strOfNums t.name), .bool t.enum, .slice fa t.fs.length fc, .slice oa t.os.length oc, .slice sa t.ss.length sc, .slice ra t.rs.length rc] 62)).alloc (.cells #[.string (strOfNums nm), .int .i64 num, .int .i64 16, .int .i64 (k : Int), .int .i64 lab, .int .i64 one, .int .i64 key] 39)) w.heap.size 24 #[.slice (some ⟨b, o, none⟩) l.length tc] := (((Blk.new _ _ _).kept (below_alloc _)).kept (below_alloc _))
  have Bb : Blk (((w.alloc (.cells #[.slice (some ⟨b, o, none⟩) l.length tc] 24)).alloc (.cells #[.string (strOfNums t.name), .bool t.enum, .slice fa t.fs.length fc, .slice oa t.os.length oc, .slice sa t.ss.length sc, .slice ra t.rs.length rc] 62)).alloc (.cells #[.string (strOfNums nm), .int .i64 num, .int .i64 16, .int .i64 (k : Int), .int .i64 lab, .int .i64 one, .int .i64 key] 39)) (w.heap.size + 1) 62 #[.string (strOfNums t.name), .bool t.enum, .slice fa t.fs.length fc, .slice oa t.os.length oc, .slice sa t.ss.length sc, .slice ra t.rs.length rc] := ((Blk.newAt (by simp)).kept (below_alloc _))
  have Bc : Blk (((w.alloc (.cells #[.slice (some ⟨b, o, none⟩) l.length tc] 24)).alloc (.cells #[.string (strOfNums t.name), .bool t.enum, .slice fa t.fs.length fc, .slice oa t.os.length oc, .slice sa t.ss.length sc, .slice ra t.rs.length rc] 62)).alloc (.cells #[.string (strOfNums nm), .int .i64 num, .int .i64 16, .int .i64 (k : Int), .int .i64 lab, .int .i64 one, .int .i64 key] 39)) (w.heap.size + 1 + 1) 39 #[.string (strOfNums nm), .int .i64 num, .int .i64 16, .int .i64 (k : Int), .int .i64 lab, .int .i64 one, .int .i64 key] := (Blk.newAt (by simp))
  have hb0 : Hid (Below w.heap.size w (((w.alloc (.cells #[.slice (some ⟨b, o, none⟩) l.length tc] 24)).alloc (.cells #[.string (strOfNums t.name), .bool t.enum, .slice fa t.fs.length fc, .slice oa t.os.length oc, .slice sa t.ss.length sc, .slice ra t.rs.length rc] 62)).alloc (.cells #[.string (strOfNums nm), .int .i64 num, .int .i64 16, .int .i64 (k : Int), .int .i64 lab, .int .i64 one, .int .i64 key] 39))) := hid (by exact blBy)
  have c9 := cell_below c0 hb0.out
  clear c0
  generalize (((w.alloc (.cells #[.slice (some ⟨b, o, none⟩) l.length tc] 24)).alloc (.cells #[.string (strOfNums t.name), .bool t.enum, .slice fa t.fs.length fc, .slice oa t.os.length oc, .slice sa t.ss.length sc, .slice ra t.rs.length rc] 62)).alloc (.cells #[.string (strOfNums nm), .int .i64 num, .int .i64 16, .int .i64 (k : Int), .int .i64 lab, .int .i64 one, .int .i64 key] 39)) = W at *
  have xa := Ba.cellF
  have za := Ba.lt
  have xb := Bb.cellF
  have zb := Bb.lt
  have xc := Bc.cellF
  have zc := Bc.lt
  clear Ba Bb Bc
  have hbl2 : b < W.heap.size := World.block_lt_of_cell? _ _ c9
  go_region
  have hlab : lab = 0 ∨ lab = 1 ∨ lab = 2 ∨ lab = 3 ∨ lab = 4 ∨ lab = 5 := by omega
  clear m3 m4 l1 l2
  rcases hlab with rfl | rfl | rfl | rfl | rfl | rfl
  · skip
    by_cases o1 : one = 0
    case neg =>
      have o2 : (one != 0) = true := by simpa using o1
      replace o1 := hid o1
      go_wp2_with (first | (go_at_call 46; refine (HN.out _).mono ?_; rintro e w1 ⟨rfl, rfl⟩) | (go_at_call 85; refine (HK.out _).mono ?_; rintro e w1 ⟨rfl, rfl⟩))
      go_ret
      exact ⟨ret_bool (by rw [HD.out, HR.out]; simp [oneB, o1.out]), by have := hb0.out; exact blBy⟩
    have o2 : (one != 0) = false := by simpa using o1
    replace o1 := hid o1
    go_wp2_with (first | (go_at_call 46; refine (HN.out _).mono ?_; rintro e w1 ⟨rfl, rfl⟩) | (go_at_call 85; refine (HK.out _).mono ?_; rintro e w1 ⟨rfl, rfl⟩))
    go_ret
    exact ⟨ret_bool (by rw [HD.out, HR.out]; simp [labB, HKX.out, oneB, keyB, o1.out]; by_cases hk : key = 0 <;> simp [hk]), by have := hb0.out; exact blBy⟩
  · skip
    by_cases o1 : one = 0
    case neg =>
      have o2 : (one != 0) = true := by simpa using o1
      replace o1 := hid o1
      go_wp2_with (first | (go_at_call 46; refine (HN.out _).mono ?_; rintro e w1 ⟨rfl, rfl⟩) | (go_at_call 85; refine (HK.out _).mono ?_; rintro e w1 ⟨rfl, rfl⟩))
      go_ret
      exact ⟨ret_bool (by rw [HD.out, HR.out]; simp [oneB, o1.out]), by have := hb0.out; exact blBy⟩
    have o2 : (one != 0) = false := by simpa using o1
    replace o1 := hid o1
    go_wp2_with (first | (go_at_call 46; refine (HN.out _).mono ?_; rintro e w1 ⟨rfl, rfl⟩) | (go_at_call 85; refine (HK.out _).mono ?_; rintro e w1 ⟨rfl, rfl⟩))
    go_ret
    exact ⟨ret_bool (by rw [HD.out, HR.out]; simp [labB, oneB, keyB, o1.out]; by_cases hk : key = 0 <;> simp [hk]), by have := hb0.out; exact blBy⟩
  · skip
    by_cases o1 : one = 0
    case neg =>
      have o2 : (one != 0) = true := by simpa using o1
      replace o1 := hid o1
      go_wp2_with (first | (go_at_call 46; refine (HN.out _).mono ?_; rintro e w1 ⟨rfl, rfl⟩) | (go_at_call 85; refine (HK.out _).mono ?_; rintro e w1 ⟨rfl, rfl⟩))
      go_ret
      exact ⟨ret_bool (by rw [HD.out, HR.out]; simp [oneB, o1.out]), by have := hb0.out; exact blBy⟩
    have o2 : (one != 0) = false := by simpa using o1
    replace o1 := hid o1
    go_wp2_with (first | (go_at_call 46; refine (HN.out _).mono ?_; rintro e w1 ⟨rfl, rfl⟩) | (go_at_call 85; refine (HK.out _).mono ?_; rintro e w1 ⟨rfl, rfl⟩))
    go_ret
    exact ⟨ret_bool (by rw [HD.out, HR.out]; simp [labB, oneB, keyB, o1.out]; by_cases hk : key = 0 <;> simp [hk]), by have := hb0.out; exact blBy⟩
  · skip
    cases q : knum 16 with
    | false =>
      rw [q] at HN
      go_wp2_with (first | (go_at_call 46; refine (HN.out _).mono ?_; rintro e w1 ⟨rfl, rfl⟩) | (go_at_call 85; refine (HK.out _).mono ?_; rintro e w1 ⟨rfl, rfl⟩))
      go_ret
      exact ⟨ret_bool (by rw [HD.out, HR.out]; simp [labB, q]), by have := hb0.out; exact blBy⟩
    | true =>
      rw [q] at HN
      by_cases o1 : one = 0
      case neg =>
        have o2 : (one != 0) = true := by simpa using o1
        replace o1 := hid o1
        go_wp2_with (first | (go_at_call 46; refine (HN.out _).mono ?_; rintro e w1 ⟨rfl, rfl⟩) | (go_at_call 85; refine (HK.out _).mono ?_; rintro e w1 ⟨rfl, rfl⟩))
        go_ret
        exact ⟨ret_bool (by rw [HD.out, HR.out]; simp [oneB, o1.out]), by have := hb0.out; exact blBy⟩
      have o2 : (one != 0) = false := by simpa using o1
      replace o1 := hid o1
      go_wp2_with (first | (go_at_call 46; refine (HN.out _).mono ?_; rintro e w1 ⟨rfl, rfl⟩) | (go_at_call 85; refine (HK.out _).mono ?_; rintro e w1 ⟨rfl, rfl⟩))
      go_ret
      exact ⟨ret_bool (by rw [HD.out, HR.out]; simp [labB, q, oneB, keyB, o1.out]; by_cases hk : key = 0 <;> simp [hk]), by have := hb0.out; exact blBy⟩
  · skip
    by_cases o1 : one < 0
    · have o2 : (one < 0) = True := eq_true o1
      have HO : Hid (one < 0) := hid o1
      clear o1
      go_wp2_with (first | (go_at_call 46; refine (HN.out _).mono ?_; rintro e w1 ⟨rfl, rfl⟩) | (go_at_call 85; refine (HK.out _).mono ?_; rintro e w1 ⟨rfl, rfl⟩))
      go_ret
      exact ⟨ret_bool (by rw [HD.out, HR.out]; have := HO.out; simp [labB, oneB]; intro _ h2; omega), by have := hb0.out; exact blBy⟩
    by_cases o3 : (t.os.length : Int) ≤ one
    · have o2 : (one < 0) = False := eq_false o1
      have o4 : ((t.os.length : Int) ≤ one) = True := eq_true o3
      have HO : Hid ((t.os.length : Int) ≤ one) := hid o3
      clear o1 o3
      go_wp2_with (first | (go_at_call 46; refine (HN.out _).mono ?_; rintro e w1 ⟨rfl, rfl⟩) | (go_at_call 85; refine (HK.out _).mono ?_; rintro e w1 ⟨rfl, rfl⟩))
      go_ret
      exact ⟨ret_bool (by rw [HD.out, HR.out]; have := HO.out; simp [labB, oneB]; intro _ h2; omega), by have := hb0.out; exact blBy⟩
    have o2 : (one < 0) = False := eq_false o1
    have o4 : ((t.os.length : Int) ≤ one) = False := eq_false o3
    have HO : Hid (¬ one < 0 ∧ ¬ (t.os.length : Int) ≤ one) := hid ⟨o1, o3⟩
    clear o1 o3
    go_wp2_with (first | (go_at_call 46; refine (HN.out _).mono ?_; rintro e w1 ⟨rfl, rfl⟩) | (go_at_call 85; refine (HK.out _).mono ?_; rintro e w1 ⟨rfl, rfl⟩))
    go_ret
    exact ⟨ret_bool (by rw [HD.out, HR.out]; have := HO.out; simp [labB, oneB, keyB]; rw [show (decide (0 ≤ one) && decide (one < (t.os.length : Int))) = true by simp; omega]; by_cases hk : key = 0 <;> simp [hk]), by have := hb0.out; exact blBy⟩
  · skip
    by_cases o1 : one = 0
    case neg =>
      have o2 : (one != 0) = true := by simpa using o1
      replace o1 := hid o1
      go_wp2_with (first | (go_at_call 46; refine (HN.out _).mono ?_; rintro e w1 ⟨rfl, rfl⟩) | (go_at_call 85; refine (HK.out _).mono ?_; rintro e w1 ⟨rfl, rfl⟩))
      go_ret
      exact ⟨ret_bool (by rw [HD.out, HR.out]; simp [oneB, o1.out]), by have := hb0.out; exact blBy⟩
    have o2 : (one != 0) = false := by simpa using o1
    replace o1 := hid o1
    go_wp2_with (first | (go_at_call 46; refine (HN.out _).mono ?_; rintro e w1 ⟨rfl, rfl⟩) | (go_at_call 85; refine (HK.out _).mono ?_; rintro e w1 ⟨rfl, rfl⟩))
    go_ret
    exact ⟨ret_bool (by rw [HD.out, HR.out]; simp [labB, oneB, keyB, o1.out]), by have := hb0.out; exact blBy⟩
end Go.Proofs.YthdkmlfpgmgicaaDoor
