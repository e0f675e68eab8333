/-
  What is around a type.
  A table is good: what the program answers.
  A type by its name: both answers.
  The table of the examples.
  A type at its index, where it is a message of a good table.
  A name's names (the document's).
-/
import Derived.Test.YtbiohlfcikdldaaDoorCTP
namespace Go.Proofs.YtbiohlfcikdldaaDoor
open Go.RowKit
set_option maxRecDepth 1000000
set_option linter.unusedVariables false
set_option linter.unusedSimpArgs false
set_option maxHeartbeats 1000000
def lastD (x : List Int) : Int := Lib.lastIndexByte (strOfNums x) 46
theorem lastD_is (x : List Int) : lastD x = -1 ∨ ∃ i : Nat, lastD x = i ∧ i < x.length := by
  rcases Lib.lastIndexByte_spec (strOfNums x) 46 with ⟨e, _⟩ | ⟨i, hi, e, _⟩
  · exact .inl e
  · exact .inr ⟨i, e, by rw [strOfNums_size] at hi; exact hi⟩
theorem lastT (x : List Int) (w : World) (h : x.length < 4611686018427387904) : Calls Tryd.prog 49 #[.string (strOfNums x), .string dotS] w fun e w' => e = .returned (.int .i64 (lastD x)) ∧ w = w' := by
  refine (Tryd.strings_LastIndex_one (strOfNums x) dotS rfl (by rw [strOfNums_size]; exact h) w).mono ?_
  rintro e w' ⟨rfl, rfl⟩
  exact ⟨rfl, rfl⟩
def standB (l : List TV) (i : Nat) (x : List Int) : Bool := if lastD x < 0 then true else match (l.take i).find? (fun v => v.t.name == x.take (lastD x).toNat) with
  | none => false
  | some v => !v.t.enum
theorem standsRightT (w : World) (l : List TV) (ta : Option Addr) (tc : Nat) (b i : Nat) (x : List Int) (h : TbR w (.slice ta l.length tc) l) (hk : Kn w b l i) (hx : TxA x) (hl : x.length < 4294967281) : Calls Tryd.prog 29 #[.agg #[.slice ta l.length tc], .map (some b), .string (strOfNums x)] w fun e w' => e = .returned (.bool (standB l i x)) ∧ Below w.heap.size w w' := by
  have HX : Hid (standB l i x = if lastD x < 0 then true else match (l.take i).find? (fun v => v.t.name == x.take (lastD x).toNat) with
  | none => false
  | some v => !v.t.enum) := hid rfl
  have HC : Hid (∀ W, Calls Tryd.prog 49 #[.string (strOfNums x), .string dotS] W fun e w' => e = .returned (.int .i64 (lastD x)) ∧ W = w') := hid fun W => lastT x W (by omega)
  obtain ⟨_, _, e, hn⟩ := rowS_sl h.row
  clear e
  have h1 : (l.length : Int) ≤ 9223372036854775807 := by omega
  have HT := hid h
  have HK := hid hk
  rcases lastD_is x with e | ⟨k, e, hkx⟩
  · rw [e] at HX HC
    replace HX := hid (show standB l i x = true by rw [HX.out]; rfl)
    clear h hk hx
    go_enter Tryd.func29, Tryd.ntmps29
    go_wp2_with (first | (go_at_call 49; refine (HC.out _).mono ?_; rintro e w1 ⟨rfl, rfl⟩))
    go_ret
    exact ⟨ret_bool HX.out.symm, by exact blBy⟩
  rw [e] at HX HC
  have hy : TxA (x.take k) := ⟨fun c hc => hx.1 c (List.mem_of_mem_take hc), by have := hx.2; simp; omega⟩
  have HS : Hid ((strOfNums x).extract 0 k = strOfNums (x.take k)) := hid (by rw [str_cut]; rfl)
  have HSZ : (strOfNums x).size = x.length := strOfNums_size x
  replace HX := hid (show standB l i x = match (l.take i).find? (fun v => v.t.name == x.take k) with
  | none => false
  | some v => !v.t.enum by rw [HX.out, if_neg (by omega)]; rfl)
  have k0 : ¬ (k : Int) < 0 := by omega
  have hkx' : (k : Int) < (x.length : Int) := by omega
  obtain ⟨c, hr, hc⟩ := (HK.out.kept (below_alloc (w := w) (.cells #[.slice ta l.length tc] 24))).look hy
  rw [← HS.out] at hr
  cases hf : (l.take i).find? (fun v => v.t.name == x.take k) with
  | none =>
    have hno : named (l.take i) (x.take k) = false := by
      unfold named
      rw [List.any_eq_false]
      intro v hv
      exact List.find?_eq_none.1 hf v hv
    replace HX := hid (show standB l i x = false by rw [HX.out, hf])
    rw [hno] at hr
    clear h hk hx hno hf hc
    go_enter Tryd.func29, Tryd.ntmps29
    go_wp2_with (first | (go_at_call 49; refine (HC.out _).mono ?_; rintro e w1 ⟨rfl, rfl⟩))
    go_ret
    exact ⟨ret_bool HX.out.symm, by exact blBy⟩
  | some v =>
    have hyes : named (l.take i) (x.take k) = true := by
      unfold named
      rw [List.any_eq_true]
      exact ⟨v, List.mem_of_find?_eq_some hf, by simpa using List.find?_some hf⟩
    obtain ⟨j, hj, ej⟩ := List.mem_take_iff_getElem.1 (List.mem_of_find?_eq_some hf)
    have hjl : j < l.length := by omega
    have hcj : c = (j : Int) := hc j hjl (by omega) (by rw [ej]; simpa using List.find?_some hf)
    subst hcj
    replace HX := hid (show standB l i x = !l[j].t.enum by rw [HX.out, hf, ej])
    rw [hyes] at hr
    have hjl' : (j : Int) < (l.length : Int) := by omega
    obtain ⟨tb, tof, rfl, hbl, -, c1, -⟩ := row6 HT.out.row hjl
    clear h hk hx hyes hf hc ej
    generalize l[j].t.enum = en at *
    go_enter Tryd.func29, Tryd.ntmps29
    go_wp2_with (first | (go_at_call 49; refine (HC.out _).mono ?_; rintro e w1 ⟨rfl, rfl⟩))
    go_ret
    exact ⟨ret_bool HX.out.symm, by exact blBy⟩
/-- What is asked of a table: that its texts and numbers can be. -/
structure OkV (x : TV) : Prop where
  ok : OkT x.t
  nl : x.t.name.length < 4294967281
  sz : x.t.fs.length + x.t.os.length + x.t.rs.length ≤ 9223372036854775807
def stepB (l : List TV) (j : Nat) (t : TT) : Bool := !named (l.take j) t.name && (fullB t && (standB l j t.name && typB l t))
def goodA (l : List TV) : List TV → Nat → Bool
  | [], _ => true
  | x :: r, j => stepB l j x.t && goodA l r (j + 1)
def goodB (l : List TV) : Bool := decide (l.length ≤ 128) && goodA l l 0
theorem run_makeMap0 {P : Program} (t : TypeId) (w : World) {ki e : TypeId} (ht : P.underlying t = some (.map ki e)) : (Instr.makeMap t none).run P w = .ok (.map (some w.heap.size)) (w.alloc (.map #[] 0)) := by
  simp [Instr.makeMap, run_underlying ht, Result.andThen]
theorem goodT (w : World) (l : List TV) (ta : Option Addr) (tc : Nat) (h : TbR w (.slice ta l.length tc) l) (hk : ∀ x ∈ l, OkV x) (m : Int) (hm : w.cell? ⟨0, 0, none⟩ = some (.int .i64 m)) : Calls Tryd.prog 10 #[.agg #[.slice ta l.length tc]] w fun e w' => e = .returned (.bool (goodB l)) ∧ Below w.heap.size w w' := by
  obtain ⟨_, _, e, hn⟩ := rowS_sl h.row
  clear e
  have h1 : (l.length : Int) ≤ 9223372036854775807 := by omega
  have HT := hid h
  have HK := hid hk
  have HM := hid hm
  clear h hk hm
  have HX : Hid (goodB l = (decide (l.length ≤ 128) && goodA l l 0)) := hid rfl
  by_cases hbig : 128 < l.length
  case pos =>
    have h2 : (128 : Int) < (l.length : Int) := by omega
    replace HX := hid (show goodB l = false by rw [HX.out, decide_eq_false (by omega)]; rfl)
    go_enter Tryd.func10, Tryd.ntmps10
    go_wp2
    go_ret
    exact ⟨ret_bool HX.out.symm, by exact blBy⟩
  have h2 : ¬ (128 : Int) < (l.length : Int) := by omega
  replace HX := hid (show goodB l = goodA l l 0 by rw [HX.out, decide_eq_true (by omega)]; rfl)
  have hmk := fun W => run_makeMap0 (P := Tryd.prog) 65 W Tryd.underlying65
  go_enter Tryd.func10, Tryd.ntmps10
  go_wp2
  clear hmk
  go_loopw [16] (fun r wr => ∃ j : Nat, r = .int .i64 j ∧ j ≤ l.length ∧ Hid (goodA l l 0 = goodA l (l.drop j) j) ∧ Hid (Kn wr (w.heap.size + 1) l j) ∧ Hid (Blk wr w.heap.size 24 #[.slice ta l.length tc]) ∧ Hid (Below w.heap.size w wr)) (fun r wr => l.length - numAt wr r)
  case atStart => exact ⟨0, rfl, by omega, hid rfl, hid (by have := Kn.new (w.alloc (Obj.cells #[Value.slice ta l.length tc] 24)) l; simpa using this), hid ((Blk.new _ _ _).kept (below_alloc _)), hid (by exact blBy)⟩
  case round =>
    obtain ⟨j, rfl, hj, hg, HKN, hB, hb⟩ := hrel
    by_cases hlt : j < l.length
    · have h3 : (j : Int) < (l.length : Int) := by omega
      have HST : Hid (goodA l (l.drop j) j = (stepB l j l[j].t && goodA l (l.drop (j + 1)) (j + 1))) := hid (by rw [List.drop_eq_getElem_cons hlt, goodA])
      have HTY := hid (HT.out.ty _ (List.getElem_mem hlt))
      have HOK := hid (HK.out _ (List.getElem_mem hlt))
      obtain ⟨tb, tof, rfl, hbl, c0, c1, c2, c3, c4, c5⟩ := row6 (HT.out.row.kept hb.out) hlt
      have HPUT : Hid (∀ W, Kn W (w.heap.size + 1) l j → named (l.take j) l[j].t.name = false → ∃ w', (Instr.mapUpdate 65 (.map (some (w.heap.size + 1))) (.string (strOfNums l[j].t.name)) (.int .i64 (j : Int))).run Tryd.prog W = .ok () w' ∧ Kn w' (w.heap.size + 1) l (j + 1) ∧ W.grownBy w' (some (w.heap.size + 1))) := hid fun W hW hN => hW.put hlt (by omega) (fun v hv => (HK.out v hv).ok.nm) hN
      generalize l[j] = x at *
      obtain ⟨t, f, o, s, r⟩ := x
      obtain ⟨fa, fc, ef, -⟩ := rowS_sl HTY.out.f
      obtain ⟨oa, oc, eo, -⟩ := rowS_sl HTY.out.o
      obtain ⟨sa, sc, es, -⟩ := rowS_sl HTY.out.s
      obtain ⟨ra, rc, er, -⟩ := rowS_sl HTY.out.r
      dsimp only at ef eo es er
      subst ef eo es er
      dsimp only at c0 c1 c2 c3 c4 c5
      obtain ⟨c, hr, -⟩ := (HKN.out.kept (below_alloc (w := wr) (.cells #[.string (strOfNums t.name), .bool t.enum, .slice fa t.fs.length fc, .slice oa t.os.length oc, .slice sa t.ss.length sc, .slice ra t.rs.length rc] 62))).look HOK.out.ok.nm
      try dsimp only at hr
      have Ba := hB.out
      have xa := Ba.cellF
      have ya := Ba.frz
      have za : w.heap.size < wr.heap.size := Ba.lt
      cases q0 : named (l.take j) t.name with
      | true =>
        rw [q0] at hr
        have HF : Hid (goodB l = false) := hid (by rw [HX.out, hg.out, HST.out]; simp [stepB, q0])
        go_wp2
        go_ret
        exact ⟨ret_bool HF.out.symm, by have := hb.out; exact blBy⟩
      | false =>
      rw [q0] at hr
      go_wp2_with fail
      refine (isFullNameT _ t _ _ _ _ m (cell_below HM.out (by have := hb.out; exact blBy)) HOK.out.ok.nm.1 HOK.out.nl).mono ?_
      rintro e w1 ⟨rfl, hb1⟩
      have Bb : Blk (wr.alloc (.cells #[.string (strOfNums t.name), .bool t.enum, .slice fa t.fs.length fc, .slice oa t.os.length oc, .slice sa t.ss.length sc, .slice ra t.rs.length rc] 62)) wr.heap.size 62 #[.string (strOfNums t.name), .bool t.enum, .slice fa t.fs.length fc, .slice oa t.os.length oc, .slice sa t.ss.length sc, .slice ra t.rs.length rc] := Blk.new _ _ _
      have Ba := Ba.kept (below_alloc (.cells #[.string (strOfNums t.name), .bool t.enum, .slice fa t.fs.length fc, .slice oa t.os.length oc, .slice sa t.ss.length sc, .slice ra t.rs.length rc] 62))
      replace HKN := hid (HKN.out.kept (below_alloc (.cells #[.string (strOfNums t.name), .bool t.enum, .slice fa t.fs.length fc, .slice oa t.os.length oc, .slice sa t.ss.length sc, .slice ra t.rs.length rc] 62)))
      have xb : True := trivial
      have yb : True := trivial
      have zb : True := trivial
      clear hr
      replace Ba : Blk w1 w.heap.size 24 #[.slice (some ⟨tb, tof, none⟩) l.length tc] := Blk.kept (Ba.is (by first | rfl | simp)) hb1
      replace Bb : Blk w1 wr.heap.size 62 #[.string (strOfNums t.name), .bool t.enum, .slice fa t.fs.length fc, .slice oa t.os.length oc, .slice sa t.ss.length sc, .slice ra t.rs.length rc] := Blk.kept (Bb.is (by first | rfl | simp)) hb1
      replace HKN := hid (HKN.out.kept hb1)
      clear xa ya xb yb
      have hs1 := hb1.size
      try simp at hs1
      have xa := Ba.cellF
      have ya := Ba.frz
      replace za : w.heap.size < w1.heap.size := by omega
      have xb := Bb.cellF
      have yb := Bb.frz
      replace zb : wr.heap.size < w1.heap.size := by omega
      replace hb1 : Hid (Below w.heap.size w w1) := hid (bl_then (by have := hb.out; exact blBy) hb1)
      cases q1 : fullB t with
      | false =>
        have HF : Hid (goodB l = false) := hid (by rw [HX.out, hg.out, HST.out]; simp [stepB, q0, q1])
        go_wp2
        go_ret
        exact ⟨ret_bool HF.out.symm, by have := hb1.out; exact blBy⟩
      | true =>
      go_wp2_with fail
      refine (standsRightT _ l _ tc (w.heap.size + 1) j t.name (HT.out.kept (by have := hb1.out; exact blBy)) HKN.out HOK.out.ok.nm HOK.out.nl).mono ?_
      rintro e w2 ⟨rfl, hb2⟩
      replace Ba : Blk w2 w.heap.size 24 #[.slice (some ⟨tb, tof, none⟩) l.length tc] := Blk.kept (Ba.is (by first | rfl | simp)) hb2
      replace Bb : Blk w2 wr.heap.size 62 #[.string (strOfNums t.name), .bool t.enum, .slice fa t.fs.length fc, .slice oa t.os.length oc, .slice sa t.ss.length sc, .slice ra t.rs.length rc] := Blk.kept (Bb.is (by first | rfl | simp)) hb2
      replace HKN := hid (HKN.out.kept hb2)
      clear xa ya xb yb
      have hs2 := hb2.size
      try simp at hs2
      have xa := Ba.cellF
      have ya := Ba.frz
      replace za : w.heap.size < w2.heap.size := by omega
      have xb := Bb.cellF
      have yb := Bb.frz
      replace zb : wr.heap.size < w2.heap.size := by omega
      replace hb2 : Hid (Below w.heap.size w w2) := hid (bl_then hb1.out hb2)
      cases q2 : standB l j t.name with
      | false =>
        have HF : Hid (goodB l = false) := hid (by rw [HX.out, hg.out, HST.out]; simp [stepB, q0, q1, q2])
        go_wp2
        go_ret
        exact ⟨ret_bool HF.out.symm, by have := hb2.out; exact blBy⟩
      | true =>
      go_wp2_with fail
      refine (isGoodTypeT _ l _ tc t fa oa sa ra fc oc sc rc (HT.out.kept (by have := hb2.out; exact blBy)) (HTY.out.kept (by have := hb2.out; exact blBy)) HOK.out.ok HOK.out.sz).mono ?_
      rintro e w3 ⟨rfl, hb3⟩
      replace Ba : Blk w3 w.heap.size 24 #[.slice (some ⟨tb, tof, none⟩) l.length tc] := Blk.kept (Ba.is (by first | rfl | simp)) hb3
      replace Bb : Blk w3 wr.heap.size 62 #[.string (strOfNums t.name), .bool t.enum, .slice fa t.fs.length fc, .slice oa t.os.length oc, .slice sa t.ss.length sc, .slice ra t.rs.length rc] := Blk.kept (Bb.is (by first | rfl | simp)) hb3
      replace HKN := hid (HKN.out.kept hb3)
      clear xa ya xb yb
      have hs3 := hb3.size
      try simp at hs3
      have xa := Ba.cellF
      have ya := Ba.frz
      replace za : w.heap.size < w3.heap.size := by omega
      have xb := Bb.cellF
      have yb := Bb.frz
      replace zb : wr.heap.size < w3.heap.size := by omega
      replace hb3 : Hid (Below w.heap.size w w3) := hid (bl_then hb2.out hb3)
      cases q3 : typB l t with
      | false =>
        have HF : Hid (goodB l = false) := hid (by rw [HX.out, hg.out, HST.out]; simp [stepB, q0, q1, q2, q3])
        go_wp2
        go_ret
        exact ⟨ret_bool HF.out.symm, by have := hb3.out; exact blBy⟩
      | true =>
      obtain ⟨w4, hr4, hk4, hg4⟩ := HPUT.out w3 HKN.out q0
      try dsimp only at hr4
      have HK4 := hid hk4
      have HB4 : Hid (Blk w4 w.heap.size 24 #[.slice (some ⟨tb, tof, none⟩) l.length tc]) := hid ((hg4.block _ za (by simp)).trans Ba)
      have HL4 : Hid (Below w.heap.size w w4) := hid (hb3.out.trans (grown_below hg4 (by omega) (by omega)))
      clear hk4 hg4
      go_wp2
      exact ⟨⟨j + 1, by simp, by omega, hid (by rw [hg.out, HST.out]; simp [stepB, q0, q1, q2, q3]), HK4, HB4, HL4⟩, by simp [numAt]; omega⟩
    · have h3 : ¬ (j : Int) < (l.length : Int) := by omega
      have HF : Hid (goodB l = true) := hid (by rw [HX.out, hg.out, List.drop_of_length_le (by omega)]; rfl)
      go_wp2
      go_ret
      exact ⟨ret_bool HF.out.symm, hb.out⟩
def nameP (nm : List Int) (v : TV) : Bool := decide (v.t.name = nm)
def findI (l : List TV) (nm : List Int) : Int := fnd (nameP nm) l 0
theorem fnd_ge {α : Type} (p : α → Bool) : ∀ (l : List α) (i : Nat), fnd p l i < 0 → fnd p l i = -1
  | [], i, _ => rfl
  | x :: r, i, h => by
    rw [fnd] at h ⊢
    split at h
    · omega
    · rename_i q
      rw [if_neg q]
      exact fnd_ge p r (i + 1) h
theorem findFn1 (x : TV) (w : World) (p : Nat) (nm : List Int) (hp : Blk w p 9 #[.string (strOfNums nm)]) (hx : TxA x.t.name) (hn : TxA nm) : Calls Tryd.prog 27 #[.agg #[.string (strOfNums x.t.name), .bool x.t.enum, x.f, x.o, x.s, x.r], .pointer (some ⟨p, 0, none⟩)] w fun e w' => e = .returned (.bool (nameP nm x)) ∧ Below w.heap.size w w' := by
  have xp := hp.cellF
  have zp := hp.lt
  have HS := hid (str_eq hx.1 hn.1)
  clear hp
  go_enter Tryd.func27, Tryd.ntmps27
  go_wp2
  go_ret
  exact ⟨ret_bool (by have := HS.out; unfold nameP; rw [← this]), by exact blBy⟩
theorem idxType (l : List TV) (w : World) (a : Option Addr) (c p : Nat) (P : TV → Bool) (h : RowS w AnyZ 6 (.slice a l.length c) l.length (l.flatMap cTV))
    (hc : ∀ x ∈ l, ∀ (W : World), Below w.heap.size w W → Calls Tryd.prog 27 #[.agg #[.string (strOfNums x.t.name), .bool x.t.enum, x.f, x.o, x.s, x.r], .pointer (some ⟨p, 0, none⟩)] W fun e w' => e = .returned (.bool (P x)) ∧ Below W.heap.size W w') : Calls Tryd.prog 26 #[.slice a l.length c, .func (.func 27) #[] #[.pointer (some ⟨p, 0, none⟩)]] w fun e w' => e = .returned (.int .i64 (fnd P l 0)) ∧ Below w.heap.size w w' := by
  obtain ⟨_, _, e, hn⟩ := rowS_sl h
  clear e
  have h1 : (l.length : Int) ≤ 9223372036854775807 := by omega
  have HR := hid h
  have HC := hid hc
  clear h hc
  go_enter Tryd.func26, Tryd.ntmps26
  go_wp2
  go_loopw [8] (fun r wr => ∃ j : Nat, r = .int .i64 j ∧ j ≤ l.length ∧ Hid (fnd P l 0 = fnd P (l.drop j) j) ∧ Hid (Below w.heap.size w wr)) (fun r wr => l.length - numAt wr r)
  case atStart => exact ⟨0, rfl, by omega, hid rfl, hid (Below.refl _ _)⟩
  case round =>
    obtain ⟨j, rfl, hj, hf, hb⟩ := hrel
    by_cases hlt : j < l.length
    · have h2 : (j : Int) < (l.length : Int) := by omega
      obtain ⟨b, o, rfl, hbl, c0, c1, c2, c3, c4, c5⟩ := row6 (HR.out.kept hb.out) hlt
      have HST := hid (fnd_at (p := P) hlt)
      have HCj := hid (HC.out _ (List.getElem_mem hlt))
      clear HC
      generalize l[j] = x at *
      go_wp2_with fail
      refine (HCj.out wr hb.out).mono ?_
      rintro e w1 ⟨rfl, hb1⟩
      have HB1 := hid (bl_then hb.out hb1)
      clear hb1
      cases hq : P x with
      | true =>
        go_wp2
        go_ret
        exact ⟨ret_int (by rw [hf.out, HST.out, hq]; simp), HB1.out⟩
      | false =>
        go_wp2
        exact ⟨⟨j + 1, by simp, by omega, hid (by rw [hf.out, HST.out, hq]; simp), HB1⟩, by simp [numAt]; omega⟩
    · have h2 : ¬ (j : Int) < (l.length : Int) := by omega
      have HE : Hid (fnd P l 0 = -1) := hid (by rw [hf.out, List.drop_of_length_le (by omega)]; rfl)
      go_wp2
      go_ret
      exact ⟨ret_int (by rw [HE.out]), hb.out⟩
/-- What the program's Find answers: an index, an error. -/
def findV (l : List TV) (nm : List Int) : Int × Int := if goodB l = true then (if 0 ≤ findI l nm then (findI l nm, 0) else (0, 20)) else (0, 18)
theorem findT (w : World) (l : List TV) (ta : Option Addr) (tc : Nat) (h : TbR w (.slice ta l.length tc) l) (hk : ∀ x ∈ l, OkV x) (m : Int) (hm : w.cell? ⟨0, 0, none⟩ = some (.int .i64 m)) (nm : List Int) (hn : TxA nm) : Calls Tryd.prog 8 #[.agg #[.slice ta l.length tc], .string (strOfNums nm)] w fun e w' => e = .returned (.tuple #[.int .i64 (findV l nm).1, .int .i64 (findV l nm).2]) ∧ Below w.heap.size w w' := by
  have HT := hid h
  have HK := hid hk
  have HM := hid hm
  have HN := hid hn
  clear h hk hm hn
  have HX : Hid (findV l nm = if goodB l = true then (if 0 ≤ findI l nm then (findI l nm, 0) else (0, 20)) else (0, 18)) := hid rfl
  go_enter Tryd.func8, Tryd.ntmps8
  go_wp2_with fail
  refine (goodT _ l ta tc (HT.out.kept (by exact blBy)) HK.out m (cell_below HM.out (by exact blBy))).mono ?_
  rintro e w1 ⟨rfl, hb1⟩
  have Ca : Blk w1 (w.heap.size) 24 #[.slice ta l.length tc] := Blk.kept (((Blk.newAt (by simp)).kept (below_alloc _)).is (by first | rfl | simp)) hb1
  have Cb : Blk w1 (w.heap.size + 1) 9 #[.string (strOfNums nm)] := Blk.kept ((Blk.newAt (by simp)).is (by first | rfl | simp)) hb1
  have xa := Ca.cellF
  have za := Ca.lt
  have xb := Cb.cellF
  have zb := Cb.lt
  have HB := hid Cb
  replace hb1 : Hid (Below w.heap.size w w1) := hid (bl_then (by exact blBy) hb1)
  clear Ca Cb
  cases q : goodB l with
  | false =>
    have HV : Hid (findV l nm = (0, 18)) := hid (by rw [HX.out, q]; rfl)
    go_wp2
    go_ret2
    exact ⟨by rw [HV.out]; rfl, by have := hb1.out; exact blBy⟩
  | true =>
  go_wp2_with fail
  refine (idxType l _ ta tc (w.heap.size + 1) (nameP nm) (HT.out.row.kept (by have := hb1.out; exact blBy)) (fun x hx W hW => findFn1 x W _ nm (HB.out.kept hW) (HK.out x hx).ok.nm HN.out)).mono ?_
  rintro e w2 ⟨rfl, hb2⟩
  replace hb2 : Hid (Below w.heap.size w w2) := hid (bl_then hb1.out hb2)
  have HI : Hid (findI l nm = fnd (nameP nm) l 0) := hid rfl
  generalize fnd (nameP nm) l 0 = k at *
  by_cases hk : k < 0
  · have HV : Hid (findV l nm = (0, 20)) := hid (by rw [HX.out, q, HI.out, if_pos rfl, if_neg (by omega)])
    go_wp2
    go_ret2
    exact ⟨by rw [HV.out]; rfl, by have := hb2.out; exact blBy⟩
  · have HV : Hid (findV l nm = (k, 0)) := hid (by rw [HX.out, q, HI.out, if_pos rfl, if_pos (by omega)])
    go_wp2
    go_ret2
    exact ⟨by rw [HV.out]; rfl, by have := hb2.out; exact blBy⟩
theorem rowOf {w : World} {b : Nat} {t : TypeId} {cs : Array Value} (B : Blk w b t cs) (k n : Nat) (fl : List Value) (h : cs = fl.toArray) (hl : fl.length = n * k) (hn : n ≤ 9223372036854775807) : RowS w AnyZ k (.slice (some ⟨b, 0, none⟩) n n) n fl :=
  ⟨some ⟨b, 0, none⟩, n, rfl, hl, Nat.le_refl _, hn, .inr ⟨b, 0, rfl, trivial, fun j u hu => by
    rw [Nat.zero_add]
    exact B.cell j u (by rw [h, List.getElem?_toArray]; exact hu)⟩⟩
def simE (h : Nat) : TV := ⟨⟨[69], true, [], [], [⟨[65], 0⟩], []⟩, .slice none 0 0, .slice none 0 0, .slice (some ⟨h + 1, 0, none⟩) 1 1, .slice none 0 0⟩
def simF : List FT := [⟨[120], 1, 2, 0, 0, 0, 0⟩, ⟨[108], 2, 4, 0, 3, 0, 0⟩, ⟨[109], 3, 17, 1, 1, 0, 0⟩]
def simM (h : Nat) : TV := ⟨⟨[77], false, simF, [], [], []⟩, .slice (some ⟨h + 1 + 1, 0, none⟩) 3 3, .slice none 0 0, .slice none 0 0, .slice none 0 0⟩
def simL (h : Nat) : List TV := [simE h, simM h]
theorem simpleW (w : World) : Calls Tryd.prog 7 #[] w fun e w' => e = .returned (.agg #[.slice (some ⟨w.heap.size + 1 + 1 + 1, 0, none⟩) (simL w.heap.size).length 2]) ∧ TbR w' (.slice (some ⟨w.heap.size + 1 + 1 + 1, 0, none⟩) (simL w.heap.size).length 2) (simL w.heap.size) ∧ Below w.heap.size w w' := by
  have HT : Hid (∀ W : World, Blk W (w.heap.size + 1) 56 #[.string ⟨#[65]⟩, .int .i64 0] → Blk W (w.heap.size + 1 + 1) 39 #[.string ⟨#[120]⟩, .int .i64 1, .int .i64 2, .int .i64 0, .int .i64 0, .int .i64 0, .int .i64 0, .string ⟨#[108]⟩, .int .i64 2, .int .i64 4, .int .i64 0, .int .i64 3, .int .i64 0, .int .i64 0, .string ⟨#[109]⟩, .int .i64 3, .int .i64 17, .int .i64 1, .int .i64 1, .int .i64 0, .int .i64 0] → Blk W (w.heap.size + 1 + 1 + 1) 62 #[.string ⟨#[69]⟩, .bool true, .slice none 0 0, .slice none 0 0, .slice (some ⟨w.heap.size + 1, 0, none⟩) 1 1, .slice none 0 0, .string ⟨#[77]⟩, .bool false, .slice (some ⟨w.heap.size + 1 + 1, 0, none⟩) 3 3, .slice none 0 0, .slice none 0 0, .slice none 0 0] → TbR W (.slice (some ⟨w.heap.size + 1 + 1 + 1, 0, none⟩) (simL w.heap.size).length 2) (simL w.heap.size)) := hid fun W B1 B2 B3 => by
    refine ⟨rowOf B3 6 2 _ rfl rfl (by decide), fun x hx => ?_⟩
    rcases List.mem_cons.1 hx with rfl | hx
    · exact ⟨rowS_nil _ _ _, rowS_nil _ _ _, rowOf B1 2 1 _ rfl rfl (by decide), rowS_nil _ _ _⟩
    · rcases List.mem_cons.1 hx with rfl | hx
      · exact ⟨rowOf B2 7 3 _ rfl rfl (by decide), rowS_nil _ _ _, rowS_nil _ _ _, rowS_nil _ _ _⟩
      · cases hx
  go_enter Tryd.func7, Tryd.ntmps7
  go_wp2
  refine bodyPost_ret (v := .agg #[.slice (some ⟨w.heap.size + 1 + 1 + 1, 0, none⟩) 2 2]) (by simp [results, Tryd.results7, go_sem]) rfl ⟨rfl, HT.out _ ?_ ?_ ?_, by exact blBy⟩
  · exact ((Blk.newAt (by simp)).kept (below_alloc _)).kept (below_alloc _)
  · exact (Blk.newAt (by simp)).kept (below_alloc _)
  · exact Blk.newAt (by simp)
theorem simGood (h : Nat) : goodB (simL h) = true := by kernel_rfl
theorem simFind (h : Nat) : findV (simL h) [77] = (1, 0) := by kernel_rfl
theorem simOk (h : Nat) : ∀ x ∈ simL h, OkV x := by
  have tx : ∀ n : List Int, n ∈ ([[69], [77], [65], [120], [108], [109]] : List (List Int)) → TxA n := by
    intro n hn
    simp only [List.mem_cons, List.not_mem_nil, or_false] at hn
    rcases hn with rfl | rfl | rfl | rfl | rfl | rfl <;> exact ⟨by decide, by decide⟩
  intro x hx
  rcases List.mem_cons.1 hx with rfl | hx
  · refine ⟨⟨tx _ (by simp [simE]), by simp [simE], by simp [simE], fun s hs => ?_⟩, by simp [simE], by simp [simE]⟩
    simp [simE] at hs
    subst hs
    exact ⟨tx _ (by simp), by unfold I64; decide⟩
  · rcases List.mem_cons.1 hx with rfl | hx
    · refine ⟨⟨tx _ (by simp [simM]), fun f hf => ?_, by simp [simM], by simp [simM]⟩, by simp [simM], by simp [simM, simF]⟩
      simp [simM, simF] at hf
      rcases hf with rfl | rfl | rfl <;> exact tx _ (by simp)
    · cases hx
theorem typeAtOk (w : World) (l : List TV) (ta : Option Addr) (tc : Nat) (h : TbR w (.slice ta l.length tc) l) (hk : ∀ x ∈ l, OkV x) (m : Int) (hm : w.cell? ⟨0, 0, none⟩ = some (.int .i64 m)) (k : Nat) (hkl : k < l.length) (hg : goodB l = true) (he : l[k].t.enum = false) : Calls Tryd.prog 31 #[.agg #[.slice ta l.length tc], .int .i64 (k : Int), .bool false] w fun e w' => e = .returned (.tuple #[.agg #[.string (strOfNums l[k].t.name), .bool false, l[k].f, l[k].o, l[k].s, l[k].r], .int .i64 0]) ∧ Below w.heap.size w w' := by
  obtain ⟨_, _, e, hn⟩ := rowS_sl h.row
  clear e
  have h63 : (l.length : Int) ≤ 9223372036854775807 := by omega
  have HTY := hid (h.ty _ (List.getElem_mem hkl))
  have HGC : Hid (∀ W, Below w.heap.size w W → Calls Tryd.prog 10 #[.agg #[.slice ta l.length tc]] W fun e w' => e = .returned (.bool true) ∧ Below W.heap.size W w') := hid fun W hW => by
    have := goodT W l ta tc (h.kept hW) hk m (cell_below hm hW)
    rw [hg] at this
    exact this
  obtain ⟨tb, tof, rfl, hbl, c0, c1, c2, c3, c4, c5⟩ := row6 h.row hkl
  rw [he] at c1
  have r2 : ((k : Int) < 0) = False := eq_false (by omega)
  have r4 : ((l.length : Int) ≤ (k : Int)) = False := eq_false (by omega)
  have r5 : (k : Int) < (l.length : Int) := by omega
  clear h hk hm hg he
  generalize l[k] = x at *
  obtain ⟨t, f, o, s, r⟩ := x
  obtain ⟨fa, fc, ef, -⟩ := rowS_sl HTY.out.f
  obtain ⟨oa, oc, eo, -⟩ := rowS_sl HTY.out.o
  obtain ⟨sa, sc, es, -⟩ := rowS_sl HTY.out.s
  obtain ⟨ra, rc, er, -⟩ := rowS_sl HTY.out.r
  dsimp only at ef eo es er
  subst ef eo es er
  dsimp only at c0 c1 c2 c3 c4 c5
  dsimp only
  go_enter Tryd.func31, Tryd.ntmps31
  go_wp2_with fail
  refine (HGC.out _ (by exact blBy)).mono ?_
  rintro e w1 ⟨rfl, hb1⟩
  have Ba : Blk w1 w.heap.size 24 #[.slice (some ⟨tb, tof, none⟩) l.length tc] := ((Blk.new _ _ _).kept (below_alloc _)).kept hb1
  have Br : Blk w1 (w.heap.size + 1) 62 #[.string ⟨#[]⟩, .bool false, .slice none 0 0, .slice none 0 0, .slice none 0 0, .slice none 0 0] := (Blk.newAt (by simp)).kept hb1
  replace hb1 : Hid (Below w.heap.size w w1) := hid (bl_then (by exact blBy) hb1)
  have d0 := cell_below c0 hb1.out
  have d1 := cell_below c1 hb1.out
  have d2 := cell_below c2 hb1.out
  have d3 := cell_below c3 hb1.out
  have d4 := cell_below c4 hb1.out
  have d5 := cell_below c5 hb1.out
  have hbl1 : tb < w1.heap.size := World.block_lt_of_cell? _ _ d0
  have hne : tb ≠ w.heap.size + 1 := by omega
  clear c0 c1 c2 c3 c4 c5
  have xa := Ba.cellF
  have za := Ba.lt
  have xr := Br.cellF
  have yr := Br.frz
  have zr := Br.lt
  go_wp2
  exact bodyPost_ret (v := .tuple #[.agg #[.string (strOfNums t.name), .bool false, .slice fa t.fs.length fc, .slice oa t.os.length oc, .slice sa t.ss.length sc, .slice ra t.rs.length rc], .int .i64 0]) (by simp [results, Tryd.results31, go_sem, xr, zr, yr]) rfl ⟨rfl, by have := hb1.out; exact blBy⟩
/-- What Find answers, where a field has that number. -/
theorem fieldOfOk (fs : List FT) (n : Int) (w : World) (a : Option Addr) (c : Nat) (h : RowS w AnyZ 7 (.slice a fs.length c) fs.length (fs.flatMap cFT)) (hr : Rise fs) (hl : fs.length ≤ 128) (k : Nat) (hk : k < fs.length) (hn : fs[k].num = n) : Calls Tryd.prog 32 #[.slice a fs.length c, .int .i64 n] w fun e w' => e = .returned (.tuple #[.agg #[.string (strOfNums fs[k].name), .int .i64 fs[k].num, .int .i64 fs[k].kind, .int .i64 fs[k].ref, .int .i64 fs[k].lab, .int .i64 fs[k].one, .int .i64 fs[k].key], .bool true]) ∧ Below w.heap.size w w' := by
  have HL : Hid (∀ W, Below w.heap.size w W → Calls Tryd.prog 52 #[.slice a fs.length c, .int .i64 n] W fun e w' => e = .returned (.tuple #[.agg #[.string (strOfNums fs[k].name), .int .i64 fs[k].num, .int .i64 fs[k].kind, .int .i64 fs[k].ref, .int .i64 fs[k].lab, .int .i64 fs[k].one, .int .i64 fs[k].key], .bool true]) ∧ Below W.heap.size W w') := hid fun W hW => ((lastUpToT fs n W a c (h.kept hW) hr hl).mono fun e w' hq => by
    rcases hq with ⟨⟨_, h1⟩ | ⟨j, hj, e1, h1, h2⟩, hb⟩
    · have := h1 k hk; omega
    · have ej : j = k := by
        rcases Nat.lt_trichotomy j k with q | q | q
        · have := h2 k q hk; omega
        · exact q
        · have := hr k j q hj hk; omega
      subst ej
      exact ⟨e1, hb⟩)
  clear h hr
  subst hn
  generalize fs[k] = f at *
  have kq : (f.num == f.num) = true := by simp
  go_enter Tryd.func32, Tryd.ntmps32
  go_wp2_with fail
  refine (HL.out _ (by exact blBy)).mono ?_
  rintro e w1 ⟨rfl, hb1⟩
  have Br : Blk w1 w.heap.size 39 #[.string ⟨#[]⟩, .int .i64 0, .int .i64 0, .int .i64 0, .int .i64 0, .int .i64 0, .int .i64 0] := (Blk.new _ _ _).kept hb1
  replace hb1 : Hid (Below w.heap.size w w1) := hid (bl_then (by exact blBy) hb1)
  have xr := Br.cellF
  have yr := Br.frz
  have zr := Br.lt
  go_wp2
  exact bodyPost_ret (v := .tuple #[.agg #[.string (strOfNums f.name), .int .i64 f.num, .int .i64 f.kind, .int .i64 f.ref, .int .i64 f.lab, .int .i64 f.one, .int .i64 f.key], .bool true]) (by simp [results, Tryd.results32, go_sem, xr, zr, yr]) rfl ⟨rfl, by have := hb1.out; exact blBy⟩
/-- In which wire kind a field's values stand, whatever the field. -/
theorem valueWireG (f : FT) (w : World) : Calls Tryd.prog 82 #[.agg #[.string (strOfNums f.name), .int .i64 f.num, .int .i64 f.kind, .int .i64 f.ref, .int .i64 f.lab, .int .i64 f.one, .int .i64 f.key]] w fun e w' => e = .returned (.tuple #[.int .i64 (if f.lab = 5 then 2 else max (kwire f.kind) 0), .int .i64 (if f.lab = 5 then 0 else kwireE f.kind)]) ∧ Below w.heap.size w w' := by
  have HK := hid (wireKW f.kind)
  by_cases h5 : f.lab = 5
  · rw [if_pos h5, if_pos h5]
    have k5 : (f.lab == 5) = true := by simpa using h5
    clear h5
    go_enter Tryd.func82, Tryd.ntmps82
    go_wp2
    go_ret2
    exact ⟨rfl, by exact blBy⟩
  · rw [if_neg h5, if_neg h5]
    have k5 : (f.lab == 5) = false := by simpa using h5
    clear h5
    generalize max (kwire f.kind) 0 = kw at *
    generalize kwireE f.kind = ke at *
    go_enter Tryd.func82, Tryd.ntmps82
    go_wp2_with (first | (go_at_call 103; refine (HK.out _).mono ?_; rintro e w1 ⟨rfl, rfl⟩))
    go_ret2
    exact ⟨rfl, by exact blBy⟩
theorem takesValue4 (w : World) : Calls Tryd.prog 53 #[.agg #[.string (strOfNums [108]), .int .i64 2, .int .i64 4, .int .i64 0, .int .i64 3, .int .i64 0, .int .i64 0], .int .i64 2] w fun e w' => e = .returned (.bool false) ∧ Below w.heap.size w w' := by
  have HV := hid fun W => valueWireG ⟨[108], 2, 4, 0, 3, 0, 0⟩ W
  go_enter Tryd.func53, Tryd.ntmps53
  go_wp2_with fail
  refine (HV.out _).mono ?_
  rintro e w1 ⟨rfl, hb1⟩
  have HB : Hid (Below w.heap.size w w1) := hid (bl_then (by exact blBy) hb1)
  clear hb1
  go_wp2
  go_ret
  exact ⟨rfl, HB.out⟩
theorem takesRow4 (w : World) : Calls Tryd.prog 54 #[.agg #[.string (strOfNums [108]), .int .i64 2, .int .i64 4, .int .i64 0, .int .i64 3, .int .i64 0, .int .i64 0], .int .i64 2] w fun e w' => e = .returned (.bool true) ∧ Below w.heap.size w w' := by
  have HK := hid (numericW 4)
  go_enter Tryd.func54, Tryd.ntmps54
  go_wp2_with (first | (go_at_call 83; refine (HK.out _).mono ?_; rintro e w1 ⟨rfl, rfl⟩))
  go_ret
  exact ⟨rfl, by exact blBy⟩
theorem takenAs4 (w : World) : Calls Tryd.prog 33 #[.agg #[.string (strOfNums [108]), .int .i64 2, .int .i64 4, .int .i64 0, .int .i64 3, .int .i64 0, .int .i64 0], .int .i64 2] w fun e w' => e = .returned (.int .i64 2) ∧ Below w.heap.size w w' := by
  go_enter Tryd.func33, Tryd.ntmps33
  go_wp2_with fail
  refine (takesValue4 _).mono ?_
  rintro e w1 ⟨rfl, hb1⟩
  have Bf : Blk w1 w.heap.size 39 #[.string (strOfNums [108]), .int .i64 2, .int .i64 4, .int .i64 0, .int .i64 3, .int .i64 0, .int .i64 0] := (Blk.new _ _ _).kept hb1
  replace hb1 : Hid (Below w.heap.size w w1) := hid (bl_then (by exact blBy) hb1)
  have xf := Bf.cellF
  have zf := Bf.lt
  go_wp2_with fail
  refine (takesRow4 _).mono ?_
  rintro e w2 ⟨rfl, hb2⟩
  replace hb2 : Hid (Below w.heap.size w w2) := hid (bl_then (by have := hb1.out; exact blBy) hb2)
  go_wp2
  go_ret
  exact ⟨rfl, hb2.out⟩
theorem simRise : Rise simF := by
  intro i j hij hj hi
  have hj' : j < 3 := hj
  have e : (i = 0 ∧ j = 1) ∨ (i = 0 ∧ j = 2) ∨ (i = 1 ∧ j = 2) := by omega
  rcases e with ⟨rfl, rfl⟩ | ⟨rfl, rfl⟩ | ⟨rfl, rfl⟩
  · show (1 : Int) < 2; decide
  · show (1 : Int) < 3; decide
  · show (2 : Int) < 3; decide
/-- Takes at the examples' table. -/
theorem takesSim (w : World) (h : Nat) (ta : Option Addr) (tc : Nat) (ht : TbR w (.slice ta (simL h).length tc) (simL h)) (m : Int) (hm : w.cell? ⟨0, 0, none⟩ = some (.int .i64 m)) : Calls Tryd.prog 11 #[.agg #[.slice ta (simL h).length tc], .int .i64 1, .int .i64 2, .int .i64 2] w fun e w' => e = .returned (.tuple #[.int .i64 2, .int .i64 0]) ∧ Below w.heap.size w w' := by
  have HTA : Hid (∀ W, Below w.heap.size w W → Calls Tryd.prog 31 #[.agg #[.slice ta (simL h).length tc], .int .i64 1, .bool false] W fun e w' => e = .returned (.tuple #[.agg #[.string (strOfNums [77]), .bool false, .slice (some ⟨h + 1 + 1, 0, none⟩) 3 3, .slice none 0 0, .slice none 0 0, .slice none 0 0], .int .i64 0]) ∧ Below W.heap.size W w') := hid fun W hW => typeAtOk W (simL h) ta tc (ht.kept hW) (simOk h) m (cell_below hm hW) 1 (show 1 < (simL h).length from (by decide : 1 < 2)) (simGood h) rfl
  have HRF : Hid (∀ W, Below w.heap.size w W → RowS W AnyZ 7 (.slice (some ⟨h + 1 + 1, 0, none⟩) simF.length 3) simF.length (simF.flatMap cFT)) := hid fun W hW => ((ht.ty (simM h) (by simp [simL])).kept hW).f
  have HFO : Hid (∀ W, Below w.heap.size w W → Calls Tryd.prog 32 #[.slice (some ⟨h + 1 + 1, 0, none⟩) 3 3, .int .i64 2] W fun e w' => e = .returned (.tuple #[.agg #[.string (strOfNums [108]), .int .i64 2, .int .i64 4, .int .i64 0, .int .i64 3, .int .i64 0, .int .i64 0], .bool true]) ∧ Below W.heap.size W w') := hid fun W hW => fieldOfOk simF 2 W _ 3 (HRF.out W hW) simRise (by decide) 1 (by decide) rfl
  clear ht hm HRF
  generalize (simL h).length = sl at *
  go_enter Tryd.func11, Tryd.ntmps11
  go_wp2_with fail
  refine (HTA.out _ (by exact blBy)).mono ?_
  rintro e w1 ⟨rfl, hb1⟩
  replace hb1 : Hid (Below w.heap.size w w1) := hid (bl_then (by exact blBy) hb1)
  go_wp2_with fail
  refine (HFO.out _ (by have := hb1.out; exact blBy)).mono ?_
  rintro e w2 ⟨rfl, hb2⟩
  replace hb2 : Hid (Below w.heap.size w w2) := hid (bl_then (by have := hb1.out; exact blBy) hb2)
  go_wp2_with fail
  refine (takenAs4 _).mono ?_
  rintro e w3 ⟨rfl, hb3⟩
  replace hb3 : Hid (Below w.heap.size w w3) := hid (bl_then (by have := hb2.out; exact blBy) hb3)
  go_wp2
  go_ret2
  exact ⟨rfl, hb3.out⟩
theorem cutI_none : ∀ (l : List Int), (∀ c ∈ l, c ≠ 46) → cutI l = [l]
  | [], _ => rfl
  | c :: r, h => by
    rw [cutI, if_neg (h c (by simp)), cutI_none r (fun c hc => h c (by simp [hc]))]
    rfl
theorem cutI_at : ∀ (a b : List Int), (∀ c ∈ a, c ≠ 46) → cutI (a ++ 46 :: b) = a :: cutI b
  | [], b, _ => by simp [cutI]
  | c :: r, b, h => by
    rw [List.cons_append, cutI, if_neg (h c (by simp)), cutI_at r b (fun c hc => h c (by simp [hc]))]
    rfl
/-- While it is cut: P stands, from fr on there is no dot up to i. -/
structure Cut (xs : List Int) (P : List (List Int)) (fr i : Nat) : Prop where
  is : cutI xs = P ++ cutI (xs.drop fr)
  le : fr ≤ i
  no : ∀ c ∈ (xs.take i).drop fr, c ≠ 46
  few : P.length ≤ i
theorem Cut.start (xs : List Int) : Cut xs [] 0 0 := ⟨by simp, by omega, by simp, by simp⟩
theorem Cut.step {xs : List Int} {P : List (List Int)} {fr i : Nat} (h : Cut xs P fr i) (hi : i < xs.length) (hx : xs[i] ≠ 46) : Cut xs P fr (i + 1) := by
  refine ⟨h.is, by have := h.le; omega, fun c hc => ?_, by have := h.few; omega⟩
  rw [List.take_succ_eq_append_getElem hi, List.drop_append_of_le_length (by simp; have := h.le; omega)] at hc
  rcases List.mem_append.1 hc with q | q
  · exact h.no c q
  · simp at q; subst q; exact hx
theorem Cut.dot {xs : List Int} {P : List (List Int)} {fr i : Nat} (h : Cut xs P fr i) (hi : i < xs.length) (hx : xs[i] = 46) : Cut xs (P ++ [(xs.take i).drop fr]) (i + 1) (i + 1) := by
  refine ⟨?_, by omega, by simp, by have := h.few; simp; omega⟩
  have e : xs.drop fr = (xs.take i).drop fr ++ 46 :: xs.drop (i + 1) := by
    have e1 : xs = xs.take i ++ 46 :: xs.drop (i + 1) := by rw [← hx, List.getElem_cons_drop, List.take_append_drop]
    conv => lhs; rw [e1]
    rw [List.drop_append_of_le_length (by simp; have := h.le; omega)]
  rw [h.is, e, cutI_at _ _ h.no, List.append_assoc]
  rfl
theorem Cut.fin {xs : List Int} {P : List (List Int)} {fr : Nat} (h : Cut xs P fr xs.length) : P ++ [(xs.take xs.length).drop fr] = cutI xs := by
  rw [h.is, List.take_length, cutI_none]
  have := h.no
  rw [List.take_length] at this
  exact this
theorem partsR (xs : List Int) (w : World) (hb : ∀ c ∈ xs, 0 ≤ c ∧ c ≤ 255) (hl : xs.length < 4000000) : Calls Tryd.prog 57 #[.string (strOfNums xs)] w fun e w' => (∃ a c, e = .returned (.slice a (cutI xs).length c) ∧ Hid (RowS w' AnyZ 1 (.slice a (cutI xs).length c) (cutI xs).length ((cutI xs).flatMap cN))) ∧ Below w.heap.size w w' := by
  have HB := hid hb
  have HSZ : (strOfNums xs).size = xs.length := strOfNums_size xs
  have h63 : (xs.length : Int) ≤ 9223372036854775807 := by omega
  clear hb
  go_enter Tryd.func57, Tryd.ntmps57
  go_wp2
  go_loopw [3, 4, 5] (fun v f r wr => ∃ (i fr : Nat) (P : List (List Int)) (va : Option Addr) (vc : Nat), v = .slice va P.length vc ∧ f = .int .i64 fr ∧ r = .int .i64 i ∧ i ≤ xs.length + 1 ∧ Hid ((i ≤ xs.length ∧ Cut xs P fr i) ∨ (i = xs.length + 1 ∧ P = cutI xs)) ∧ Hid (wr.ownsRow w.heap.size 9 1 (.slice va P.length vc) P.length (P.flatMap cN)) ∧ Hid (Below w.heap.size w wr)) (fun _ _ r wr => xs.length + 1 - numAt wr r)
  case atStart => exact ⟨0, 0, [], none, 0, rfl, rfl, rfl, by omega, hid (.inl ⟨by omega, Cut.start xs⟩), hid (World.ownsRow_nil _ _ _ _), hid (Below.refl _ _)⟩
  case round =>
    obtain ⟨i, fr, P, va, vc, rfl, rfl, rfl, hi, HC, HV, hb⟩ := hrel
    rcases HC.out with ⟨hil, hc⟩ | ⟨he, hp⟩
    case inr =>
      subst hp
      have h2 : ¬ (i : Int) ≤ (xs.length : Int) := by omega
      have h3 : ((i : Int) ≤ (xs.length : Int)) = False := eq_false h2
      clear he HC
      go_wp2
      go_ret
      exact ⟨⟨va, vc, rfl, hid (own_row HV.out (fun _ _ => trivial))⟩, hb.out⟩
    have h2 : (i : Int) ≤ (xs.length : Int) := by omega
    have hfr : fr ≤ i := hc.le
    have hfew : P.length ≤ i := hc.few
    have hfr2 : (fr : Int) ≤ (i : Int) := by omega
    have HS : Hid ((strOfNums xs).extract fr i = strOfNums ((xs.take i).drop fr)) := hid (str_cut xs fr i)
    obtain ⟨la, lc, x1, HRUN, HV1, HG1⟩ := appendSt w.heap.size (.slice va P.length vc) P ((xs.take i).drop fr) wr HV.out hb.out.size (by omega)
    rw [← HS.out] at HRUN
    have hb1 : Hid (Below w.heap.size w x1) := hid (hb.out.trans (grow_bel HG1.out HV.out (Nat.le_refl _) hb.out.size))
    have HL : Hid ((P ++ [(xs.take i).drop fr]).length = P.length + 1) := hid (by simp)
    have HC1 := hid hc
    clear hc HC HG1 HS
    by_cases hlt : i < xs.length
    case neg =>
      have ei : i = xs.length := by omega
      have k1 : ((i : Int) == (xs.length : Int)) = true := by simp [ei]
      have HE : Hid (P ++ [(xs.take i).drop fr] = cutI xs) := hid (by subst ei; exact HC1.out.fin)
      have hi2 : i + 1 = xs.length + 1 := by omega
      replace hi2 := hid hi2
      clear hlt ei
      go_wp2_with (first | (at_builtin; refine wpList_append_ran rfl _ _ 59 59 rfl rfl _ _ (.slice la (P.length + 1) lc) x1 rfl rfl HRUN.out ?_))
      exact ⟨⟨i + 1, i + 1, P ++ [(xs.take i).drop fr], la, lc, by rw [HL.out], by simp, by simp, by omega, hid (.inr ⟨hi2.out, HE.out⟩), hid (by have := HV1.out; rw [← HL.out] at this; exact this), hb1⟩, by simp [numAt]; omega⟩
    have hlt2 : (i : Int) < (xs.length : Int) := by omega
    have k1 : ((i : Int) == (xs.length : Int)) = false := by rw [beq_eq_false_iff_ne]; omega
    have hix := index_str HB.out i hlt .i64
    have e1 : xs[i]?.getD 0 = xs[i] := by simp [hlt]
    rw [e1] at hix
    by_cases hd : xs[i] = 46
    · have HN := hid (HC1.out.dot hlt hd)
      rw [hd] at hix
      clear e1 hd
      go_wp2_with (first | (at_builtin; refine wpList_append_ran rfl _ _ 59 59 rfl rfl _ _ (.slice la (P.length + 1) lc) x1 rfl rfl HRUN.out ?_))
      exact ⟨⟨i + 1, i + 1, P ++ [(xs.take i).drop fr], la, lc, by rw [HL.out], by simp, by simp, by omega, hid (.inl ⟨by omega, HN.out⟩), hid (by have := HV1.out; rw [← HL.out] at this; exact this), hb1⟩, by simp [numAt]; omega⟩
    · have HN := hid (HC1.out.step hlt hd)
      have k2 : (xs[i] == 46) = false := by simpa using hd
      clear e1 hd HRUN
      generalize xs[i] = d at hix k2
      go_wp2
      exact ⟨⟨i + 1, fr, P, va, vc, rfl, rfl, by simp, by omega, hid (.inl ⟨by omega, HN.out⟩), HV, hb⟩, by simp [numAt]; omega⟩
end Go.Proofs.YtbiohlfcikdldaaDoor
