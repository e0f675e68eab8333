/-
  What is around a type.
  A table is good: what the program answers.
  A type by its name: both answers.
  The table of the examples.
  A type at its index, where it is a message of a good table.
  A type at its index, where there is none of that sort.
  A field by its number: where there is none; a field in memory of its own.
  A field by its number: what the program answers.
  What a field takes an entry as: what the program answers.
  Takes, Named: what the program answers.
  Messages: what they hold, and how they lie in memory.
  Equal: what the program answers.
-/
import Derived.Test.YtmiemocdjkeefaaGreatDoorCTP
import Derived.Test.YtmiemocdjkeefaaGreatDoorCTI
namespace Go.Proofs.YtmiemocdjkeefaaGreatDoor
open Go.RowKit
set_option maxRecDepth 1000000
set_option linter.unusedVariables false
set_option linter.unusedSimpArgs false
set_option maxHeartbeats 1000000
def lastD (x : List Int) : Int := Lib.lastIndexByte (strOfNums x) 46
theorem lastD_is (x : List Int) : lastD x = -1 ∨ ∃ i : Nat, lastD x = i ∧ i < x.length := by
  rcases Lib.lastIndexByte_spec (strOfNums x) 46 with ⟨e, _⟩ | ⟨i, hi, e, _⟩
  · exact .inl e
  · exact .inr ⟨i, e, by rw [strOfNums_size] at hi; exact hi⟩
theorem lastT (x : List Int) (w : World) (h : x.length < 4611686018427387904) : Calls Tryz.prog 98 #[.string (strOfNums x), .string dotS] w fun e w' => e = .returned (.int .i64 (lastD x)) ∧ w = w' := by
  refine (Tryz.strings_LastIndex_one (strOfNums x) dotS rfl (by rw [strOfNums_size]; exact h) w).mono ?_
  rintro e w' ⟨rfl, rfl⟩
  exact ⟨rfl, rfl⟩
def standB (l : List TV) (i : Nat) (x : List Int) : Bool := if lastD x < 0 then true else match (l.take i).find? (fun v => v.t.name == x.take (lastD x).toNat) with
  | none => false
  | some v => !v.t.enum
theorem standsRightT (w : World) (l : List TV) (ta : Option Addr) (tc : Nat) (b i : Nat) (x : List Int) (h : TbR w (.slice ta l.length tc) l) (hk : Kn w b l i) (hx : TxA x) (hl : x.length < 4294967281) : Calls Tryz.prog 70 #[.agg #[.slice ta l.length tc], .map (some b), .string (strOfNums x)] w fun e w' => e = .returned (.bool (standB l i x)) ∧ Below w.heap.size w w' := by
  have HX : Hid (standB l i x = if lastD x < 0 then true else match (l.take i).find? (fun v => v.t.name == x.take (lastD x).toNat) with
  | none => false
  | some v => !v.t.enum) := hid rfl
  have HC : Hid (∀ W, Calls Tryz.prog 98 #[.string (strOfNums x), .string dotS] W fun e w' => e = .returned (.int .i64 (lastD x)) ∧ W = w') := hid fun W => lastT x W (by omega)
  obtain ⟨_, _, e, hn⟩ := rowS_sl h.row
  clear e
  have h1 : (l.length : Int) ≤ 9223372036854775807 := by omega
  have HT := hid h
  have HK := hid hk
  rcases lastD_is x with e | ⟨k, e, hkx⟩
  · rw [e] at HX HC
    replace HX := hid (show standB l i x = true by rw [HX.out]; rfl)
    clear h hk hx
    go_enter Tryz.func70, Tryz.ntmps70
    go_wp2_with (first | (go_at_call 98; refine (HC.out _).mono ?_; rintro e w1 ⟨rfl, rfl⟩))
    go_ret
    exact ⟨ret_bool HX.out.symm, by exact blBy⟩
  rw [e] at HX HC
  have hy : TxA (x.take k) := ⟨fun c hc => hx.1 c (List.mem_of_mem_take hc), by have := hx.2; simp; omega⟩
  have HS : Hid ((strOfNums x).extract 0 k = strOfNums (x.take k)) := hid (by rw [str_cut]; rfl)
  have HSZ : (strOfNums x).size = x.length := strOfNums_size x
  replace HX := hid (show standB l i x = match (l.take i).find? (fun v => v.t.name == x.take k) with
  | none => false
  | some v => !v.t.enum by rw [HX.out, if_neg (by omega)]; rfl)
  have k0 : ¬ (k : Int) < 0 := by omega
  have hkx' : (k : Int) < (x.length : Int) := by omega
  obtain ⟨c, hr, hc⟩ := (HK.out.kept (below_alloc (w := w) (.cells #[.slice ta l.length tc] 24))).look hy
  rw [← HS.out] at hr
  cases hf : (l.take i).find? (fun v => v.t.name == x.take k) with
  | none =>
    have hno : named (l.take i) (x.take k) = false := by
      unfold named
      rw [List.any_eq_false]
      intro v hv
      exact List.find?_eq_none.1 hf v hv
    replace HX := hid (show standB l i x = false by rw [HX.out, hf])
    rw [hno] at hr
    clear h hk hx hno hf hc
    go_enter Tryz.func70, Tryz.ntmps70
    go_wp2_with (first | (go_at_call 98; refine (HC.out _).mono ?_; rintro e w1 ⟨rfl, rfl⟩))
    go_ret
    exact ⟨ret_bool HX.out.symm, by exact blBy⟩
  | some v =>
    have hyes : named (l.take i) (x.take k) = true := by
      unfold named
      rw [List.any_eq_true]
      exact ⟨v, List.mem_of_find?_eq_some hf, by simpa using List.find?_some hf⟩
    obtain ⟨j, hj, ej⟩ := List.mem_take_iff_getElem.1 (List.mem_of_find?_eq_some hf)
    have hjl : j < l.length := by omega
    have hcj : c = (j : Int) := hc j hjl (by omega) (by rw [ej]; simpa using List.find?_some hf)
    subst hcj
    replace HX := hid (show standB l i x = !l[j].t.enum by rw [HX.out, hf, ej])
    rw [hyes] at hr
    have hjl' : (j : Int) < (l.length : Int) := by omega
    obtain ⟨tb, tof, rfl, hbl, -, c1, -⟩ := row6 HT.out.row hjl
    clear h hk hx hyes hf hc ej
    generalize l[j].t.enum = en at *
    go_enter Tryz.func70, Tryz.ntmps70
    go_wp2_with (first | (go_at_call 98; refine (HC.out _).mono ?_; rintro e w1 ⟨rfl, rfl⟩))
    go_ret
    exact ⟨ret_bool HX.out.symm, by exact blBy⟩
/-- What is asked of a table: that its texts and numbers can be. -/
structure OkV (x : TV) : Prop where
  ok : OkT x.t
  nl : x.t.name.length < 4294967281
  sz : x.t.fs.length + x.t.os.length + x.t.rs.length ≤ 9223372036854775807
def stepB (l : List TV) (j : Nat) (t : TT) : Bool := !named (l.take j) t.name && (fullB t && (standB l j t.name && typB l t))
def goodA (l : List TV) : List TV → Nat → Bool
  | [], _ => true
  | x :: r, j => stepB l j x.t && goodA l r (j + 1)
def goodB (l : List TV) : Bool := decide (l.length ≤ 128) && goodA l l 0
theorem run_makeMap0 {P : Program} (t : TypeId) (w : World) {ki e : TypeId} (ht : P.underlying t = some (.map ki e)) : (Instr.makeMap t none).run P w = .ok (.map (some w.heap.size)) (w.alloc (.map #[] 0)) := by
  simp [Instr.makeMap, run_underlying ht, Result.andThen]
theorem goodT (w : World) (l : List TV) (ta : Option Addr) (tc : Nat) (h : TbR w (.slice ta l.length tc) l) (hk : ∀ x ∈ l, OkV x) (m : Int) (hm : w.cell? ⟨0, 0, none⟩ = some (.int .i64 m)) : Calls Tryz.prog 46 #[.agg #[.slice ta l.length tc]] w fun e w' => e = .returned (.bool (goodB l)) ∧ Below w.heap.size w w' := by
  obtain ⟨_, _, e, hn⟩ := rowS_sl h.row
  clear e
  have h1 : (l.length : Int) ≤ 9223372036854775807 := by omega
  have HT := hid h
  have HK := hid hk
  have HM := hid hm
  clear h hk hm
  have HX : Hid (goodB l = (decide (l.length ≤ 128) && goodA l l 0)) := hid rfl
  by_cases hbig : 128 < l.length
  case pos =>
    have h2 : (128 : Int) < (l.length : Int) := by omega
    replace HX := hid (show goodB l = false by rw [HX.out, decide_eq_false (by omega)]; rfl)
    go_enter Tryz.func46, Tryz.ntmps46
    go_wp2
    go_ret
    exact ⟨ret_bool HX.out.symm, by exact blBy⟩
  have h2 : ¬ (128 : Int) < (l.length : Int) := by omega
  replace HX := hid (show goodB l = goodA l l 0 by rw [HX.out, decide_eq_true (by omega)]; rfl)
  have hmk := fun W => run_makeMap0 (P := Tryz.prog) 130 W Tryz.underlying130
  go_enter Tryz.func46, Tryz.ntmps46
  go_wp2
  clear hmk
  go_loopw [16] (fun r wr => ∃ j : Nat, r = .int .i64 j ∧ j ≤ l.length ∧ Hid (goodA l l 0 = goodA l (l.drop j) j) ∧ Hid (Kn wr (w.heap.size + 1) l j) ∧ Hid (Blk wr w.heap.size 24 #[.slice ta l.length tc]) ∧ Hid (Below w.heap.size w wr)) (fun r wr => l.length - numAt wr r)
  case atStart => exact ⟨0, rfl, by omega, hid rfl, hid (by have := Kn.new (w.alloc (Obj.cells #[Value.slice ta l.length tc] 24)) l; simpa using this), hid ((Blk.new _ _ _).kept (below_alloc _)), hid (by exact blBy)⟩
  case round =>
    obtain ⟨j, rfl, hj, hg, HKN, hB, hb⟩ := hrel
    by_cases hlt : j < l.length
    · have h3 : (j : Int) < (l.length : Int) := by omega
      have HST : Hid (goodA l (l.drop j) j = (stepB l j l[j].t && goodA l (l.drop (j + 1)) (j + 1))) := hid (by rw [List.drop_eq_getElem_cons hlt, goodA])
      have HTY := hid (HT.out.ty _ (List.getElem_mem hlt))
      have HOK := hid (HK.out _ (List.getElem_mem hlt))
      obtain ⟨tb, tof, rfl, hbl, c0, c1, c2, c3, c4, c5⟩ := row6 (HT.out.row.kept hb.out) hlt
      have HPUT : Hid (∀ W, Kn W (w.heap.size + 1) l j → named (l.take j) l[j].t.name = false → ∃ w', (Instr.mapUpdate 130 (.map (some (w.heap.size + 1))) (.string (strOfNums l[j].t.name)) (.int .i64 (j : Int))).run Tryz.prog W = .ok () w' ∧ Kn w' (w.heap.size + 1) l (j + 1) ∧ W.grownBy w' (some (w.heap.size + 1))) := hid fun W hW hN => hW.put hlt (by omega) (fun v hv => (HK.out v hv).ok.nm) hN
      generalize l[j] = x at *
      obtain ⟨t, f, o, s, r⟩ := x
      obtain ⟨fa, fc, ef, -⟩ := rowS_sl HTY.out.f
      obtain ⟨oa, oc, eo, -⟩ := rowS_sl HTY.out.o
      obtain ⟨sa, sc, es, -⟩ := rowS_sl HTY.out.s
      obtain ⟨ra, rc, er, -⟩ := rowS_sl HTY.out.r
      dsimp only at ef eo es er
      subst ef eo es er
      dsimp only at c0 c1 c2 c3 c4 c5
      obtain ⟨c, hr, -⟩ := (HKN.out.kept (below_alloc (w := wr) (.cells #[.string (strOfNums t.name), .bool t.enum, .slice fa t.fs.length fc, .slice oa t.os.length oc, .slice sa t.ss.length sc, .slice ra t.rs.length rc] 63))).look HOK.out.ok.nm
      try dsimp only at hr
      have Ba := hB.out
      have xa := Ba.cellF
      have ya := Ba.frz
      have za : w.heap.size < wr.heap.size := Ba.lt
      cases q0 : named (l.take j) t.name with
      | true =>
        rw [q0] at hr
        have HF : Hid (goodB l = false) := hid (by rw [HX.out, hg.out, HST.out]; simp [stepB, q0])
        go_wp2
        go_ret
        exact ⟨ret_bool HF.out.symm, by have := hb.out; exact blBy⟩
      | false =>
      rw [q0] at hr
      go_wp2_with fail
      refine (isFullNameT _ t _ _ _ _ m (cell_below HM.out (by have := hb.out; exact blBy)) HOK.out.ok.nm.1 HOK.out.nl).mono ?_
      rintro e w1 ⟨rfl, hb1⟩
      have Bb : Blk (wr.alloc (.cells #[.string (strOfNums t.name), .bool t.enum, .slice fa t.fs.length fc, .slice oa t.os.length oc, .slice sa t.ss.length sc, .slice ra t.rs.length rc] 63)) wr.heap.size 63 #[.string (strOfNums t.name), .bool t.enum, .slice fa t.fs.length fc, .slice oa t.os.length oc, .slice sa t.ss.length sc, .slice ra t.rs.length rc] := Blk.new _ _ _
      have Ba := Ba.kept (below_alloc (.cells #[.string (strOfNums t.name), .bool t.enum, .slice fa t.fs.length fc, .slice oa t.os.length oc, .slice sa t.ss.length sc, .slice ra t.rs.length rc] 63))
      replace HKN := hid (HKN.out.kept (below_alloc (.cells #[.string (strOfNums t.name), .bool t.enum, .slice fa t.fs.length fc, .slice oa t.os.length oc, .slice sa t.ss.length sc, .slice ra t.rs.length rc] 63)))
      have xb : True := trivial
      have yb : True := trivial
      have zb : True := trivial
      clear hr
      replace Ba : Blk w1 w.heap.size 24 #[.slice (some ⟨tb, tof, none⟩) l.length tc] := Blk.kept (Ba.is (by first | rfl | simp)) hb1
      replace Bb : Blk w1 wr.heap.size 63 #[.string (strOfNums t.name), .bool t.enum, .slice fa t.fs.length fc, .slice oa t.os.length oc, .slice sa t.ss.length sc, .slice ra t.rs.length rc] := Blk.kept (Bb.is (by first | rfl | simp)) hb1
      replace HKN := hid (HKN.out.kept hb1)
      clear xa ya xb yb
      have hs1 := hb1.size
      try simp at hs1
      have xa := Ba.cellF
      have ya := Ba.frz
      replace za : w.heap.size < w1.heap.size := by omega
      have xb := Bb.cellF
      have yb := Bb.frz
      replace zb : wr.heap.size < w1.heap.size := by omega
      replace hb1 : Hid (Below w.heap.size w w1) := hid (bl_then (by have := hb.out; exact blBy) hb1)
      cases q1 : fullB t with
      | false =>
        have HF : Hid (goodB l = false) := hid (by rw [HX.out, hg.out, HST.out]; simp [stepB, q0, q1])
        go_wp2
        go_ret
        exact ⟨ret_bool HF.out.symm, by have := hb1.out; exact blBy⟩
      | true =>
      go_wp2_with fail
      refine (standsRightT _ l _ tc (w.heap.size + 1) j t.name (HT.out.kept (by have := hb1.out; exact blBy)) HKN.out HOK.out.ok.nm HOK.out.nl).mono ?_
      rintro e w2 ⟨rfl, hb2⟩
      replace Ba : Blk w2 w.heap.size 24 #[.slice (some ⟨tb, tof, none⟩) l.length tc] := Blk.kept (Ba.is (by first | rfl | simp)) hb2
      replace Bb : Blk w2 wr.heap.size 63 #[.string (strOfNums t.name), .bool t.enum, .slice fa t.fs.length fc, .slice oa t.os.length oc, .slice sa t.ss.length sc, .slice ra t.rs.length rc] := Blk.kept (Bb.is (by first | rfl | simp)) hb2
      replace HKN := hid (HKN.out.kept hb2)
      clear xa ya xb yb
      have hs2 := hb2.size
      try simp at hs2
      have xa := Ba.cellF
      have ya := Ba.frz
      replace za : w.heap.size < w2.heap.size := by omega
      have xb := Bb.cellF
      have yb := Bb.frz
      replace zb : wr.heap.size < w2.heap.size := by omega
      replace hb2 : Hid (Below w.heap.size w w2) := hid (bl_then hb1.out hb2)
      cases q2 : standB l j t.name with
      | false =>
        have HF : Hid (goodB l = false) := hid (by rw [HX.out, hg.out, HST.out]; simp [stepB, q0, q1, q2])
        go_wp2
        go_ret
        exact ⟨ret_bool HF.out.symm, by have := hb2.out; exact blBy⟩
      | true =>
      go_wp2_with fail
      refine (isGoodTypeT _ l _ tc t fa oa sa ra fc oc sc rc (HT.out.kept (by have := hb2.out; exact blBy)) (HTY.out.kept (by have := hb2.out; exact blBy)) HOK.out.ok HOK.out.sz).mono ?_
      rintro e w3 ⟨rfl, hb3⟩
      replace Ba : Blk w3 w.heap.size 24 #[.slice (some ⟨tb, tof, none⟩) l.length tc] := Blk.kept (Ba.is (by first | rfl | simp)) hb3
      replace Bb : Blk w3 wr.heap.size 63 #[.string (strOfNums t.name), .bool t.enum, .slice fa t.fs.length fc, .slice oa t.os.length oc, .slice sa t.ss.length sc, .slice ra t.rs.length rc] := Blk.kept (Bb.is (by first | rfl | simp)) hb3
      replace HKN := hid (HKN.out.kept hb3)
      clear xa ya xb yb
      have hs3 := hb3.size
      try simp at hs3
      have xa := Ba.cellF
      have ya := Ba.frz
      replace za : w.heap.size < w3.heap.size := by omega
      have xb := Bb.cellF
      have yb := Bb.frz
      replace zb : wr.heap.size < w3.heap.size := by omega
      replace hb3 : Hid (Below w.heap.size w w3) := hid (bl_then hb2.out hb3)
      cases q3 : typB l t with
      | false =>
        have HF : Hid (goodB l = false) := hid (by rw [HX.out, hg.out, HST.out]; simp [stepB, q0, q1, q2, q3])
        go_wp2
        go_ret
        exact ⟨ret_bool HF.out.symm, by have := hb3.out; exact blBy⟩
      | true =>
      obtain ⟨w4, hr4, hk4, hg4⟩ := HPUT.out w3 HKN.out q0
      try dsimp only at hr4
      have HK4 := hid hk4
      have HB4 : Hid (Blk w4 w.heap.size 24 #[.slice (some ⟨tb, tof, none⟩) l.length tc]) := hid ((hg4.block _ za (by simp)).trans Ba)
      have HL4 : Hid (Below w.heap.size w w4) := hid (hb3.out.trans (grown_below hg4 (by omega) (by omega)))
      clear hk4 hg4
      go_wp2
      exact ⟨⟨j + 1, by simp, by omega, hid (by rw [hg.out, HST.out]; simp [stepB, q0, q1, q2, q3]), HK4, HB4, HL4⟩, by simp [numAt]; omega⟩
    · have h3 : ¬ (j : Int) < (l.length : Int) := by omega
      have HF : Hid (goodB l = true) := hid (by rw [HX.out, hg.out, List.drop_of_length_le (by omega)]; rfl)
      go_wp2
      go_ret
      exact ⟨ret_bool HF.out.symm, hb.out⟩
theorem fnd_ge {α : Type} (p : α → Bool) : ∀ (l : List α) (i : Nat), fnd p l i < 0 → fnd p l i = -1
  | [], i, _ => rfl
  | x :: r, i, h => by
    rw [fnd] at h ⊢
    split at h
    · omega
    · rename_i q
      rw [if_neg q]
      exact fnd_ge p r (i + 1) h
theorem rowOf {w : World} {b : Nat} {t : TypeId} {cs : Array Value} (B : Blk w b t cs) (k n : Nat) (fl : List Value) (h : cs = fl.toArray) (hl : fl.length = n * k) (hn : n ≤ 9223372036854775807) : RowS w AnyZ k (.slice (some ⟨b, 0, none⟩) n n) n fl :=
  ⟨some ⟨b, 0, none⟩, n, rfl, hl, Nat.le_refl _, hn, .inr ⟨b, 0, rfl, trivial, fun j u hu => by
    rw [Nat.zero_add]
    exact B.cell j u (by rw [h, List.getElem?_toArray]; exact hu)⟩⟩
def simE (h : Nat) : TV := ⟨⟨[69], true, [], [], [⟨[65], 0⟩], []⟩, .slice none 0 0, .slice none 0 0, .slice (some ⟨h + 1, 0, none⟩) 1 1, .slice none 0 0⟩
def simF : List FT := [⟨[120], 1, 2, 0, 0, 0, 0⟩, ⟨[108], 2, 4, 0, 3, 0, 0⟩, ⟨[109], 3, 17, 1, 1, 0, 0⟩]
def simM (h : Nat) : TV := ⟨⟨[77], false, simF, [], [], []⟩, .slice (some ⟨h + 1 + 1, 0, none⟩) 3 3, .slice none 0 0, .slice none 0 0, .slice none 0 0⟩
def simL (h : Nat) : List TV := [simE h, simM h]
theorem simpleW (w : World) : Calls Tryz.prog 5 #[] w fun e w' => e = .returned (.agg #[.slice (some ⟨w.heap.size + 1 + 1 + 1, 0, none⟩) (simL w.heap.size).length 2]) ∧ TbR w' (.slice (some ⟨w.heap.size + 1 + 1 + 1, 0, none⟩) (simL w.heap.size).length 2) (simL w.heap.size) ∧ Below w.heap.size w w' := by
  have HT : Hid (∀ W : World, Blk W (w.heap.size + 1) 58 #[.string ⟨#[65]⟩, .int .i64 0] → Blk W (w.heap.size + 1 + 1) 65 #[.string ⟨#[120]⟩, .int .i64 1, .int .i64 2, .int .i64 0, .int .i64 0, .int .i64 0, .int .i64 0, .string ⟨#[108]⟩, .int .i64 2, .int .i64 4, .int .i64 0, .int .i64 3, .int .i64 0, .int .i64 0, .string ⟨#[109]⟩, .int .i64 3, .int .i64 17, .int .i64 1, .int .i64 1, .int .i64 0, .int .i64 0] → Blk W (w.heap.size + 1 + 1 + 1) 63 #[.string ⟨#[69]⟩, .bool true, .slice none 0 0, .slice none 0 0, .slice (some ⟨w.heap.size + 1, 0, none⟩) 1 1, .slice none 0 0, .string ⟨#[77]⟩, .bool false, .slice (some ⟨w.heap.size + 1 + 1, 0, none⟩) 3 3, .slice none 0 0, .slice none 0 0, .slice none 0 0] → TbR W (.slice (some ⟨w.heap.size + 1 + 1 + 1, 0, none⟩) (simL w.heap.size).length 2) (simL w.heap.size)) := hid fun W B1 B2 B3 => by
    refine ⟨rowOf B3 6 2 _ rfl rfl (by decide), fun x hx => ?_⟩
    rcases List.mem_cons.1 hx with rfl | hx
    · exact ⟨rowS_nil _ _ _, rowS_nil _ _ _, rowOf B1 2 1 _ rfl rfl (by decide), rowS_nil _ _ _⟩
    · rcases List.mem_cons.1 hx with rfl | hx
      · exact ⟨rowOf B2 7 3 _ rfl rfl (by decide), rowS_nil _ _ _, rowS_nil _ _ _, rowS_nil _ _ _⟩
      · cases hx
  go_enter Tryz.func5, Tryz.ntmps5
  go_wp2
  refine bodyPost_ret (v := .agg #[.slice (some ⟨w.heap.size + 1 + 1 + 1, 0, none⟩) 2 2]) (by simp [results, Tryz.results5, go_sem]) rfl ⟨rfl, HT.out _ ?_ ?_ ?_, by exact blBy⟩
  · exact ((Blk.newAt (by simp)).kept (below_alloc _)).kept (below_alloc _)
  · exact (Blk.newAt (by simp)).kept (below_alloc _)
  · exact Blk.newAt (by simp)
theorem simGood (h : Nat) : goodB (simL h) = true := by kernel_rfl
theorem simOk (h : Nat) : ∀ x ∈ simL h, OkV x := by
  have tx : ∀ n : List Int, n ∈ ([[69], [77], [65], [120], [108], [109]] : List (List Int)) → TxA n := by
    intro n hn
    simp only [List.mem_cons, List.not_mem_nil, or_false] at hn
    rcases hn with rfl | rfl | rfl | rfl | rfl | rfl <;> exact ⟨by decide, by decide⟩
  intro x hx
  rcases List.mem_cons.1 hx with rfl | hx
  · refine ⟨⟨tx _ (by simp [simE]), by simp [simE], by simp [simE], fun s hs => ?_⟩, by simp [simE], by simp [simE]⟩
    simp [simE] at hs
    subst hs
    exact ⟨tx _ (by simp), by unfold I64; decide⟩
  · rcases List.mem_cons.1 hx with rfl | hx
    · refine ⟨⟨tx _ (by simp [simM]), fun f hf => ?_, by simp [simM], by simp [simM]⟩, by simp [simM], by simp [simM, simF]⟩
      simp [simM, simF] at hf
      rcases hf with rfl | rfl | rfl <;> exact tx _ (by simp)
    · cases hx
/-- What Find answers, where a field has that number. -/
theorem fieldOfOk (fs : List FT) (n : Int) (w : World) (a : Option Addr) (c : Nat) (h : RowS w AnyZ 7 (.slice a fs.length c) fs.length (fs.flatMap cFT)) (hr : Rise fs) (hl : fs.length ≤ 128) (k : Nat) (hk : k < fs.length) (hn : fs[k].num = n) : Calls Tryz.prog 32 #[.slice a fs.length c, .int .i64 n] w fun e w' => e = .returned (.tuple #[.agg #[.string (strOfNums fs[k].name), .int .i64 fs[k].num, .int .i64 fs[k].kind, .int .i64 fs[k].ref, .int .i64 fs[k].lab, .int .i64 fs[k].one, .int .i64 fs[k].key], .bool true]) ∧ Below w.heap.size w w' := by
  have HL : Hid (∀ W, Below w.heap.size w W → Calls Tryz.prog 47 #[.slice a fs.length c, .int .i64 n] W fun e w' => e = .returned (.tuple #[.agg #[.string (strOfNums fs[k].name), .int .i64 fs[k].num, .int .i64 fs[k].kind, .int .i64 fs[k].ref, .int .i64 fs[k].lab, .int .i64 fs[k].one, .int .i64 fs[k].key], .bool true]) ∧ Below W.heap.size W w') := hid fun W hW => ((lastUpToT fs n W a c (h.kept hW) hr hl).mono fun e w' hq => by
    rcases hq with ⟨⟨_, h1⟩ | ⟨j, hj, e1, h1, h2⟩, hb⟩
    · have := h1 k hk; omega
    · have ej : j = k := by
        rcases Nat.lt_trichotomy j k with q | q | q
        · have := h2 k q hk; omega
        · exact q
        · have := hr k j q hj hk; omega
      subst ej
      exact ⟨e1, hb⟩)
  clear h hr
  subst hn
  generalize fs[k] = f at *
  have kq : (f.num == f.num) = true := by simp
  go_enter Tryz.func32, Tryz.ntmps32
  go_wp2_with fail
  refine (HL.out _ (by exact blBy)).mono ?_
  rintro e w1 ⟨rfl, hb1⟩
  have Br : Blk w1 w.heap.size 65 #[.string ⟨#[]⟩, .int .i64 0, .int .i64 0, .int .i64 0, .int .i64 0, .int .i64 0, .int .i64 0] := (Blk.new _ _ _).kept hb1
  replace hb1 : Hid (Below w.heap.size w w1) := hid (bl_then (by exact blBy) hb1)
  have xr := Br.cellF
  have yr := Br.frz
  have zr := Br.lt
  go_wp2
  exact bodyPost_ret (v := .tuple #[.agg #[.string (strOfNums f.name), .int .i64 f.num, .int .i64 f.kind, .int .i64 f.ref, .int .i64 f.lab, .int .i64 f.one, .int .i64 f.key], .bool true]) (by simp [results, Tryz.results32, go_sem, xr, zr, yr]) rfl ⟨rfl, by have := hb1.out; exact blBy⟩
/-- Is there a type of that sort at an index of a good table? -/
def isB (l : List TV) (idx : Int) (sort : Bool) : Bool := goodB l && (decide (0 ≤ idx) && (match l[idx.toNat]? with | some x => x.t.enum == sort | none => false))
def ftZ : FT := ⟨[], 0, 0, 0, 0, 0, 0⟩
theorem fieldOfNo (fs : List FT) (n : Int) (w : World) (a : Option Addr) (c : Nat) (h : RowS w AnyZ 7 (.slice a fs.length c) fs.length (fs.flatMap cFT)) (hr : Rise fs) (hl : fs.length ≤ 128) (hno : ∀ f ∈ fs, f.num ≠ n) : Calls Tryz.prog 32 #[.slice a fs.length c, .int .i64 n] w fun e w' => e = .returned (.tuple #[.agg #[.string ⟨#[]⟩, .int .i64 0, .int .i64 0, .int .i64 0, .int .i64 0, .int .i64 0, .int .i64 0], .bool false]) ∧ Below w.heap.size w w' := by
  have HL : Hid (∀ W, Below w.heap.size w W → Calls Tryz.prog 47 #[.slice a fs.length c, .int .i64 n] W fun e w' => (∃ (g : FT) (ok : Bool), e = .returned (.tuple #[.agg #[.string (strOfNums g.name), .int .i64 g.num, .int .i64 g.kind, .int .i64 g.ref, .int .i64 g.lab, .int .i64 g.one, .int .i64 g.key], .bool ok]) ∧ Hid (ok = true → (g.num == n) = false)) ∧ Below W.heap.size W w') := hid fun W hW => ((lastUpToT fs n W a c (h.kept hW) hr hl).mono fun e w' hq => by
    rcases hq with ⟨⟨e1, _⟩ | ⟨j, hj, e1, h1, h2⟩, hb⟩
    · exact ⟨⟨ftZ, false, e1, hid (fun q => by cases q)⟩, hb⟩
    · exact ⟨⟨fs[j], true, e1, hid (fun _ => by rw [beq_eq_false_iff_ne]; exact hno _ (List.getElem_mem hj))⟩, hb⟩)
  clear h hr hno
  go_enter Tryz.func32, Tryz.ntmps32
  go_wp2_with fail
  refine (HL.out _ (by exact blBy)).mono ?_
  rintro e w1 ⟨⟨f, ok, rfl, hok⟩, hb1⟩
  have Br : Blk w1 w.heap.size 65 #[.string ⟨#[]⟩, .int .i64 0, .int .i64 0, .int .i64 0, .int .i64 0, .int .i64 0, .int .i64 0] := (Blk.new _ _ _).kept hb1
  replace hb1 : Hid (Below w.heap.size w w1) := hid (bl_then (by exact blBy) hb1)
  have xr := Br.cellF
  have yr := Br.frz
  have zr := Br.lt
  cases ok with
  | false =>
    go_wp2
    exact bodyPost_ret (v := .tuple #[.agg #[.string ⟨#[]⟩, .int .i64 0, .int .i64 0, .int .i64 0, .int .i64 0, .int .i64 0, .int .i64 0], .bool false]) (by simp [results, Tryz.results32, go_sem, xr, zr, yr]) rfl ⟨rfl, by have := hb1.out; exact blBy⟩
  | true =>
    have kq := hok.out rfl
    go_wp2
    exact bodyPost_ret (v := .tuple #[.agg #[.string ⟨#[]⟩, .int .i64 0, .int .i64 0, .int .i64 0, .int .i64 0, .int .i64 0, .int .i64 0], .bool false]) (by simp [results, Tryz.results32, go_sem, xr, zr, yr]) rfl ⟨rfl, by have := hb1.out; exact blBy⟩
theorem good_at {l : List TV} (hg : goodB l = true) {k : Nat} (hk : k < l.length) : stepB l k l[k].t = true := by
  unfold goodB at hg
  rw [Bool.and_eq_true] at hg
  have : ∀ (r : List TV) (i j : Nat), goodA l r i = true → (hj : j < r.length) → stepB l (i + j) r[j].t = true := by
    intro r
    induction r with
    | nil => intro i j _ hj; simp at hj
    | cons x r ih =>
      intro i j h hj
      rw [goodA, Bool.and_eq_true] at h
      cases j with
      | zero => exact h.1
      | succ j =>
        have := ih (i + 1) j h.2 (by simpa using hj)
        rw [show i + (j + 1) = i + 1 + j by omega]
        exact this
  have := this l 0 k hg.2 hk
  rw [Nat.zero_add] at this
  exact this
theorem good_msg {l : List TV} (hg : goodB l = true) {k : Nat} (hk : k < l.length) (he : l[k].t.enum = false) : Rise l[k].t.fs ∧ l[k].t.fs.length ≤ 128 := by
  have h := good_at hg hk
  unfold stepB typB msgB at h
  rw [he] at h
  simp only [Bool.and_eq_true, decide_eq_true_eq] at h
  have h2 := h.2.2.2
  simp only [Bool.false_eq_true, if_false, Bool.and_eq_true, decide_eq_true_eq] at h2
  exact ⟨(rise_all _ 0 h2.2.2.2.1).2, h2.2.1.1⟩
theorem isB_at {l : List TV} {idx : Int} {sort : Bool} (h : isB l idx sort = true) : ∃ (k : Nat) (hk : k < l.length), idx = (k : Int) ∧ goodB l = true ∧ l[k].t.enum = sort := by
  unfold isB at h
  simp only [Bool.and_eq_true, decide_eq_true_eq] at h
  obtain ⟨h1, h2, h3⟩ := h
  obtain ⟨k, rfl⟩ := Int.eq_ofNat_of_zero_le h2
  rw [Int.toNat_natCast] at h3
  by_cases hk : k < l.length
  · rw [List.getElem?_eq_getElem hk] at h3
    exact ⟨k, hk, rfl, h1, by simpa using h3⟩
  · rw [List.getElem?_eq_none (by omega)] at h3
    cases h3
section
variable (f : FT) (w : World)
end
def nmP (nm : List Int) (f : FT) : Bool := decide (f.name = nm)
theorem fnd_find {α : Type} (p : α → Bool) : ∀ (l : List α) (i : Nat), (fnd p l i < 0 ∧ l.find? p = none) ∨ ∃ (j : Nat) (hj : j < l.length), fnd p l i = ((i + j : Nat) : Int) ∧ l.find? p = some l[j]
  | [], i => .inl ⟨by simp [fnd], rfl⟩
  | x :: r, i => by
    rw [fnd, List.find?_cons]
    by_cases h : p x = true
    · rw [if_pos h, h]
      exact .inr ⟨0, by simp, by simp, rfl⟩
    · rw [if_neg h, Bool.eq_false_iff.2 h]
      rcases fnd_find p r (i + 1) with ⟨h1, h2⟩ | ⟨j, hj, h1, h2⟩
      · exact .inl ⟨h1, h2⟩
      · exact .inr ⟨j + 1, by simp; omega, by rw [h1]; congr 1; omega, by simpa using h2⟩
/-- An entry. -/
structure CE where
  num : Int
  kind : Int
  n : Int
  b : List Int
/-- A value, of whatever messages. -/
structure CV (M : Type) where
  n : Int
  b : List Int
  ms : List M
/-- A field. -/
structure CF (M : Type) where
  num : Int
  ks : List (CV M)
  vs : List (CV M)
/-- A message. -/
inductive CM where
  | mk (fs : List (CF CM)) (us : List CE)
def CM.fs : CM → List (CF CM)
  | .mk fs _ => fs
def CM.us : CM → List CE
  | .mk _ us => us
theorem CM.eta (m : CM) : CM.mk m.fs m.us = m := by cases m; rfl
theorem CM.ext {a b : CM} (h : a.fs = b.fs) (g : a.us = b.us) : a = b := by rw [← CM.eta a, ← CM.eta b, h, g]
def U64 (n : Int) : Prop := 0 ≤ n ∧ n < 18446744073709551616
/-- The cells of one struct. -/
abbrev Tup (k : Nat) : Type := {cs : List Value // cs.length = k}
/-- A row of structs of k cells, each as E says. -/
def RowM {α : Type} (w : World) (Z : Nat → Prop) (k : Nat) (E : List Value → α → Prop) (v : Value) (xs : List α) : Prop :=
  ∃ ts : List (Tup k), RowS w Z k v xs.length (ts.flatMap Subtype.val) ∧ ts.length = xs.length ∧ xs.length ≤ 4000000 ∧ ∀ (i : Nat) (t : Tup k) (x : α), ts[i]? = some t → xs[i]? = some x → E t.1 x
theorem RowM.sl {α : Type} {w : World} {Z : Nat → Prop} {k : Nat} {E : List Value → α → Prop} {v : Value} {xs : List α} (h : RowM w Z k E v xs) : ∃ a c, v = .slice a xs.length c ∧ xs.length ≤ 4000000 := by
  obtain ⟨ts, hr, _, hn, _⟩ := h
  obtain ⟨a, c, e, _⟩ := rowS_sl hr
  exact ⟨a, c, e, hn⟩
theorem RowM.at {α : Type} {w : World} {Z : Nat → Prop} {k : Nat} {E : List Value → α → Prop} {a : Option Addr} {n c : Nat} {xs : List α} (h : RowM w Z k E (.slice a n c) xs) (hk : 0 < k) {i : Nat} (hi : i < xs.length) :
    ∃ b o cs, a = some ⟨b, o, none⟩ ∧ Z b ∧ b < w.heap.size ∧ cs.length = k ∧ E cs xs[i] ∧ ∀ j u, cs[j]? = some u → w.cell? ⟨b, o + i * k + j, none⟩ = some u := by
  obtain ⟨ts, hr, hl, hn4, he⟩ := h
  have hti : i < ts.length := by omega
  have hr' : RowS w Z k (.slice a n c) ts.length (ts.flatMap Subtype.val) := by rw [hl]; exact hr
  obtain ⟨b, o, e, hc⟩ := rowAt (g := Subtype.val) (fun x => x.2) hr' (i := i) (x := ts[i]) (List.getElem?_eq_getElem hti)
  have h0 : 0 < ts[i].1.length := by rw [ts[i].2]; exact hk
  refine ⟨b, o, ts[i].1, e, ?_, World.block_lt_of_cell? _ _ (hc 0 _ (List.getElem?_eq_getElem h0)), ts[i].2, he i _ _ (List.getElem?_eq_getElem hti) (List.getElem?_eq_getElem hi), hc⟩
  obtain ⟨_, _, e2, hv⟩ := hr
  cases e2
  rcases hv.cells with ⟨q, _⟩ | ⟨b2, o2, e3, hz, _⟩
  · omega
  · rw [e] at e3
    cases e3
    exact hz
theorem RowM.imp {α : Type} {w : World} {Z : Nat → Prop} {k : Nat} {E E' : List Value → α → Prop} {v : Value} {xs : List α} (h : RowM w Z k E v xs) (hi : ∀ cs x, x ∈ xs → E cs x → E' cs x) : RowM w Z k E' v xs := by
  obtain ⟨ts, hr, hl, hn, he⟩ := h
  exact ⟨ts, hr, hl, hn, fun i t x ht hx => hi _ _ (List.mem_of_getElem? hx) (he i t x ht hx)⟩
theorem RowM.keep {α : Type} {w w' : World} {Z f : Nat → Prop} {k : Nat} {E : List Value → α → Prop} {v : Value} {xs : List α} (h : RowM w Z k E v xs) (g : Keep f w w') (hf : ∀ k, Z k → f k) : RowM w' Z k E v xs := by
  obtain ⟨ts, hr, hl, he⟩ := h
  exact ⟨ts, hr.keep g hf, hl, he⟩
theorem RowM.weak {α : Type} {w : World} {Z Z' : Nat → Prop} {k : Nat} {E : List Value → α → Prop} {v : Value} {xs : List α} (h : RowM w Z k E v xs) (hz : ∀ k, Z k → Z' k) : RowM w Z' k E v xs := by
  obtain ⟨ts, hr, hl, he⟩ := h
  exact ⟨ts, hr.weak hz, hl, he⟩
theorem RowM.nil {α : Type} (w : World) (Z : Nat → Prop) (k : Nat) (E : List Value → α → Prop) : RowM w Z k E (.slice none 0 0) [] := ⟨[], rowS_nil w Z k, rfl, by simp, fun i t x ht => by simp at ht⟩
/-- Bytes. -/
def ByE (w : World) (Z : Nat → Prop) (v : Value) (b : List Int) : Prop := RowS w Z 1 v b.length (b.map (Value.int .u8)) ∧ (∀ x ∈ b, 0 ≤ x ∧ x ≤ 255) ∧ b.length ≤ 4000000
theorem ByE.keep {w w' : World} {Z f : Nat → Prop} {v : Value} {b : List Int} (h : ByE w Z v b) (g : Keep f w w') (hf : ∀ k, Z k → f k) : ByE w' Z v b := ⟨h.1.keep g hf, h.2⟩
theorem ByE.weak {w : World} {Z Z' : Nat → Prop} {v : Value} {b : List Int} (h : ByE w Z v b) (hz : ∀ k, Z k → Z' k) : ByE w Z' v b := ⟨h.1.weak hz, h.2⟩
theorem ByE.sl {w : World} {Z : Nat → Prop} {v : Value} {b : List Int} (h : ByE w Z v b) : ∃ a c, v = .slice a b.length c ∧ b.length ≤ 4000000 := by
  obtain ⟨a, c, e, _⟩ := rowS_sl h.1
  exact ⟨a, c, e, h.2.2⟩
/-- An entry's cells. -/
def EntE (w : World) (Z : Nat → Prop) (cs : List Value) (x : CE) : Prop := ∃ bv, cs = [.int .i64 x.num, .int .i64 x.kind, .int .u64 x.n, bv] ∧ ByE w Z bv x.b ∧ I64 x.num ∧ I64 x.kind ∧ U64 x.n
/-- A value's cells, where messages lie as R says. -/
def ValE (w : World) (Z : Nat → Prop) (R : List Value → CM → Prop) (cs : List Value) (x : CV CM) : Prop := ∃ bv mv, cs = [.int .u64 x.n, bv, mv] ∧ ByE w Z bv x.b ∧ RowM w Z 2 R mv x.ms ∧ U64 x.n
def FldE (w : World) (Z : Nat → Prop) (R : List Value → CM → Prop) (cs : List Value) (x : CF CM) : Prop := ∃ kv vv, cs = [.int .i64 x.num, kv, vv] ∧ RowM w Z 3 (ValE w Z R) kv x.ks ∧ RowM w Z 3 (ValE w Z R) vv x.vs ∧ I64 x.num
/-- A message's cells, so deep. -/
def MsgE (w : World) (Z : Nat → Prop) : Nat → List Value → CM → Prop
  | 0, _, _ => False
  | d + 1, cs, m => ∃ fv uv, cs = [fv, uv] ∧ RowM w Z 3 (FldE w Z (MsgE w Z d)) fv m.fs ∧ RowM w Z 4 (EntE w Z) uv m.us
theorem EntE.keep {w w' : World} {Z f : Nat → Prop} {cs : List Value} {x : CE} (h : EntE w Z cs x) (g : Keep f w w') (hf : ∀ k, Z k → f k) : EntE w' Z cs x := by
  obtain ⟨bv, e, h1, h2⟩ := h
  exact ⟨bv, e, h1.keep g hf, h2⟩
theorem EntE.weak {w : World} {Z Z' : Nat → Prop} {cs : List Value} {x : CE} (h : EntE w Z cs x) (hz : ∀ k, Z k → Z' k) : EntE w Z' cs x := by
  obtain ⟨bv, e, h1, h2⟩ := h
  exact ⟨bv, e, h1.weak hz, h2⟩
theorem ValE.go {w w' : World} {Z Z' f : Nat → Prop} {R R' : List Value → CM → Prop} {cs : List Value} {x : CV CM} (h : ValE w Z R cs x) (g : Keep f w w') (hf : ∀ k, Z k → f k) (hz : ∀ k, Z k → Z' k) (hR : ∀ cs m, m ∈ x.ms → R cs m → R' cs m) : ValE w' Z' R' cs x := by
  obtain ⟨bv, mv, e, h1, h2, h3⟩ := h
  exact ⟨bv, mv, e, (h1.keep g hf).weak hz, ((h2.keep g hf).weak hz).imp hR, h3⟩
theorem FldE.go {w w' : World} {Z Z' f : Nat → Prop} {R R' : List Value → CM → Prop} {cs : List Value} {x : CF CM} (h : FldE w Z R cs x) (g : Keep f w w') (hf : ∀ k, Z k → f k) (hz : ∀ k, Z k → Z' k) (hR : ∀ cs m, R cs m → R' cs m) : FldE w' Z' R' cs x := by
  obtain ⟨kv, vv, e, h1, h2, h3⟩ := h
  exact ⟨kv, vv, e, ((h1.keep g hf).weak hz).imp (fun cs v _ hv => hv.go g hf hz (fun cs m _ => hR cs m)), ((h2.keep g hf).weak hz).imp (fun cs v _ hv => hv.go g hf hz (fun cs m _ => hR cs m)), h3⟩
theorem MsgE.go {w w' : World} {Z Z' f : Nat → Prop} (g : Keep f w w') (hf : ∀ k, Z k → f k) (hz : ∀ k, Z k → Z' k) : ∀ (d : Nat) (cs : List Value) (m : CM), MsgE w Z d cs m → MsgE w' Z' d cs m
  | 0, _, _, h => h.elim
  | d + 1, cs, m, ⟨fv, uv, e, h1, h2⟩ => ⟨fv, uv, e, ((h1.keep g hf).weak hz).imp (fun cs x _ hx => hx.go g hf hz (MsgE.go g hf hz d)), ((h2.keep g hf).weak hz).imp (fun cs x _ hx => (hx.keep g hf).weak hz)⟩
theorem MsgE.more {w : World} {Z : Nat → Prop} : ∀ (d : Nat) (cs : List Value) (m : CM), MsgE w Z d cs m → MsgE w Z (d + 1) cs m
  | 0, _, _, h => h.elim
  | d + 1, cs, m, ⟨fv, uv, e, h1, h2⟩ => ⟨fv, uv, e, h1.imp (fun cs x _ hx => hx.go (Keep.refl Z w) (fun _ h => h) (fun _ h => h) (MsgE.more d)), h2⟩
theorem MsgE.le {w : World} {Z : Nat → Prop} {d e : Nat} (h : d ≤ e) {cs : List Value} {m : CM} (hm : MsgE w Z d cs m) : MsgE w Z e cs m := by
  induction e with
  | zero => rw [Nat.le_zero.1 h] at hm; exact hm
  | succ e ih =>
    by_cases q : d = e + 1
    · subst q; exact hm
    · exact MsgE.more e cs m (ih (by omega))
theorem keepT {w w' : World} (hb : Below w.heap.size w w') : Keep (fun _ => True) w w' := Keep.ofBelow hb
theorem MsgE.kept {w w' : World} {Z : Nat → Prop} {d : Nat} {cs : List Value} {m : CM} (h : MsgE w Z d cs m) (hb : Below w.heap.size w w') : MsgE w' Z d cs m := MsgE.go (keepT hb) (fun _ _ => trivial) (fun _ h => h) d cs m h
theorem FldE.kept {w w' : World} {Z : Nat → Prop} {d : Nat} {cs : List Value} {x : CF CM} (h : FldE w Z (MsgE w Z d) cs x) (hb : Below w.heap.size w w') : FldE w' Z (MsgE w' Z d) cs x := h.go (keepT hb) (fun _ _ => trivial) (fun _ h => h) (fun _ _ h => h.kept hb)
theorem ValE.kept {w w' : World} {Z : Nat → Prop} {d : Nat} {cs : List Value} {x : CV CM} (h : ValE w Z (MsgE w Z d) cs x) (hb : Below w.heap.size w w') : ValE w' Z (MsgE w' Z d) cs x := h.go (keepT hb) (fun _ _ => trivial) (fun _ h => h) (fun _ _ _ h => h.kept hb)
theorem EntE.kept {w w' : World} {Z : Nat → Prop} {cs : List Value} {x : CE} (h : EntE w Z cs x) (hb : Below w.heap.size w w') : EntE w' Z cs x := h.keep (keepT hb) (fun _ _ => trivial)
theorem ByE.kept {w w' : World} {Z : Nat → Prop} {v : Value} {b : List Int} (h : ByE w Z v b) (hb : Below w.heap.size w w') : ByE w' Z v b := h.keep (keepT hb) (fun _ _ => trivial)
/-- Rows of fields, values, messages, entries. -/
def FlsR (w : World) (Z : Nat → Prop) (d : Nat) (v : Value) (xs : List (CF CM)) : Prop := RowM w Z 3 (FldE w Z (MsgE w Z d)) v xs
def VlsR (w : World) (Z : Nat → Prop) (d : Nat) (v : Value) (xs : List (CV CM)) : Prop := RowM w Z 3 (ValE w Z (MsgE w Z d)) v xs
def MgsR (w : World) (Z : Nat → Prop) (d : Nat) (v : Value) (xs : List CM) : Prop := RowM w Z 2 (MsgE w Z d) v xs
def EnsR (w : World) (Z : Nat → Prop) (v : Value) (xs : List CE) : Prop := RowM w Z 4 (EntE w Z) v xs
theorem FlsR.kept {w w' : World} {Z : Nat → Prop} {d : Nat} {v : Value} {xs : List (CF CM)} (h : FlsR w Z d v xs) (hb : Below w.heap.size w w') : FlsR w' Z d v xs := (RowM.keep h (keepT hb) (fun _ _ => trivial)).imp (fun _ _ _ h => h.kept hb)
theorem VlsR.kept {w w' : World} {Z : Nat → Prop} {d : Nat} {v : Value} {xs : List (CV CM)} (h : VlsR w Z d v xs) (hb : Below w.heap.size w w') : VlsR w' Z d v xs := (RowM.keep h (keepT hb) (fun _ _ => trivial)).imp (fun _ _ _ h => h.kept hb)
theorem MgsR.kept {w w' : World} {Z : Nat → Prop} {d : Nat} {v : Value} {xs : List CM} (h : MgsR w Z d v xs) (hb : Below w.heap.size w w') : MgsR w' Z d v xs := (RowM.keep h (keepT hb) (fun _ _ => trivial)).imp (fun _ _ _ h => h.kept hb)
theorem EnsR.kept {w w' : World} {Z : Nat → Prop} {v : Value} {xs : List CE} (h : EnsR w Z v xs) (hb : Below w.heap.size w w') : EnsR w' Z v xs := (RowM.keep h (keepT hb) (fun _ _ => trivial)).imp (fun _ _ _ h => h.kept hb)
theorem msg_open {w : World} {Z : Nat → Prop} {d : Nat} {cs : List Value} {m : CM} (h : MsgE w Z (d + 1) cs m) : ∃ fa fc ua uc, cs = [.slice fa m.fs.length fc, .slice ua m.us.length uc] ∧ FlsR w Z d (.slice fa m.fs.length fc) m.fs ∧ EnsR w Z (.slice ua m.us.length uc) m.us ∧ m.fs.length ≤ 4000000 ∧ m.us.length ≤ 4000000 := by
  obtain ⟨fv, uv, e, h1, h2⟩ := h
  obtain ⟨fa, fc, rfl, l1⟩ := h1.sl
  obtain ⟨ua, uc, rfl, l2⟩ := h2.sl
  exact ⟨fa, fc, ua, uc, e, h1, h2, l1, l2⟩
theorem fld_open {w : World} {Z : Nat → Prop} {d : Nat} {cs : List Value} {x : CF CM} (h : FldE w Z (MsgE w Z d) cs x) : ∃ ka kc va vc, cs = [.int .i64 x.num, .slice ka x.ks.length kc, .slice va x.vs.length vc] ∧ VlsR w Z d (.slice ka x.ks.length kc) x.ks ∧ VlsR w Z d (.slice va x.vs.length vc) x.vs ∧ x.ks.length ≤ 4000000 ∧ x.vs.length ≤ 4000000 ∧ I64 x.num := by
  obtain ⟨kv, vv, e, h1, h2, h3⟩ := h
  obtain ⟨ka, kc, rfl, l1⟩ := h1.sl
  obtain ⟨va, vc, rfl, l2⟩ := h2.sl
  exact ⟨ka, kc, va, vc, e, h1, h2, l1, l2, h3⟩
theorem val_open {w : World} {Z : Nat → Prop} {d : Nat} {cs : List Value} {x : CV CM} (h : ValE w Z (MsgE w Z d) cs x) : ∃ ba bc ma mc, cs = [.int .u64 x.n, .slice ba x.b.length bc, .slice ma x.ms.length mc] ∧ ByE w Z (.slice ba x.b.length bc) x.b ∧ MgsR w Z d (.slice ma x.ms.length mc) x.ms ∧ x.b.length ≤ 4000000 ∧ x.ms.length ≤ 4000000 ∧ U64 x.n := by
  obtain ⟨bv, mv, e, h1, h2, h3⟩ := h
  obtain ⟨ba, bc, rfl, l1⟩ := h1.sl
  obtain ⟨ma, mc, rfl, l2⟩ := h2.sl
  exact ⟨ba, bc, ma, mc, e, h1, h2, l1, l2, h3⟩
theorem ent_open {w : World} {Z : Nat → Prop} {cs : List Value} {x : CE} (h : EntE w Z cs x) : ∃ ba bc, cs = [.int .i64 x.num, .int .i64 x.kind, .int .u64 x.n, .slice ba x.b.length bc] ∧ ByE w Z (.slice ba x.b.length bc) x.b ∧ x.b.length ≤ 4000000 ∧ I64 x.num ∧ I64 x.kind ∧ U64 x.n := by
  obtain ⟨bv, e, h1, h2⟩ := h
  obtain ⟨ba, bc, rfl, l1⟩ := h1.sl
  exact ⟨ba, bc, e, h1, l1, h2⟩
theorem fls_at {w : World} {Z : Nat → Prop} {d : Nat} {a : Option Addr} {n c : Nat} {xs : List (CF CM)} (h : FlsR w Z d (.slice a n c) xs) {i : Nat} (hi : i < xs.length) : ∃ b o ka kc va vc, a = some ⟨b, o, none⟩ ∧ Z b ∧ b < w.heap.size ∧ w.cell? ⟨b, o + i * 3, none⟩ = some (.int .i64 xs[i].num) ∧ w.cell? ⟨b, o + i * 3 + 1, none⟩ = some (.slice ka xs[i].ks.length kc) ∧ w.cell? ⟨b, o + i * 3 + 2, none⟩ = some (.slice va xs[i].vs.length vc) ∧ FldE w Z (MsgE w Z d) [.int .i64 xs[i].num, .slice ka xs[i].ks.length kc, .slice va xs[i].vs.length vc] xs[i] := by
  obtain ⟨b, o, cs, e, hz, hb, hl, he, hc⟩ := RowM.at h (by decide) hi
  obtain ⟨ka, kc, va, vc, rfl, _⟩ := fld_open he
  exact ⟨b, o, ka, kc, va, vc, e, hz, hb, hc 0 _ rfl, hc 1 _ rfl, hc 2 _ rfl, he⟩
theorem vls_at {w : World} {Z : Nat → Prop} {d : Nat} {a : Option Addr} {n c : Nat} {xs : List (CV CM)} (h : VlsR w Z d (.slice a n c) xs) {i : Nat} (hi : i < xs.length) : ∃ b o ba bc ma mc, a = some ⟨b, o, none⟩ ∧ Z b ∧ b < w.heap.size ∧ w.cell? ⟨b, o + i * 3, none⟩ = some (.int .u64 xs[i].n) ∧ w.cell? ⟨b, o + i * 3 + 1, none⟩ = some (.slice ba xs[i].b.length bc) ∧ w.cell? ⟨b, o + i * 3 + 2, none⟩ = some (.slice ma xs[i].ms.length mc) ∧ ValE w Z (MsgE w Z d) [.int .u64 xs[i].n, .slice ba xs[i].b.length bc, .slice ma xs[i].ms.length mc] xs[i] := by
  obtain ⟨b, o, cs, e, hz, hb, hl, he, hc⟩ := RowM.at h (by decide) hi
  obtain ⟨ka, kc, va, vc, rfl, _⟩ := val_open he
  exact ⟨b, o, ka, kc, va, vc, e, hz, hb, hc 0 _ rfl, hc 1 _ rfl, hc 2 _ rfl, he⟩
theorem mgs_at {w : World} {Z : Nat → Prop} {d : Nat} {a : Option Addr} {n c : Nat} {xs : List CM} (h : MgsR w Z (d + 1) (.slice a n c) xs) {i : Nat} (hi : i < xs.length) : ∃ b o fa fc ua uc, a = some ⟨b, o, none⟩ ∧ Z b ∧ b < w.heap.size ∧ w.cell? ⟨b, o + i * 2, none⟩ = some (.slice fa xs[i].fs.length fc) ∧ w.cell? ⟨b, o + i * 2 + 1, none⟩ = some (.slice ua xs[i].us.length uc) ∧ MsgE w Z (d + 1) [.slice fa xs[i].fs.length fc, .slice ua xs[i].us.length uc] xs[i] := by
  obtain ⟨b, o, cs, e, hz, hb, hl, he, hc⟩ := RowM.at h (by decide) hi
  obtain ⟨ka, kc, va, vc, rfl, _⟩ := msg_open he
  exact ⟨b, o, ka, kc, va, vc, e, hz, hb, hc 0 _ rfl, hc 1 _ rfl, he⟩
theorem mgs_zero {w : World} {Z : Nat → Prop} {v : Value} {xs : List CM} (h : MgsR w Z 0 v xs) : xs = [] := by
  cases xs with
  | nil => rfl
  | cons x r =>
    obtain ⟨a, c, rfl, _⟩ := RowM.sl h
    obtain ⟨b, o, cs, e, hz, hb, hl, he, hc⟩ := RowM.at h (by decide) (i := 0) (by simp)
    exact he.elim
theorem ens_at {w : World} {Z : Nat → Prop} {a : Option Addr} {n c : Nat} {xs : List CE} (h : EnsR w Z (.slice a n c) xs) {i : Nat} (hi : i < xs.length) : ∃ b o ba bc, a = some ⟨b, o, none⟩ ∧ Z b ∧ b < w.heap.size ∧ w.cell? ⟨b, o + i * 4, none⟩ = some (.int .i64 xs[i].num) ∧ w.cell? ⟨b, o + i * 4 + 1, none⟩ = some (.int .i64 xs[i].kind) ∧ w.cell? ⟨b, o + i * 4 + 2, none⟩ = some (.int .u64 xs[i].n) ∧ w.cell? ⟨b, o + i * 4 + 3, none⟩ = some (.slice ba xs[i].b.length bc) ∧ EntE w Z [.int .i64 xs[i].num, .int .i64 xs[i].kind, .int .u64 xs[i].n, .slice ba xs[i].b.length bc] xs[i] := by
  obtain ⟨b, o, cs, e, hz, hb, hl, he, hc⟩ := RowM.at h (by decide) hi
  obtain ⟨ba, bc, rfl, _⟩ := ent_open he
  exact ⟨b, o, ba, bc, e, hz, hb, hc 0 _ rfl, hc 1 _ rfl, hc 2 _ rfl, hc 3 _ rfl, he⟩
theorem mgs_at' {w : World} {Z : Nat → Prop} {d : Nat} {a : Option Addr} {n c : Nat} {xs : List CM} (h : MgsR w Z d (.slice a n c) xs) {i : Nat} (hi : i < xs.length) : ∃ b o fa fc ua uc, a = some ⟨b, o, none⟩ ∧ Z b ∧ b < w.heap.size ∧ w.cell? ⟨b, o + i * 2, none⟩ = some (.slice fa xs[i].fs.length fc) ∧ w.cell? ⟨b, o + i * 2 + 1, none⟩ = some (.slice ua xs[i].us.length uc) ∧ MsgE w Z d [.slice fa xs[i].fs.length fc, .slice ua xs[i].us.length uc] xs[i] := by
  cases d with
  | zero => rw [mgs_zero h] at hi; simp at hi
  | succ d => exact mgs_at h hi
/-- A bool that says P. -/
def EqR (w : World) (P : Prop) (e : Ending) (w' : World) : Prop := ∃ r : Bool, e = .returned (.bool r) ∧ (r = true ↔ P) ∧ Below w.heap.size w w'
theorem EqR.mk {w : World} {P : Prop} {w' : World} (r : Bool) (h : r = true ↔ P) (hb : Below w.heap.size w w') : EqR w P (.returned (.bool r)) w' := ⟨r, rfl, h, hb⟩
theorem EqR.yes {w : World} {P : Prop} {w' : World} (h : P) (hb : Below w.heap.size w w') : EqR w P (.returned (.bool true)) w' := ⟨true, rfl, ⟨fun _ => h, fun _ => rfl⟩, hb⟩
theorem EqR.no {w : World} {P : Prop} {w' : World} (h : ¬ P) (hb : Below w.heap.size w w') : EqR w P (.returned (.bool false)) w' := ⟨false, rfl, ⟨fun q => (by cases q), fun q => absurd q h⟩, hb⟩
theorem take_next {α : Type} {xs ys : List α} {i : Nat} (h1 : i < xs.length) (h2 : i < ys.length) (h : xs.take i = ys.take i) (he : xs[i] = ys[i]) : xs.take (i + 1) = ys.take (i + 1) := by
  rw [List.take_succ_eq_append_getElem h1, List.take_succ_eq_append_getElem h2, h, he]
theorem take_all {α : Type} {xs ys : List α} {i : Nat} (h1 : xs.length ≤ i) (h2 : ys.length ≤ i) (h : xs.take i = ys.take i) : xs = ys := by
  rw [List.take_of_length_le h1, List.take_of_length_le h2] at h
  exact h
theorem ne_at {α : Type} {xs ys : List α} {i : Nat} (h1 : i < xs.length) (h2 : i < ys.length) (h : ¬ xs[i] = ys[i]) : ¬ xs = ys := by
  intro e
  subst e
  exact h rfl
/-- Bytes as a string. -/
theorem by_conv {w : World} {Z : Nat → Prop} {a : Option Addr} {n c : Nat} {b : List Int} (h : ByE w Z (.slice a n c) b) : (convert 36 9 (.slice a n c)).run Tryz.prog w = .ok (.string (strOfNums b)) w := by
  obtain ⟨⟨a', c', e, hv⟩, hbd, -⟩ := h
  cases e
  rcases hv.cells with ⟨h0, hn⟩ | ⟨b', off, rfl, _, hc⟩
  · have hx : b = [] := List.eq_nil_of_length_eq_zero h0
    subst hx
    cases a with
    | none => exact run_convert_bytes_nil w 36 5 Tryz.underlying36 Tryz.underlying5 0 c 9 Tryz.underlying9
    | some x =>
      show (convert 36 9 (.slice (some x) 0 c)).run Tryz.prog w = _
      rw [run_convert_bytes_string w 36 9 5 _ 0 c Tryz.underlying36 Tryz.underlying5 Tryz.underlying9, run_bytesToString w _ 0 c [] (by simp [loadCells, loadCellsFrom])]
      rfl
  · exact run_convert_bytes_arg w 36 5 Tryz.underlying36 Tryz.underlying5 b' off b.length c b rfl (fun i hi => hc i _ (by simp [List.getD, hi])) 9 Tryz.underlying9
end Go.Proofs.YtmiemocdjkeefaaGreatDoor
