/-
  What is around a type.
  A table is good: what the program answers.
  A type by its name: both answers.
  The table of the examples.
  A type at its index, where it is a message of a good table.
  A type at its index, where there is none of that sort.
  A field by its number: where there is none; a field in memory of its own.
  A field by its number: what the program answers.
  What a field takes an entry as: what the program answers.
  Takes, Named: what the program answers.
  Those of a list that are so; whether all are so; the first one that is so.
  Get, Clear: what the program answers.
  Depth, Get: what the document answers.
  Get: what the document answers.
-/
import Derived.Test.YtgephggcgopfgaaGreatDoorCTP
import Derived.Test.YtgephggcgopfgaaGreatDoorCAG
namespace Go.Proofs.YtgephggcgopfgaaGreatDoor
open Go.RowKit
set_option maxRecDepth 1000000
set_option linter.unusedVariables false
set_option linter.unusedSimpArgs false
set_option maxHeartbeats 1000000
def lastD (x : List Int) : Int := Lib.lastIndexByte (strOfNums x) 46
theorem lastD_is (x : List Int) : lastD x = -1 ∨ ∃ i : Nat, lastD x = i ∧ i < x.length := by
  rcases Lib.lastIndexByte_spec (strOfNums x) 46 with ⟨e, _⟩ | ⟨i, hi, e, _⟩
  · exact .inl e
  · exact .inr ⟨i, e, by rw [strOfNums_size] at hi; exact hi⟩
theorem lastT (x : List Int) (w : World) (h : x.length < 4611686018427387904) : Calls Tryz.prog 149 #[.string (strOfNums x), .string dotS] w fun e w' => e = .returned (.int .i64 (lastD x)) ∧ w = w' := by
  refine (Tryz.strings_LastIndex_one (strOfNums x) dotS rfl (by rw [strOfNums_size]; exact h) w).mono ?_
  rintro e w' ⟨rfl, rfl⟩
  exact ⟨rfl, rfl⟩
def standB (l : List TV) (i : Nat) (x : List Int) : Bool := if lastD x < 0 then true else match (l.take i).find? (fun v => v.t.name == x.take (lastD x).toNat) with
  | none => false
  | some v => !v.t.enum
theorem standsRightT (w : World) (l : List TV) (ta : Option Addr) (tc : Nat) (b i : Nat) (x : List Int) (h : TbR w (.slice ta l.length tc) l) (hk : Kn w b l i) (hx : TxA x) (hl : x.length < 4294967281) : Calls Tryz.prog 124 #[.agg #[.slice ta l.length tc], .map (some b), .string (strOfNums x)] w fun e w' => e = .returned (.bool (standB l i x)) ∧ Below w.heap.size w w' := by
  have HX : Hid (standB l i x = if lastD x < 0 then true else match (l.take i).find? (fun v => v.t.name == x.take (lastD x).toNat) with
  | none => false
  | some v => !v.t.enum) := hid rfl
  have HC : Hid (∀ W, Calls Tryz.prog 149 #[.string (strOfNums x), .string dotS] W fun e w' => e = .returned (.int .i64 (lastD x)) ∧ W = w') := hid fun W => lastT x W (by omega)
  obtain ⟨_, _, e, hn⟩ := rowS_sl h.row
  clear e
  have h1 : (l.length : Int) ≤ 9223372036854775807 := by omega
  have HT := hid h
  have HK := hid hk
  rcases lastD_is x with e | ⟨k, e, hkx⟩
  · rw [e] at HX HC
    replace HX := hid (show standB l i x = true by rw [HX.out]; rfl)
    clear h hk hx
    go_enter Tryz.func124, Tryz.ntmps124
    go_wp2_with (first | (go_at_call 149; refine (HC.out _).mono ?_; rintro e w1 ⟨rfl, rfl⟩))
    go_ret
    exact ⟨ret_bool HX.out.symm, by exact blBy⟩
  rw [e] at HX HC
  have hy : TxA (x.take k) := ⟨fun c hc => hx.1 c (List.mem_of_mem_take hc), by have := hx.2; simp; omega⟩
  have HS : Hid ((strOfNums x).extract 0 k = strOfNums (x.take k)) := hid (by rw [str_cut]; rfl)
  have HSZ : (strOfNums x).size = x.length := strOfNums_size x
  replace HX := hid (show standB l i x = match (l.take i).find? (fun v => v.t.name == x.take k) with
  | none => false
  | some v => !v.t.enum by rw [HX.out, if_neg (by omega)]; rfl)
  have k0 : ¬ (k : Int) < 0 := by omega
  have hkx' : (k : Int) < (x.length : Int) := by omega
  obtain ⟨c, hr, hc⟩ := (HK.out.kept (below_alloc (w := w) (.cells #[.slice ta l.length tc] 46))).look hy
  rw [← HS.out] at hr
  cases hf : (l.take i).find? (fun v => v.t.name == x.take k) with
  | none =>
    have hno : named (l.take i) (x.take k) = false := by
      unfold named
      rw [List.any_eq_false]
      intro v hv
      exact List.find?_eq_none.1 hf v hv
    replace HX := hid (show standB l i x = false by rw [HX.out, hf])
    rw [hno] at hr
    clear h hk hx hno hf hc
    go_enter Tryz.func124, Tryz.ntmps124
    go_wp2_with (first | (go_at_call 149; refine (HC.out _).mono ?_; rintro e w1 ⟨rfl, rfl⟩))
    go_ret
    exact ⟨ret_bool HX.out.symm, by exact blBy⟩
  | some v =>
    have hyes : named (l.take i) (x.take k) = true := by
      unfold named
      rw [List.any_eq_true]
      exact ⟨v, List.mem_of_find?_eq_some hf, by simpa using List.find?_some hf⟩
    obtain ⟨j, hj, ej⟩ := List.mem_take_iff_getElem.1 (List.mem_of_find?_eq_some hf)
    have hjl : j < l.length := by omega
    have hcj : c = (j : Int) := hc j hjl (by omega) (by rw [ej]; simpa using List.find?_some hf)
    subst hcj
    replace HX := hid (show standB l i x = !l[j].t.enum by rw [HX.out, hf, ej])
    rw [hyes] at hr
    have hjl' : (j : Int) < (l.length : Int) := by omega
    obtain ⟨tb, tof, rfl, hbl, -, c1, -⟩ := row6 HT.out.row hjl
    clear h hk hx hyes hf hc ej
    generalize l[j].t.enum = en at *
    go_enter Tryz.func124, Tryz.ntmps124
    go_wp2_with (first | (go_at_call 149; refine (HC.out _).mono ?_; rintro e w1 ⟨rfl, rfl⟩))
    go_ret
    exact ⟨ret_bool HX.out.symm, by exact blBy⟩
structure OkV (x : TV) : Prop where
  ok : OkT x.t
  nl : x.t.name.length < 4294967281
  sz : x.t.fs.length + x.t.os.length + x.t.rs.length ≤ 9223372036854775807
def stepB (l : List TV) (j : Nat) (t : TT) : Bool := !named (l.take j) t.name && (fullB t && (standB l j t.name && typB l t))
def goodA (l : List TV) : List TV → Nat → Bool
  | [], _ => true
  | x :: r, j => stepB l j x.t && goodA l r (j + 1)
def goodB (l : List TV) : Bool := decide (l.length ≤ 128) && goodA l l 0
theorem run_makeMap0 {P : Program} (t : TypeId) (w : World) {ki e : TypeId} (ht : P.underlying t = some (.map ki e)) : (Instr.makeMap t none).run P w = .ok (.map (some w.heap.size)) (w.alloc (.map #[] 0)) := by
  simp [Instr.makeMap, run_underlying ht, Result.andThen]
theorem goodT (w : World) (l : List TV) (ta : Option Addr) (tc : Nat) (h : TbR w (.slice ta l.length tc) l) (hk : ∀ x ∈ l, OkV x) (m : Int) (hm : w.cell? ⟨0, 0, none⟩ = some (.int .i64 m)) : Calls Tryz.prog 91 #[.agg #[.slice ta l.length tc]] w fun e w' => e = .returned (.bool (goodB l)) ∧ Below w.heap.size w w' := by
  obtain ⟨_, _, e, hn⟩ := rowS_sl h.row
  clear e
  have h1 : (l.length : Int) ≤ 9223372036854775807 := by omega
  have HT := hid h
  have HK := hid hk
  have HM := hid hm
  clear h hk hm
  have HX : Hid (goodB l = (decide (l.length ≤ 128) && goodA l l 0)) := hid rfl
  by_cases hbig : 128 < l.length
  case pos =>
    have h2 : (128 : Int) < (l.length : Int) := by omega
    replace HX := hid (show goodB l = false by rw [HX.out, decide_eq_false (by omega)]; rfl)
    go_enter Tryz.func91, Tryz.ntmps91
    go_wp2
    go_ret
    exact ⟨ret_bool HX.out.symm, by exact blBy⟩
  have h2 : ¬ (128 : Int) < (l.length : Int) := by omega
  replace HX := hid (show goodB l = goodA l l 0 by rw [HX.out, decide_eq_true (by omega)]; rfl)
  have hmk := fun W => run_makeMap0 (P := Tryz.prog) 150 W Tryz.underlying150
  go_enter Tryz.func91, Tryz.ntmps91
  go_wp2
  clear hmk
  go_loopw [16] (fun r wr => ∃ j : Nat, r = .int .i64 j ∧ j ≤ l.length ∧ Hid (goodA l l 0 = goodA l (l.drop j) j) ∧ Hid (Kn wr (w.heap.size + 1) l j) ∧ Hid (Blk wr w.heap.size 46 #[.slice ta l.length tc]) ∧ Hid (Below w.heap.size w wr)) (fun r wr => l.length - numAt wr r)
  case atStart => exact ⟨0, rfl, by omega, hid rfl, hid (by have := Kn.new (w.alloc (Obj.cells #[Value.slice ta l.length tc] 46)) l; simpa using this), hid ((Blk.new _ _ _).kept (below_alloc _)), hid (by exact blBy)⟩
  case round =>
    obtain ⟨j, rfl, hj, hg, HKN, hB, hb⟩ := hrel
    by_cases hlt : j < l.length
    · have h3 : (j : Int) < (l.length : Int) := by omega
      have HST : Hid (goodA l (l.drop j) j = (stepB l j l[j].t && goodA l (l.drop (j + 1)) (j + 1))) := hid (by rw [List.drop_eq_getElem_cons hlt, goodA])
      have HTY := hid (HT.out.ty _ (List.getElem_mem hlt))
      have HOK := hid (HK.out _ (List.getElem_mem hlt))
      obtain ⟨tb, tof, rfl, hbl, c0, c1, c2, c3, c4, c5⟩ := row6 (HT.out.row.kept hb.out) hlt
      have HPUT : Hid (∀ W, Kn W (w.heap.size + 1) l j → named (l.take j) l[j].t.name = false → ∃ w', (Instr.mapUpdate 150 (.map (some (w.heap.size + 1))) (.string (strOfNums l[j].t.name)) (.int .i64 (j : Int))).run Tryz.prog W = .ok () w' ∧ Kn w' (w.heap.size + 1) l (j + 1) ∧ W.grownBy w' (some (w.heap.size + 1))) := hid fun W hW hN => hW.put hlt (by omega) (fun v hv => (HK.out v hv).ok.nm) hN
      generalize l[j] = x at *
      obtain ⟨t, f, o, s, r⟩ := x
      obtain ⟨fa, fc, ef, -⟩ := rowS_sl HTY.out.f
      obtain ⟨oa, oc, eo, -⟩ := rowS_sl HTY.out.o
      obtain ⟨sa, sc, es, -⟩ := rowS_sl HTY.out.s
      obtain ⟨ra, rc, er, -⟩ := rowS_sl HTY.out.r
      dsimp only at ef eo es er
      subst ef eo es er
      dsimp only at c0 c1 c2 c3 c4 c5
      obtain ⟨c, hr, -⟩ := (HKN.out.kept (below_alloc (w := wr) (.cells #[.string (strOfNums t.name), .bool t.enum, .slice fa t.fs.length fc, .slice oa t.os.length oc, .slice sa t.ss.length sc, .slice ra t.rs.length rc] 71))).look HOK.out.ok.nm
      try dsimp only at hr
      have Ba := hB.out
      have xa := Ba.cellF
      have ya := Ba.frz
      have za : w.heap.size < wr.heap.size := Ba.lt
      cases q0 : named (l.take j) t.name with
      | true =>
        rw [q0] at hr
        have HF : Hid (goodB l = false) := hid (by rw [HX.out, hg.out, HST.out]; simp [stepB, q0])
        go_wp2
        go_ret
        exact ⟨ret_bool HF.out.symm, by have := hb.out; exact blBy⟩
      | false =>
      rw [q0] at hr
      go_wp2_with fail
      refine (isFullNameT _ t _ _ _ _ m (cell_below HM.out (by have := hb.out; exact blBy)) HOK.out.ok.nm.1 HOK.out.nl).mono ?_
      rintro e w1 ⟨rfl, hb1⟩
      have Bb : Blk (wr.alloc (.cells #[.string (strOfNums t.name), .bool t.enum, .slice fa t.fs.length fc, .slice oa t.os.length oc, .slice sa t.ss.length sc, .slice ra t.rs.length rc] 71)) wr.heap.size 71 #[.string (strOfNums t.name), .bool t.enum, .slice fa t.fs.length fc, .slice oa t.os.length oc, .slice sa t.ss.length sc, .slice ra t.rs.length rc] := Blk.new _ _ _
      have Ba := Ba.kept (below_alloc (.cells #[.string (strOfNums t.name), .bool t.enum, .slice fa t.fs.length fc, .slice oa t.os.length oc, .slice sa t.ss.length sc, .slice ra t.rs.length rc] 71))
      replace HKN := hid (HKN.out.kept (below_alloc (.cells #[.string (strOfNums t.name), .bool t.enum, .slice fa t.fs.length fc, .slice oa t.os.length oc, .slice sa t.ss.length sc, .slice ra t.rs.length rc] 71)))
      have xb : True := trivial
      have yb : True := trivial
      have zb : True := trivial
      clear hr
      replace Ba : Blk w1 w.heap.size 46 #[.slice (some ⟨tb, tof, none⟩) l.length tc] := Blk.kept (Ba.is (by first | rfl | simp)) hb1
      replace Bb : Blk w1 wr.heap.size 71 #[.string (strOfNums t.name), .bool t.enum, .slice fa t.fs.length fc, .slice oa t.os.length oc, .slice sa t.ss.length sc, .slice ra t.rs.length rc] := Blk.kept (Bb.is (by first | rfl | simp)) hb1
      replace HKN := hid (HKN.out.kept hb1)
      clear xa ya xb yb
      have hs1 := hb1.size
      try simp at hs1
      have xa := Ba.cellF
      have ya := Ba.frz
      replace za : w.heap.size < w1.heap.size := by omega
      have xb := Bb.cellF
      have yb := Bb.frz
      replace zb : wr.heap.size < w1.heap.size := by omega
      replace hb1 : Hid (Below w.heap.size w w1) := hid (bl_then (by have := hb.out; exact blBy) hb1)
      cases q1 : fullB t with
      | false =>
        have HF : Hid (goodB l = false) := hid (by rw [HX.out, hg.out, HST.out]; simp [stepB, q0, q1])
        go_wp2
        go_ret
        exact ⟨ret_bool HF.out.symm, by have := hb1.out; exact blBy⟩
      | true =>
      go_wp2_with fail
      refine (standsRightT _ l _ tc (w.heap.size + 1) j t.name (HT.out.kept (by have := hb1.out; exact blBy)) HKN.out HOK.out.ok.nm HOK.out.nl).mono ?_
      rintro e w2 ⟨rfl, hb2⟩
      replace Ba : Blk w2 w.heap.size 46 #[.slice (some ⟨tb, tof, none⟩) l.length tc] := Blk.kept (Ba.is (by first | rfl | simp)) hb2
      replace Bb : Blk w2 wr.heap.size 71 #[.string (strOfNums t.name), .bool t.enum, .slice fa t.fs.length fc, .slice oa t.os.length oc, .slice sa t.ss.length sc, .slice ra t.rs.length rc] := Blk.kept (Bb.is (by first | rfl | simp)) hb2
      replace HKN := hid (HKN.out.kept hb2)
      clear xa ya xb yb
      have hs2 := hb2.size
      try simp at hs2
      have xa := Ba.cellF
      have ya := Ba.frz
      replace za : w.heap.size < w2.heap.size := by omega
      have xb := Bb.cellF
      have yb := Bb.frz
      replace zb : wr.heap.size < w2.heap.size := by omega
      replace hb2 : Hid (Below w.heap.size w w2) := hid (bl_then hb1.out hb2)
      cases q2 : standB l j t.name with
      | false =>
        have HF : Hid (goodB l = false) := hid (by rw [HX.out, hg.out, HST.out]; simp [stepB, q0, q1, q2])
        go_wp2
        go_ret
        exact ⟨ret_bool HF.out.symm, by have := hb2.out; exact blBy⟩
      | true =>
      go_wp2_with fail
      refine (isGoodTypeT _ l _ tc t fa oa sa ra fc oc sc rc (HT.out.kept (by have := hb2.out; exact blBy)) (HTY.out.kept (by have := hb2.out; exact blBy)) HOK.out.ok HOK.out.sz).mono ?_
      rintro e w3 ⟨rfl, hb3⟩
      replace Ba : Blk w3 w.heap.size 46 #[.slice (some ⟨tb, tof, none⟩) l.length tc] := Blk.kept (Ba.is (by first | rfl | simp)) hb3
      replace Bb : Blk w3 wr.heap.size 71 #[.string (strOfNums t.name), .bool t.enum, .slice fa t.fs.length fc, .slice oa t.os.length oc, .slice sa t.ss.length sc, .slice ra t.rs.length rc] := Blk.kept (Bb.is (by first | rfl | simp)) hb3
      replace HKN := hid (HKN.out.kept hb3)
      clear xa ya xb yb
      have hs3 := hb3.size
      try simp at hs3
      have xa := Ba.cellF
      have ya := Ba.frz
      replace za : w.heap.size < w3.heap.size := by omega
      have xb := Bb.cellF
      have yb := Bb.frz
      replace zb : wr.heap.size < w3.heap.size := by omega
      replace hb3 : Hid (Below w.heap.size w w3) := hid (bl_then hb2.out hb3)
      cases q3 : typB l t with
      | false =>
        have HF : Hid (goodB l = false) := hid (by rw [HX.out, hg.out, HST.out]; simp [stepB, q0, q1, q2, q3])
        go_wp2
        go_ret
        exact ⟨ret_bool HF.out.symm, by have := hb3.out; exact blBy⟩
      | true =>
      obtain ⟨w4, hr4, hk4, hg4⟩ := HPUT.out w3 HKN.out q0
      try dsimp only at hr4
      have HK4 := hid hk4
      have HB4 : Hid (Blk w4 w.heap.size 46 #[.slice (some ⟨tb, tof, none⟩) l.length tc]) := hid ((hg4.block _ za (by simp)).trans Ba)
      have HL4 : Hid (Below w.heap.size w w4) := hid (hb3.out.trans (grown_below hg4 (by omega) (by omega)))
      clear hk4 hg4
      go_wp2
      exact ⟨⟨j + 1, by simp, by omega, hid (by rw [hg.out, HST.out]; simp [stepB, q0, q1, q2, q3]), HK4, HB4, HL4⟩, by simp [numAt]; omega⟩
    · have h3 : ¬ (j : Int) < (l.length : Int) := by omega
      have HF : Hid (goodB l = true) := hid (by rw [HX.out, hg.out, List.drop_of_length_le (by omega)]; rfl)
      go_wp2
      go_ret
      exact ⟨ret_bool HF.out.symm, hb.out⟩
def nameP (nm : List Int) (v : TV) : Bool := decide (v.t.name = nm)
theorem fnd_ge {α : Type} (p : α → Bool) : ∀ (l : List α) (i : Nat), fnd p l i < 0 → fnd p l i = -1
  | [], i, _ => rfl
  | x :: r, i, h => by
    rw [fnd] at h ⊢
    split at h
    · omega
    · rename_i q
      rw [if_neg q]
      exact fnd_ge p r (i + 1) h
theorem rowOf {w : World} {b : Nat} {t : TypeId} {cs : Array Value} (B : Blk w b t cs) (k n : Nat) (fl : List Value) (h : cs = fl.toArray) (hl : fl.length = n * k) (hn : n ≤ 9223372036854775807) : RowS w AnyZ k (.slice (some ⟨b, 0, none⟩) n n) n fl :=
  ⟨some ⟨b, 0, none⟩, n, rfl, hl, Nat.le_refl _, hn, .inr ⟨b, 0, rfl, trivial, fun j u hu => by
    rw [Nat.zero_add]
    exact B.cell j u (by rw [h, List.getElem?_toArray]; exact hu)⟩⟩
def simE (h : Nat) : TV := ⟨⟨[69], true, [], [], [⟨[65], 0⟩], []⟩, .slice none 0 0, .slice none 0 0, .slice (some ⟨h + 1, 0, none⟩) 1 1, .slice none 0 0⟩
def simF : List FT := [⟨[120], 1, 2, 0, 0, 0, 0⟩, ⟨[108], 2, 4, 0, 3, 0, 0⟩, ⟨[109], 3, 17, 1, 1, 0, 0⟩]
def simM (h : Nat) : TV := ⟨⟨[77], false, simF, [], [], []⟩, .slice (some ⟨h + 1 + 1, 0, none⟩) 3 3, .slice none 0 0, .slice none 0 0, .slice none 0 0⟩
def simL (h : Nat) : List TV := [simE h, simM h]
theorem simpleW (w : World) : Calls Tryz.prog 16 #[] w fun e w' => e = .returned (.agg #[.slice (some ⟨w.heap.size + 1 + 1 + 1, 0, none⟩) (simL w.heap.size).length 2]) ∧ TbR w' (.slice (some ⟨w.heap.size + 1 + 1 + 1, 0, none⟩) (simL w.heap.size).length 2) (simL w.heap.size) ∧ Below w.heap.size w w' := by
  have HT : Hid (∀ W : World, Blk W (w.heap.size + 1) 80 #[.string ⟨#[65]⟩, .int .i64 0] → Blk W (w.heap.size + 1 + 1) 82 #[.string ⟨#[120]⟩, .int .i64 1, .int .i64 2, .int .i64 0, .int .i64 0, .int .i64 0, .int .i64 0, .string ⟨#[108]⟩, .int .i64 2, .int .i64 4, .int .i64 0, .int .i64 3, .int .i64 0, .int .i64 0, .string ⟨#[109]⟩, .int .i64 3, .int .i64 17, .int .i64 1, .int .i64 1, .int .i64 0, .int .i64 0] → Blk W (w.heap.size + 1 + 1 + 1) 71 #[.string ⟨#[69]⟩, .bool true, .slice none 0 0, .slice none 0 0, .slice (some ⟨w.heap.size + 1, 0, none⟩) 1 1, .slice none 0 0, .string ⟨#[77]⟩, .bool false, .slice (some ⟨w.heap.size + 1 + 1, 0, none⟩) 3 3, .slice none 0 0, .slice none 0 0, .slice none 0 0] → TbR W (.slice (some ⟨w.heap.size + 1 + 1 + 1, 0, none⟩) (simL w.heap.size).length 2) (simL w.heap.size)) := hid fun W B1 B2 B3 => by
    refine ⟨rowOf B3 6 2 _ rfl rfl (by decide), fun x hx => ?_⟩
    rcases List.mem_cons.1 hx with rfl | hx
    · exact ⟨rowS_nil _ _ _, rowS_nil _ _ _, rowOf B1 2 1 _ rfl rfl (by decide), rowS_nil _ _ _⟩
    · rcases List.mem_cons.1 hx with rfl | hx
      · exact ⟨rowOf B2 7 3 _ rfl rfl (by decide), rowS_nil _ _ _, rowS_nil _ _ _, rowS_nil _ _ _⟩
      · cases hx
  go_enter Tryz.func16, Tryz.ntmps16
  go_wp2
  refine bodyPost_ret (v := .agg #[.slice (some ⟨w.heap.size + 1 + 1 + 1, 0, none⟩) 2 2]) (by simp [results, Tryz.results16, go_sem]) rfl ⟨rfl, HT.out _ ?_ ?_ ?_, by exact blBy⟩
  · exact ((Blk.newAt (by simp)).kept (below_alloc _)).kept (below_alloc _)
  · exact (Blk.newAt (by simp)).kept (below_alloc _)
  · exact Blk.newAt (by simp)
theorem simGood (h : Nat) : goodB (simL h) = true := by kernel_rfl
theorem simOk (h : Nat) : ∀ x ∈ simL h, OkV x := by
  have tx : ∀ n : List Int, n ∈ ([[69], [77], [65], [120], [108], [109]] : List (List Int)) → TxA n := by
    intro n hn
    simp only [List.mem_cons, List.not_mem_nil, or_false] at hn
    rcases hn with rfl | rfl | rfl | rfl | rfl | rfl <;> exact ⟨by decide, by decide⟩
  intro x hx
  rcases List.mem_cons.1 hx with rfl | hx
  · refine ⟨⟨tx _ (by simp [simE]), by simp [simE], by simp [simE], fun s hs => ?_⟩, by simp [simE], by simp [simE]⟩
    simp [simE] at hs
    subst hs
    exact ⟨tx _ (by simp), by unfold I64; decide⟩
  · rcases List.mem_cons.1 hx with rfl | hx
    · refine ⟨⟨tx _ (by simp [simM]), fun f hf => ?_, by simp [simM], by simp [simM]⟩, by simp [simM], by simp [simM, simF]⟩
      simp [simM, simF] at hf
      rcases hf with rfl | rfl | rfl <;> exact tx _ (by simp)
    · cases hx
theorem fieldOfOk (fs : List FT) (n : Int) (w : World) (a : Option Addr) (c : Nat) (h : RowS w AnyZ 7 (.slice a fs.length c) fs.length (fs.flatMap cFT)) (hr : Rise fs) (hl : fs.length ≤ 128) (k : Nat) (hk : k < fs.length) (hn : fs[k].num = n) : Calls Tryz.prog 89 #[.slice a fs.length c, .int .i64 n] w fun e w' => e = .returned (.tuple #[.agg #[.string (strOfNums fs[k].name), .int .i64 fs[k].num, .int .i64 fs[k].kind, .int .i64 fs[k].ref, .int .i64 fs[k].lab, .int .i64 fs[k].one, .int .i64 fs[k].key], .bool true]) ∧ Below w.heap.size w w' := by
  have HL : Hid (∀ W, Below w.heap.size w W → Calls Tryz.prog 121 #[.slice a fs.length c, .int .i64 n] W fun e w' => e = .returned (.tuple #[.agg #[.string (strOfNums fs[k].name), .int .i64 fs[k].num, .int .i64 fs[k].kind, .int .i64 fs[k].ref, .int .i64 fs[k].lab, .int .i64 fs[k].one, .int .i64 fs[k].key], .bool true]) ∧ Below W.heap.size W w') := hid fun W hW => ((lastUpToT fs n W a c (h.kept hW) hr hl).mono fun e w' hq => by
    rcases hq with ⟨⟨_, h1⟩ | ⟨j, hj, e1, h1, h2⟩, hb⟩
    · have := h1 k hk; omega
    · have ej : j = k := by
        rcases Nat.lt_trichotomy j k with q | q | q
        · have := h2 k q hk; omega
        · exact q
        · have := hr k j q hj hk; omega
      subst ej
      exact ⟨e1, hb⟩)
  clear h hr
  subst hn
  generalize fs[k] = f at *
  have kq : (f.num == f.num) = true := by simp
  go_enter Tryz.func89, Tryz.ntmps89
  go_wp2_with fail
  refine (HL.out _ (by exact blBy)).mono ?_
  rintro e w1 ⟨rfl, hb1⟩
  have Br : Blk w1 w.heap.size 82 #[.string ⟨#[]⟩, .int .i64 0, .int .i64 0, .int .i64 0, .int .i64 0, .int .i64 0, .int .i64 0] := (Blk.new _ _ _).kept hb1
  replace hb1 : Hid (Below w.heap.size w w1) := hid (bl_then (by exact blBy) hb1)
  have xr := Br.cellF
  have yr := Br.frz
  have zr := Br.lt
  go_wp2
  exact bodyPost_ret (v := .tuple #[.agg #[.string (strOfNums f.name), .int .i64 f.num, .int .i64 f.kind, .int .i64 f.ref, .int .i64 f.lab, .int .i64 f.one, .int .i64 f.key], .bool true]) (by simp [results, Tryz.results89, go_sem, xr, zr, yr]) rfl ⟨rfl, by have := hb1.out; exact blBy⟩
def isB (l : List TV) (idx : Int) (sort : Bool) : Bool := goodB l && (decide (0 ≤ idx) && (match l[idx.toNat]? with | some x => x.t.enum == sort | none => false))
def aFT (f : FT) : Value := .agg #[.string (strOfNums f.name), .int .i64 f.num, .int .i64 f.kind, .int .i64 f.ref, .int .i64 f.lab, .int .i64 f.one, .int .i64 f.key]
def ftZ : FT := ⟨[], 0, 0, 0, 0, 0, 0⟩
theorem fieldOfNo (fs : List FT) (n : Int) (w : World) (a : Option Addr) (c : Nat) (h : RowS w AnyZ 7 (.slice a fs.length c) fs.length (fs.flatMap cFT)) (hr : Rise fs) (hl : fs.length ≤ 128) (hno : ∀ f ∈ fs, f.num ≠ n) : Calls Tryz.prog 89 #[.slice a fs.length c, .int .i64 n] w fun e w' => e = .returned (.tuple #[.agg #[.string ⟨#[]⟩, .int .i64 0, .int .i64 0, .int .i64 0, .int .i64 0, .int .i64 0, .int .i64 0], .bool false]) ∧ Below w.heap.size w w' := by
  have HL : Hid (∀ W, Below w.heap.size w W → Calls Tryz.prog 121 #[.slice a fs.length c, .int .i64 n] W fun e w' => (∃ (g : FT) (ok : Bool), e = .returned (.tuple #[.agg #[.string (strOfNums g.name), .int .i64 g.num, .int .i64 g.kind, .int .i64 g.ref, .int .i64 g.lab, .int .i64 g.one, .int .i64 g.key], .bool ok]) ∧ Hid (ok = true → (g.num == n) = false)) ∧ Below W.heap.size W w') := hid fun W hW => ((lastUpToT fs n W a c (h.kept hW) hr hl).mono fun e w' hq => by
    rcases hq with ⟨⟨e1, _⟩ | ⟨j, hj, e1, h1, h2⟩, hb⟩
    · exact ⟨⟨ftZ, false, e1, hid (fun q => by cases q)⟩, hb⟩
    · exact ⟨⟨fs[j], true, e1, hid (fun _ => by rw [beq_eq_false_iff_ne]; exact hno _ (List.getElem_mem hj))⟩, hb⟩)
  clear h hr hno
  go_enter Tryz.func89, Tryz.ntmps89
  go_wp2_with fail
  refine (HL.out _ (by exact blBy)).mono ?_
  rintro e w1 ⟨⟨f, ok, rfl, hok⟩, hb1⟩
  have Br : Blk w1 w.heap.size 82 #[.string ⟨#[]⟩, .int .i64 0, .int .i64 0, .int .i64 0, .int .i64 0, .int .i64 0, .int .i64 0] := (Blk.new _ _ _).kept hb1
  replace hb1 : Hid (Below w.heap.size w w1) := hid (bl_then (by exact blBy) hb1)
  have xr := Br.cellF
  have yr := Br.frz
  have zr := Br.lt
  cases ok with
  | false =>
    go_wp2
    exact bodyPost_ret (v := .tuple #[.agg #[.string ⟨#[]⟩, .int .i64 0, .int .i64 0, .int .i64 0, .int .i64 0, .int .i64 0, .int .i64 0], .bool false]) (by simp [results, Tryz.results89, go_sem, xr, zr, yr]) rfl ⟨rfl, by have := hb1.out; exact blBy⟩
  | true =>
    have kq := hok.out rfl
    go_wp2
    exact bodyPost_ret (v := .tuple #[.agg #[.string ⟨#[]⟩, .int .i64 0, .int .i64 0, .int .i64 0, .int .i64 0, .int .i64 0, .int .i64 0], .bool false]) (by simp [results, Tryz.results89, go_sem, xr, zr, yr]) rfl ⟨rfl, by have := hb1.out; exact blBy⟩
theorem good_at {l : List TV} (hg : goodB l = true) {k : Nat} (hk : k < l.length) : stepB l k l[k].t = true := by
  unfold goodB at hg
  rw [Bool.and_eq_true] at hg
  have : ∀ (r : List TV) (i j : Nat), goodA l r i = true → (hj : j < r.length) → stepB l (i + j) r[j].t = true := by
    intro r
    induction r with
    | nil => intro i j _ hj; simp at hj
    | cons x r ih =>
      intro i j h hj
      rw [goodA, Bool.and_eq_true] at h
      cases j with
      | zero => exact h.1
      | succ j =>
        have := ih (i + 1) j h.2 (by simpa using hj)
        rw [show i + (j + 1) = i + 1 + j by omega]
        exact this
  have := this l 0 k hg.2 hk
  rw [Nat.zero_add] at this
  exact this
theorem good_msg {l : List TV} (hg : goodB l = true) {k : Nat} (hk : k < l.length) (he : l[k].t.enum = false) : Rise l[k].t.fs ∧ l[k].t.fs.length ≤ 128 := by
  have h := good_at hg hk
  unfold stepB typB msgB at h
  rw [he] at h
  simp only [Bool.and_eq_true, decide_eq_true_eq] at h
  have h2 := h.2.2.2
  simp only [Bool.false_eq_true, if_false, Bool.and_eq_true, decide_eq_true_eq] at h2
  exact ⟨(rise_all _ 0 h2.2.2.2.1).2, h2.2.1.1⟩
theorem isB_at {l : List TV} {idx : Int} {sort : Bool} (h : isB l idx sort = true) : ∃ (k : Nat) (hk : k < l.length), idx = (k : Int) ∧ goodB l = true ∧ l[k].t.enum = sort := by
  unfold isB at h
  simp only [Bool.and_eq_true, decide_eq_true_eq] at h
  obtain ⟨h1, h2, h3⟩ := h
  obtain ⟨k, rfl⟩ := Int.eq_ofNat_of_zero_le h2
  rw [Int.toNat_natCast] at h3
  by_cases hk : k < l.length
  · rw [List.getElem?_eq_getElem hk] at h3
    exact ⟨k, hk, rfl, h1, by simpa using h3⟩
  · rw [List.getElem?_eq_none (by omega)] at h3
    cases h3
section
variable (f : FT) (w : World)
end
theorem fnd_find {α : Type} (p : α → Bool) : ∀ (l : List α) (i : Nat), (fnd p l i < 0 ∧ l.find? p = none) ∨ ∃ (j : Nat) (hj : j < l.length), fnd p l i = ((i + j : Nat) : Int) ∧ l.find? p = some l[j]
  | [], i => .inl ⟨by simp [fnd], rfl⟩
  | x :: r, i => by
    rw [fnd, List.find?_cons]
    by_cases h : p x = true
    · rw [if_pos h, h]
      exact .inr ⟨0, by simp, by simp, rfl⟩
    · rw [if_neg h, Bool.eq_false_iff.2 h]
      rcases fnd_find p r (i + 1) with ⟨h1, h2⟩ | ⟨j, hj, h1, h2⟩
      · exact .inl ⟨h1, h2⟩
      · exact .inr ⟨j + 1, by simp; omega, by rw [h1]; congr 1; omega, by simpa using h2⟩
def ZofA (w : World) (Y : Nat → Prop) (v : Value) (b : Nat) : Prop := Y b ∧ b < w.heap.size ∧ v.ownBlock ≠ some b
def OwnA {α : Type} (w : World) (base : Nat) (Y : Nat → Prop) (t : TypeId) (k : Nat) (E : World → (Nat → Prop) → List Value → α → Prop) (v : Value) (xs : List α) : Prop :=
  ∃ ts : List (Tup k), w.ownsRow base t k v xs.length (ts.flatMap Subtype.val) ∧ ts.length = xs.length ∧ ∀ (i : Nat) (t : Tup k) (x : α), ts[i]? = some t → xs[i]? = some x → E w (ZofA w Y v) t.1 x
theorem OwnA.nil {α : Type} (w : World) (base : Nat) (Y : Nat → Prop) (t : TypeId) (k : Nat) (E : World → (Nat → Prop) → List Value → α → Prop) : OwnA w base Y t k E (.slice none 0 0) [] := ⟨[], World.ownsRow_nil _ _ _ _, rfl, fun i t x ht => by simp at ht⟩
theorem OwnA.shape {α : Type} {w : World} {base : Nat} {Y : Nat → Prop} {t : TypeId} {k : Nat} {E : World → (Nat → Prop) → List Value → α → Prop} {v : Value} {xs : List α} (h : OwnA w base Y t k E v xs) : ∃ a c, v = .slice a xs.length c := by
  obtain ⟨ts, h1, _⟩ := h
  exact own_shape h1
theorem OwnA.own {α : Type} {w : World} {base : Nat} {Y : Nat → Prop} {t : TypeId} {k : Nat} {E : World → (Nat → Prop) → List Value → α → Prop} {v : Value} {xs : List α} (h : OwnA w base Y t k E v xs) {b : Nat} (hb : v.ownBlock = some b) : base ≤ b ∧ b < w.heap.size := by
  obtain ⟨ts, h1, _⟩ := h
  have := own_type h1 hb
  exact ⟨this.1, this.2.1⟩
theorem OwnA.kept {α : Type} {w w' : World} {base : Nat} {Y : Nat → Prop} {t : TypeId} {k : Nat} {E : World → (Nat → Prop) → List Value → α → Prop} (F : Fam k E) {v : Value} {xs : List α} (h : OwnA w base Y t k E v xs) (hb : Below w.heap.size w w') : OwnA w' base Y t k E v xs := by
  obtain ⟨ts, h1, h2, h3⟩ := h
  exact ⟨ts, own_kept h1 hb, h2, fun i t x ht hx => F.go (h3 i t x ht hx) (keepT hb) (fun _ _ => trivial) (fun b hz => ⟨hz.1, Nat.lt_of_lt_of_le hz.2.1 hb.size, hz.2.2⟩)⟩
theorem OwnA.row {α : Type} {w : World} {base : Nat} {Y : Nat → Prop} {t : TypeId} {k : Nat} {E : World → (Nat → Prop) → List Value → α → Prop} (F : Fam k E) {v : Value} {xs : List α} (h : OwnA w base Y t k E v xs) (hn : xs.length ≤ 4000000) : RowM w (fun b => Y b ∨ base ≤ b) k (E w (fun b => Y b ∨ base ≤ b)) v xs := by
  obtain ⟨ts, h1, h2, h3⟩ := h
  exact ⟨ts, own_row h1 (fun b hb => Or.inr (own_type h1 hb).1), h2, hn, fun i t x ht hx => F.go (h3 i t x ht hx) (Keep.refl (fun _ => True) w) (fun _ _ => trivial) (fun b hz => Or.inl hz.1)⟩
theorem OwnA.push {α : Type} {k : Nat} {E : World → (Nat → Prop) → List Value → α → Prop} (F : Fam k E) (t ts : TypeId) (bytes : Nat) (z : Value) (hts : Tryz.prog.underlying ts = some (.slice t)) (hinfo : (Tryz.prog.info? t).map (fun i => (i.zero, i.size, i.bytes)) = some (some z, k, bytes)) (hzs : z.cells.size = k) (h0 : 0 < k) (hby : bytes ≤ 400)
    {base : Nat} {Y : Nat → Prop} {v : Value} {xs : List α} {w : World} {cs : List Value} {x : α} (h : OwnA w base Y t k E v xs) (hx : E w (ZofA w Y v) cs x) (hb : base ≤ w.heap.size) (hn : xs.length ≤ 4000000) :
    ∃ a c w', Hid ((Builtin.append_ #[ts, ts] ts #[v, .slice (some ⟨w.heap.size, 0, none⟩) 1 1]).run Tryz.prog (w.alloc (.cells cs.toArray t)) = .ok (.slice a (xs.length + 1) c) w') ∧ Hid (OwnA w' base Y t k E (.slice a (xs.length + 1) c) (xs ++ [x])) ∧ Hid (Grow w w' v (.slice a (xs.length + 1) c)) := by
  obtain ⟨us, h1, h2, h3⟩ := h
  obtain ⟨v', w', r1, r2, r3⟩ := append_st t ts k bytes z hts hinfo hzs h0 hby base v xs.length (us.flatMap Subtype.val) w cs.toArray (by simp [F.len hx]) (by simpa using F.one hx) h1 hb hn
  obtain ⟨a, c, rfl⟩ := own_shape r2
  refine ⟨a, c, w', hid r1, hid ⟨us ++ [⟨cs, F.len hx⟩], ?_, by simp [h2], ?_⟩, hid r3⟩
  · rw [List.length_append, List.flatMap_append]
    simpa using r2
  · have hz : ∀ b, ZofA w Y v b → ZofA w' Y (.slice a (xs.length + 1) c) b := fun b hzb => by
      refine ⟨hzb.1, Nat.lt_of_lt_of_le hzb.2.1 r3.size, ?_⟩
      intro e
      rcases r3.own with q | q
      · rw [q] at e; exact hzb.2.2 e
      · have := q b e; have := hzb.2.1; omega
    have hk : Keep (fun b => v.ownBlock ≠ some b) w w' := Keep.ofGrow r3 (fun _ hk => hk)
    intro i u y hu hy
    by_cases hi : i < us.length
    · rw [List.getElem?_append_left hi] at hu
      rw [List.getElem?_append_left (by omega)] at hy
      exact F.go (h3 i u y hu hy) hk (fun b hz => hz.2.2) hz
    · have ei : i = us.length := by
        have := (List.getElem?_eq_some_iff.1 hu).1
        simp at this
        omega
      subst ei
      rw [List.getElem?_append_right (Nat.le_refl _), Nat.sub_self] at hu
      rw [h2, List.getElem?_append_right (Nat.le_refl _), Nat.sub_self] at hy
      simp at hu hy
      subst hu hy
      exact F.go hx hk (fun b hz => hz.2.2) hz
theorem OwnA.bel {α : Type} {w w' : World} {base : Nat} {Y : Nat → Prop} {t : TypeId} {k : Nat} {E : World → (Nat → Prop) → List Value → α → Prop} {v v' : Value} {xs : List α} (h : OwnA w base Y t k E v xs) (g : Grow w w' v v') {B : Nat} (hB : B ≤ base) (hs : B ≤ w.heap.size) : Below B w w' := g.below hs (fun b hb => Nat.le_trans hB (h.own hb).1)
theorem zofA_old {α : Type} {w w1 w2 : World} {Z : Nat → Prop} {t : TypeId} {k : Nat} {E : World → (Nat → Prop) → List Value → α → Prop} (F : Fam k E) {v : Value} {xs : List α} (h : OwnA w1 w.heap.size Z t k E v xs) {cs : List Value} {x : α} (hx : E w Z cs x) (hb : Below w.heap.size w w2) : E w2 (ZofA w2 Z v) cs x :=
  F.go (F.old hx) (keepT hb) (fun _ _ => trivial) (fun b hz => ⟨hz.1, Nat.lt_of_lt_of_le hz.2 hb.size, fun e => by have := (h.own e).1; have := hz.2; omega⟩)
theorem fl_le {α : Type} {xs : List α} {P : α → Bool} (h : xs.length ≤ 4000000) : (xs.filter P).length ≤ 4000000 := Nat.le_trans (List.length_filter_le _ _) h
theorem fl_len {α : Type} {xs : List α} {P : α → Bool} (h : xs.length ≤ 4000000) (j : Nat) : ((xs.take j).filter P).length ≤ 4000000 := Nat.le_trans (List.length_filter_le _ _) (by rw [List.length_take]; omega)
theorem RowM.el {α : Type} {w : World} {Z : Nat → Prop} {k : Nat} {E : List Value → α → Prop} {v : Value} {xs : List α} (h : RowM w Z k E v xs) (hk : 0 < k) {i : Nat} (hi : i < xs.length) {cs : List Value} (hl : cs.length = k) {a : Option Addr} {n c b o : Nat} (ev : v = .slice a n c) (ea : a = some ⟨b, o, none⟩) (hc : ∀ j u, cs[j]? = some u → w.cell? ⟨b, o + i * k + j, none⟩ = some u) : E cs xs[i] := by
  subst ev
  obtain ⟨b', o', cs', e, -, -, hl', he, hc'⟩ := RowM.at h hk hi
  rw [ea] at e
  cases e
  have : cs = cs' := by
    apply List.ext_getElem?
    intro j
    by_cases hj : j < k
    · have e1 := hc j _ (List.getElem?_eq_getElem (show j < cs.length by omega))
      have e2 := hc' j _ (List.getElem?_eq_getElem (show j < cs'.length by omega))
      rw [e1] at e2
      rw [List.getElem?_eq_getElem (show j < cs.length by omega), List.getElem?_eq_getElem (show j < cs'.length by omega)]
      exact e2
    · rw [List.getElem?_eq_none (by omega), List.getElem?_eq_none (by omega)]
  rw [this]
  exact he
theorem everyF (w : World) (Z : Nat → Prop) (d : Nat) (xs : List (CF CM)) (a : Option Addr) (c : Nat) (h : FlsR w Z d (.slice a xs.length c) xs) (fn : FuncId) (caps : Array Value) (hcf : ∀ (args : Array Value) (W : World), (callFunc fn args).run Tryz.prog W = .ok (.enter fn args) W) (P : CF CM → Bool)
    (hf : ∀ (W : World), Below w.heap.size w W → ∀ (cs : List Value) (x : CF CM), x ∈ xs → FmF d W Z cs x → Calls Tryz.prog fn (#[.agg cs.toArray] ++ caps) W fun e w' => e = .returned (.bool (P x)) ∧ Below W.heap.size W w') : Calls Tryz.prog 129 #[.slice a xs.length c, .func (.func fn) #[] caps] w fun e w' => e = .returned (.bool (xs.all P)) ∧ Below w.heap.size w w' := by
  obtain ⟨_, _, e1, l1⟩ := RowM.sl h
  clear e1
  have m1 : (xs.length : Int) ≤ 9223372036854775807 := by omega
  have H1 := hid h
  have HF := hid hf
  clear h hf
  go_enter Tryz.func129, Tryz.ntmps129
  go_wp2
  go_loopw [9] (fun s9 wr => ∃ j : Nat, s9 = .int .i64 j ∧ j ≤ xs.length ∧ Hid (xs.all P = (xs.drop j).all P) ∧ Hid (Below w.heap.size w wr)) (fun s9 wr => xs.length - numAt wr s9)
  case atStart => exact ⟨0, rfl, by omega, hid rfl, hid (Below.refl _ _)⟩
  case round =>
    obtain ⟨j, rfl, hj, HA, hb⟩ := hrel
    by_cases hlt : j < xs.length
    · have k2 : (j : Int) < (xs.length : Int) := by omega
      obtain ⟨b1, o1, ka1, kc1, va1, vc1, rfl, -, hb1, c0, c1, c2, he⟩ := fls_at (H1.out.kept hb.out) hlt
      have HE := hid he
      have HD : Hid ((xs.drop j).all P = (P xs[j] && (xs.drop (j + 1)).all P)) := hid (by rw [List.drop_eq_getElem_cons hlt, List.all_cons])
      have HME := hid (List.getElem_mem hlt)
      clear he
      generalize xs[j] = x at *
      go_wp2_with fail
      refine (HF.out _ (by have := hb.out; exact blBy) [.int .i64 x.num, .slice ka1 x.ks.length kc1, .slice va1 x.vs.length vc1] x HME.out (Fam.go (famF d) HE.out (keepT (below_alloc _)) (fun _ _ => trivial) (fun _ h => h))).mono ?_
      rintro e w1 ⟨rfl, hbx⟩
      have hbw : Hid (Below w.heap.size w w1) := hid (bl_then (by have := hb.out; exact blBy) hbx)
      clear hbx c0 c1 c2
      cases hq : P x with
      | false =>
        have HX : Hid (xs.all P = false) := hid (by rw [HA.out, HD.out, hq]; rfl)
        go_wp2
        go_ret
        exact ⟨ret_bool HX.out.symm, hbw.out⟩
      | true =>
        have HX : Hid (xs.all P = (xs.drop (j + 1)).all P) := hid (by rw [HA.out, HD.out, hq]; rfl)
        go_wp2
        exact ⟨⟨j + 1, by simp, by omega, HX, hbw⟩, by simp [numAt]; omega⟩
    · have k2 : ¬ (j : Int) < (xs.length : Int) := by omega
      have HX : Hid (xs.all P = true) := hid (by rw [HA.out, List.drop_of_length_le (by omega)]; rfl)
      go_wp2
      go_ret
      exact ⟨ret_bool HX.out.symm, hb.out⟩
theorem everyE (w : World) (Z : Nat → Prop) (xs : List (CE)) (a : Option Addr) (c : Nat) (h : EnsR w Z (.slice a xs.length c) xs) (fn : FuncId) (caps : Array Value) (hcf : ∀ (args : Array Value) (W : World), (callFunc fn args).run Tryz.prog W = .ok (.enter fn args) W) (P : CE → Bool)
    (hf : ∀ (W : World), Below w.heap.size w W → ∀ (cs : List Value) (x : CE), x ∈ xs → FmE W Z cs x → Calls Tryz.prog fn (#[.agg cs.toArray] ++ caps) W fun e w' => e = .returned (.bool (P x)) ∧ Below W.heap.size W w') : Calls Tryz.prog 131 #[.slice a xs.length c, .func (.func fn) #[] caps] w fun e w' => e = .returned (.bool (xs.all P)) ∧ Below w.heap.size w w' := by
  obtain ⟨_, _, e1, l1⟩ := RowM.sl h
  clear e1
  have m1 : (xs.length : Int) ≤ 9223372036854775807 := by omega
  have H1 := hid h
  have HF := hid hf
  clear h hf
  go_enter Tryz.func131, Tryz.ntmps131
  go_wp2
  go_loopw [9] (fun s9 wr => ∃ j : Nat, s9 = .int .i64 j ∧ j ≤ xs.length ∧ Hid (xs.all P = (xs.drop j).all P) ∧ Hid (Below w.heap.size w wr)) (fun s9 wr => xs.length - numAt wr s9)
  case atStart => exact ⟨0, rfl, by omega, hid rfl, hid (Below.refl _ _)⟩
  case round =>
    obtain ⟨j, rfl, hj, HA, hb⟩ := hrel
    by_cases hlt : j < xs.length
    · have k2 : (j : Int) < (xs.length : Int) := by omega
      obtain ⟨b1, o1, ka1, kc1, rfl, -, hb1, c0, c1, c2, c3, he⟩ := ens_at (H1.out.kept hb.out) hlt
      have HE := hid he
      have HD : Hid ((xs.drop j).all P = (P xs[j] && (xs.drop (j + 1)).all P)) := hid (by rw [List.drop_eq_getElem_cons hlt, List.all_cons])
      have HME := hid (List.getElem_mem hlt)
      clear he
      generalize xs[j] = x at *
      go_wp2_with fail
      refine (HF.out _ (by have := hb.out; exact blBy) [.int .i64 x.num, .int .i64 x.kind, .int .u64 x.n, .slice ka1 x.b.length kc1] x HME.out (Fam.go (famE) HE.out (keepT (below_alloc _)) (fun _ _ => trivial) (fun _ h => h))).mono ?_
      rintro e w1 ⟨rfl, hbx⟩
      have hbw : Hid (Below w.heap.size w w1) := hid (bl_then (by have := hb.out; exact blBy) hbx)
      clear hbx c0 c1 c2 c3
      cases hq : P x with
      | false =>
        have HX : Hid (xs.all P = false) := hid (by rw [HA.out, HD.out, hq]; rfl)
        go_wp2
        go_ret
        exact ⟨ret_bool HX.out.symm, hbw.out⟩
      | true =>
        have HX : Hid (xs.all P = (xs.drop (j + 1)).all P) := hid (by rw [HA.out, HD.out, hq]; rfl)
        go_wp2
        exact ⟨⟨j + 1, by simp, by omega, HX, hbw⟩, by simp [numAt]; omega⟩
    · have k2 : ¬ (j : Int) < (xs.length : Int) := by omega
      have HX : Hid (xs.all P = true) := hid (by rw [HA.out, List.drop_of_length_le (by omega)]; rfl)
      go_wp2
      go_ret
      exact ⟨ret_bool HX.out.symm, hb.out⟩
theorem everyV (w : World) (Z : Nat → Prop) (d : Nat) (xs : List (CV CM)) (a : Option Addr) (c : Nat) (h : VlsR w Z d (.slice a xs.length c) xs) (fn : FuncId) (caps : Array Value) (hcf : ∀ (args : Array Value) (W : World), (callFunc fn args).run Tryz.prog W = .ok (.enter fn args) W) (P : CV CM → Bool)
    (hf : ∀ (W : World), Below w.heap.size w W → ∀ (cs : List Value) (x : CV CM), x ∈ xs → FmV d W Z cs x → Calls Tryz.prog fn (#[.agg cs.toArray] ++ caps) W fun e w' => e = .returned (.bool (P x)) ∧ Below W.heap.size W w') : Calls Tryz.prog 157 #[.slice a xs.length c, .func (.func fn) #[] caps] w fun e w' => e = .returned (.bool (xs.all P)) ∧ Below w.heap.size w w' := by
  obtain ⟨_, _, e1, l1⟩ := RowM.sl h
  clear e1
  have m1 : (xs.length : Int) ≤ 9223372036854775807 := by omega
  have H1 := hid h
  have HF := hid hf
  clear h hf
  go_enter Tryz.func157, Tryz.ntmps157
  go_wp2
  go_loopw [9] (fun s9 wr => ∃ j : Nat, s9 = .int .i64 j ∧ j ≤ xs.length ∧ Hid (xs.all P = (xs.drop j).all P) ∧ Hid (Below w.heap.size w wr)) (fun s9 wr => xs.length - numAt wr s9)
  case atStart => exact ⟨0, rfl, by omega, hid rfl, hid (Below.refl _ _)⟩
  case round =>
    obtain ⟨j, rfl, hj, HA, hb⟩ := hrel
    by_cases hlt : j < xs.length
    · have k2 : (j : Int) < (xs.length : Int) := by omega
      obtain ⟨b1, o1, ka1, kc1, va1, vc1, rfl, -, hb1, c0, c1, c2, he⟩ := vls_at (H1.out.kept hb.out) hlt
      have HE := hid he
      have HD : Hid ((xs.drop j).all P = (P xs[j] && (xs.drop (j + 1)).all P)) := hid (by rw [List.drop_eq_getElem_cons hlt, List.all_cons])
      have HME := hid (List.getElem_mem hlt)
      clear he
      generalize xs[j] = x at *
      go_wp2_with fail
      refine (HF.out _ (by have := hb.out; exact blBy) [.int .u64 x.n, .slice ka1 x.b.length kc1, .slice va1 x.ms.length vc1] x HME.out (Fam.go (famV d) HE.out (keepT (below_alloc _)) (fun _ _ => trivial) (fun _ h => h))).mono ?_
      rintro e w1 ⟨rfl, hbx⟩
      have hbw : Hid (Below w.heap.size w w1) := hid (bl_then (by have := hb.out; exact blBy) hbx)
      clear hbx c0 c1 c2
      cases hq : P x with
      | false =>
        have HX : Hid (xs.all P = false) := hid (by rw [HA.out, HD.out, hq]; rfl)
        go_wp2
        go_ret
        exact ⟨ret_bool HX.out.symm, hbw.out⟩
      | true =>
        have HX : Hid (xs.all P = (xs.drop (j + 1)).all P) := hid (by rw [HA.out, HD.out, hq]; rfl)
        go_wp2
        exact ⟨⟨j + 1, by simp, by omega, HX, hbw⟩, by simp [numAt]; omega⟩
    · have k2 : ¬ (j : Int) < (xs.length : Int) := by omega
      have HX : Hid (xs.all P = true) := hid (by rw [HA.out, List.drop_of_length_le (by omega)]; rfl)
      go_wp2
      go_ret
      exact ⟨ret_bool HX.out.symm, hb.out⟩
theorem idxFld (w : World) (Z : Nat → Prop) (d : Nat) (xs : List (CF CM)) (a : Option Addr) (c : Nat) (h : FlsR w Z d (.slice a xs.length c) xs) (fn : FuncId) (caps : Array Value) (hcf : ∀ (args : Array Value) (W : World), (callFunc fn args).run Tryz.prog W = .ok (.enter fn args) W) (P : CF CM → Bool)
    (hf : ∀ (W : World), Below w.heap.size w W → ∀ (cs : List Value) (x : CF CM), x ∈ xs → FmF d W Z cs x → Calls Tryz.prog fn (#[.agg cs.toArray] ++ caps) W fun e w' => e = .returned (.bool (P x)) ∧ Below W.heap.size W w') : Calls Tryz.prog 53 #[.slice a xs.length c, .func (.func fn) #[] caps] w fun e w' => e = .returned (.int .i64 (fnd P xs 0)) ∧ Below w.heap.size w w' := by
  obtain ⟨_, _, e1, l1⟩ := RowM.sl h
  clear e1
  have m1 : (xs.length : Int) ≤ 9223372036854775807 := by omega
  have H1 := hid h
  have HF := hid hf
  clear h hf
  go_enter Tryz.func53, Tryz.ntmps53
  go_wp2
  go_loopw [8] (fun r wr => ∃ j : Nat, r = .int .i64 j ∧ j ≤ xs.length ∧ Hid (fnd P xs 0 = fnd P (xs.drop j) j) ∧ Hid (Below w.heap.size w wr)) (fun r wr => xs.length - numAt wr r)
  case atStart => exact ⟨0, rfl, by omega, hid rfl, hid (Below.refl _ _)⟩
  case round =>
    obtain ⟨j, rfl, hj, hf, hb⟩ := hrel
    by_cases hlt : j < xs.length
    · have h2 : (j : Int) < (xs.length : Int) := by omega
      obtain ⟨b1, o1, ka1, kc1, va1, vc1, rfl, -, hb1, c0, c1, c2, he⟩ := fls_at (H1.out.kept hb.out) hlt
      have HE := hid he
      have HST := hid (fnd_at (p := P) hlt)
      have HME := hid (List.getElem_mem hlt)
      clear he
      generalize xs[j] = x at *
      go_wp2_with fail
      refine (HF.out _ (by have := hb.out; exact blBy) [.int .i64 x.num, .slice ka1 x.ks.length kc1, .slice va1 x.vs.length vc1] x HME.out (Fam.go (famF d) HE.out (keepT (by exact blBy)) (fun _ _ => trivial) (fun _ h => h))).mono ?_
      rintro e w1 ⟨rfl, hb1⟩
      have HB1 : Hid (Below w.heap.size w w1) := hid (bl_then (by have := hb.out; exact blBy) hb1)
      clear hb1
      cases hq : P x with
      | true =>
        go_wp2
        go_ret
        exact ⟨ret_int (by rw [hf.out, HST.out, hq]; simp), HB1.out⟩
      | false =>
        go_wp2
        exact ⟨⟨j + 1, by simp, by omega, hid (by rw [hf.out, HST.out, hq]; simp), HB1⟩, by simp [numAt]; omega⟩
    · have h2 : ¬ (j : Int) < (xs.length : Int) := by omega
      have HE : Hid (fnd P xs 0 = -1) := hid (by rw [hf.out, List.drop_of_length_le (by omega)]; rfl)
      go_wp2
      go_ret
      exact ⟨ret_int (by rw [HE.out]), hb.out⟩
def notN (n : Int) (x : CF CM) : Bool := decide (¬ x.num = n)
theorem RowM.sub {α : Type} {w : World} {Z : Nat → Prop} {k : Nat} {E : List Value → α → Prop} {b o n c : Nat} {xs : List α} (h : RowM w Z k E (.slice (some ⟨b, o, none⟩) n c) xs) (hk : 0 < k) {i : Nat} (hi : i < xs.length) {c' : Nat} (h1 : 1 ≤ c') (h2 : c' ≤ 9223372036854775807) : RowM w Z k E (.slice (some ⟨b, o + i * k, none⟩) 1 c') [xs[i]] := by
  obtain ⟨b', o', cs, e, hz, -, hl, he, hc⟩ := RowM.at h hk hi
  cases e
  refine ⟨[⟨cs, hl⟩], ⟨_, _, rfl, by simp [hl], h1, h2, .inr ⟨b, o + i * k, rfl, hz, fun j u hu => hc j u (by simpa using hu)⟩⟩, rfl, by simp, fun j t x ht hx => ?_⟩
  have e0 : j = 0 := by
    have := (List.getElem?_eq_some_iff.1 ht).1
    simpa using this
  subst e0
  simp at ht hx
  subst ht hx
  exact he
theorem RowM.cap {α : Type} {w : World} {Z : Nat → Prop} {k : Nat} {E : List Value → α → Prop} {a : Option Addr} {n c : Nat} {xs : List α} (h : RowM w Z k E (.slice a n c) xs) : xs.length ≤ c ∧ c ≤ 9223372036854775807 := by
  obtain ⟨ts, ⟨a', c', e, hv⟩, _⟩ := h
  cases e
  exact ⟨hv.le, hv.max⟩
set_option maxHeartbeats 2000000
end Go.Proofs.YtgephggcgopfgaaGreatDoor
