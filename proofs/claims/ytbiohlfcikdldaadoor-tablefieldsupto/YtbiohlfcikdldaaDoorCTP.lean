/-
  The names of a message's oneofs and fields.
  Fields are found by halving.
  Ranges that are free.
  A message by itself; a type by itself.
  A type by itself.
  A name cut at its dots.
  A full name: its names, and how many.
  The names ahead, in a map.
-/
import Derived.Test.YtbiohlfcikdldaaDoorCTH
import Derived.Test.YtbiohlfcikdldaaDoorShelf
namespace Go.Proofs.YtbiohlfcikdldaaDoor
open Go.RowKit
set_option maxRecDepth 1000000
set_option linter.unusedVariables false
set_option linter.unusedSimpArgs false
set_option maxHeartbeats 1000000
theorem cloneT (ns : List (List Int)) (w : World) (a : Option Addr) (c : Nat) (h : RowS w AnyZ 1 (.slice a ns.length c) ns.length (ns.flatMap cN)) (hl : ns.length ≤ 200000) : Calls Tryd.prog 100 #[.slice a ns.length c] w fun e w' => (∃ va vc, e = .returned (.slice va ns.length vc) ∧ Hid (w'.ownsRow w.heap.size 9 1 (.slice va ns.length vc) ns.length (ns.flatMap cN))) ∧ Below w.heap.size w w' := by
  have fin : ∀ (v' : Value) (w' : World), w'.ownsRow w.heap.size 9 1 v' ns.length (ns.flatMap cN) → Below w.heap.size w w' → (∃ va vc, Ending.returned v' = .returned (.slice va ns.length vc) ∧ Hid (w'.ownsRow w.heap.size 9 1 (.slice va ns.length vc) ns.length (ns.flatMap cN))) ∧ Below w.heap.size w w' := fun v' w' h1 h2 => by
    obtain ⟨va, vc, rfl⟩ := own_shape h1
    exact ⟨⟨va, vc, rfl, hid h1⟩, h2⟩
  cases a with
  | none =>
    have hz : ns = [] := by
      obtain ⟨_, _, e, hv⟩ := h
      cases e
      rcases hv.cells with ⟨h0, _⟩ | ⟨b, o, e, _⟩
      · exact List.eq_nil_of_length_eq_zero h0
      · cases e
    subst hz
    refine (Tryd.slices_Clone_string_nil 0 c w).mono ?_
    rintro e w' ⟨rfl, rfl⟩
    exact fin _ _ (World.ownsRow_nil _ _ _ _) (Below.refl _ _)
  | some x =>
    by_cases hz : ns.length = 0
    · have e : ns = [] := List.eq_nil_of_length_eq_zero hz
      subst e
      refine (Tryd.slices_Clone_string_zero x c w).mono ?_
      rintro e w' ⟨v', rfl, h1, _, h2⟩
      exact fin _ _ h1 h2
    · have hx : ∃ b o, x = ⟨b, o, none⟩ := by
        obtain ⟨b, o, e, _⟩ := rowAt (g := cN) (fun _ => rfl) h (i := 0) (x := ns[0]) (by simp)
        cases e
        exact ⟨b, o, rfl⟩
      obtain ⟨b, o, rfl⟩ := hx
      have e1 : ns.flatMap cN = (ns.map strOfNums).map Value.string := by
        clear fin h hl hz
        induction ns with
        | nil => rfl
        | cons y r ih => rw [List.flatMap_cons, ih]; rfl
      refine (Tryd.slices_Clone_string b o ns.length c (ns.map strOfNums) w (by simp) (by omega) (fun j hj => ?_)).mono ?_
      · have hj' : j < ns.length := by simpa using hj
        obtain ⟨b', o', e, hc⟩ := rowAt (g := cN) (fun _ => rfl) h (i := j) (x := ns[j]) (by simp [hj'])
        cases e
        have := hc 0 _ rfl
        simp only [Nat.mul_one, Nat.add_zero] at this
        rw [this]
        simp [hj']
      · rintro e w' ⟨v', rfl, h1, _, h2⟩
        rw [List.take_of_length_le (by simp), ← e1] at h1
        exact fin _ _ h1 h2
def nmsB (t : TT) : Bool := (t.os ++ t.fs.map FT.name).all nmB && dfB ((t.os ++ t.fs.map FT.name).map litS)
theorem hasGoodNamesT (w : World) (t : TT) (fa oa sa ra : Option Addr) (fc oc sc rc : Nat) (hf : RowS w AnyZ 7 (.slice fa t.fs.length fc) t.fs.length (t.fs.flatMap cFT)) (ho : RowS w AnyZ 1 (.slice oa t.os.length oc) t.os.length (t.os.flatMap cN)) (hlf : t.fs.length ≤ 128) (hlo : t.os.length ≤ 200000) (htf : ∀ x ∈ t.fs, TxA x.name) (hto : ∀ x ∈ t.os, TxA x) : Calls Tryd.prog 80 #[.agg #[.string (strOfNums t.name), .bool t.enum, .slice fa t.fs.length fc, .slice oa t.os.length oc, .slice sa t.ss.length sc, .slice ra t.rs.length rc]] w fun e w' => e = .returned (.bool (nmsB t)) ∧ Below w.heap.size w w' := by
  have HF := hid hf
  have HO := hid ho
  have HTA : Hid (∀ x ∈ t.os ++ t.fs.map FT.name, TxA x) := hid (fun x hx => by
    rcases List.mem_append.1 hx with q | q
    · exact hto x q
    · obtain ⟨y, hy, rfl⟩ := List.mem_map.1 q
      exact htf y hy)
  have h1 : (t.fs.length : Int) ≤ 9223372036854775807 := by omega
  clear hf ho htf hto
  go_enter Tryd.func80, Tryd.ntmps80
  go_wp2_with fail
  refine (cloneT t.os _ oa oc (HO.out.kept (by exact blBy)) hlo).mono ?_
  rintro e w1 ⟨⟨va, vc, rfl, HV⟩, hb1⟩
  have BX : Blk w1 w.heap.size 62 #[.string (strOfNums t.name), .bool t.enum, .slice fa t.fs.length fc, .slice oa t.os.length oc, .slice sa t.ss.length sc, .slice ra t.rs.length rc] := (Blk.newAt rfl).kept hb1
  have HB1 := hid (bl_then (below_alloc _) hb1)
  have hs1 := hb1.size
  clear hb1
  have HV0 := hid (own_mono HV.out (show w.heap.size ≤ (w.alloc (.cells #[.string (strOfNums t.name), .bool t.enum, .slice fa t.fs.length fc, .slice oa t.os.length oc, .slice sa t.ss.length sc, .slice ra t.rs.length rc] 62)).heap.size by simp))
  clear HV
  have xb := BX.cellF
  have zb := BX.lt
  go_wp2
  clear xb zb
  go_loopw [3, 12] (fun v r wr => ∃ (j : Nat) (va : Option Addr) (vc : Nat), v = .slice va (t.os.length + j) vc ∧ r = .int .i64 j ∧ j ≤ t.fs.length ∧ Hid (wr.ownsRow w.heap.size 9 1 (.slice va (t.os.length + j) vc) (t.os ++ (t.fs.take j).map FT.name).length ((t.os ++ (t.fs.take j).map FT.name).flatMap cN)) ∧ Hid (Below w.heap.size w wr)) (fun _ r wr => t.fs.length - numAt wr r)
  case atStart => exact ⟨0, va, vc, rfl, rfl, by omega, hid (by have := HV0.out; simpa using this), HB1⟩
  case round =>
    obtain ⟨j, va', vc', rfl, rfl, hj, HV, hb⟩ := hrel
    by_cases hlt : j < t.fs.length
    · have h4 : (j : Int) < (t.fs.length : Int) := by omega
      obtain ⟨b', o', rfl, hbl', c0, c1, c2, c3, c4, c5, c6⟩ := row7 (HF.out.kept hb.out) hlt
      have HTK : Hid (t.fs.take (j + 1) = t.fs.take j ++ [t.fs[j]]) := hid (List.take_succ_eq_append_getElem hlt)
      have HLN : Hid ((t.os ++ (t.fs.take j).map FT.name).length = t.os.length + j) := hid (by simp; omega)
      generalize t.fs[j] = f at *
      go_upto_region 5 with fail
      have BS : Blk (wr.alloc (.cells #[.string (strOfNums f.name), .int .i64 f.num, .int .i64 f.kind, .int .i64 f.ref, .int .i64 f.lab, .int .i64 f.one, .int .i64 f.key] 39)) wr.heap.size 39 #[.string (strOfNums f.name), .int .i64 f.num, .int .i64 f.kind, .int .i64 f.ref, .int .i64 f.lab, .int .i64 f.one, .int .i64 f.key] := Blk.newAt rfl
      have HV1 := hid (own_kept HV.out (below_alloc (.cells #[.string (strOfNums f.name), .int .i64 f.num, .int .i64 f.kind, .int .i64 f.ref, .int .i64 f.lab, .int .i64 f.one, .int .i64 f.key] 39)))
      have hb1 : Hid (Below w.heap.size w (wr.alloc (.cells #[.string (strOfNums f.name), .int .i64 f.num, .int .i64 f.kind, .int .i64 f.ref, .int .i64 f.lab, .int .i64 f.one, .int .i64 f.key] 39))) := hid (by have := hb.out; exact blBy)
      clear c0 c1 c2 c3 c4 c5 c6
      generalize (wr.alloc (.cells #[.string (strOfNums f.name), .int .i64 f.num, .int .i64 f.kind, .int .i64 f.ref, .int .i64 f.lab, .int .i64 f.one, .int .i64 f.key] 39)) = w2 at *
      have xs := BS.cellF
      have zs := BS.lt
      obtain ⟨la, lc, x1, HRUN, HV2, HG1⟩ := appendSt w.heap.size (.slice va' (t.os.length + j) vc') (t.os ++ (t.fs.take j).map FT.name) f.name w2 HV1.out hb1.out.size (by have := HLN.out; omega)
      rw [HLN.out] at HRUN HV2 HG1
      have hb2 : Hid (Below w.heap.size w x1) := hid (hb1.out.trans (grow_bel HG1.out HV1.out (Nat.le_refl _) hb1.out.size))
      go_wp2_with (first | (at_builtin; refine wpList_append_ran rfl _ _ 59 59 rfl rfl _ _ (.slice la (t.os.length + j + 1) lc) x1 rfl rfl HRUN.out ?_))
      exact ⟨⟨j + 1, la, lc, rfl, by simp, by omega, hid (by rw [HTK.out, List.map_append, ← List.append_assoc]; exact HV2.out), hb2⟩, by simp [numAt]; omega⟩
    · have h4 : ¬ (j : Int) < (t.fs.length : Int) := by omega
      have e1 : t.fs.take j = t.fs := List.take_of_length_le (by omega)
      have ej : j = t.fs.length := by omega
      subst ej
      rw [e1] at HV
      have HX : Hid (nmsB t = ((t.os ++ t.fs.map FT.name).all nmB && dfB ((t.os ++ t.fs.map FT.name).map litS))) := hid rfl
      have HLM : Hid ((t.os ++ t.fs.map FT.name).length = t.os.length + t.fs.length) := hid (by simp)
      generalize t.os ++ t.fs.map FT.name = ns at *
      have HRV : Hid (RowS wr AnyZ 1 (.slice va' (t.os.length + t.fs.length) vc') ns.length (ns.flatMap cN)) := hid (own_row HV.out (fun _ _ => trivial))
      go_wp2_with fail
      refine (areNamesT ns _ va' (t.os.length + t.fs.length) vc' HRV.out HTA.out).mono ?_
      rintro e w1 ⟨rfl, rfl⟩
      cases hq : ns.all nmB with
      | false =>
        go_wp2
        go_ret
        exact ⟨ret_bool (by rw [HX.out, hq]; rfl), hb.out⟩
      | true =>
        go_wp2_with fail
        have HA := areDiffS ns wr va' vc' (by rw [HLM.out]; have := HRV.out; rw [HLM.out] at this; exact this) HTA.out
        rw [HLM.out] at HA
        refine HA.mono ?_
        rintro e w2 ⟨rfl, hb2⟩
        have HB2 := hid (bl_then hb.out hb2)
        clear hb2
        go_wp2
        go_ret
        exact ⟨ret_bool (by rw [HX.out, hq]; rfl), HB2.out⟩
set_option maxHeartbeats 600000
/-- Numbers rise. -/
def Rise (fs : List FT) : Prop := ∀ i j, i < j → ∀ (hj : j < fs.length) (hi : i < fs.length), fs[i].num < fs[j].num
/-- While it halves. -/
structure Halv (fs : List FT) (n : Int) (k first left : Nat) : Prop where
  le : left ≤ 2 ^ k
  one : 1 ≤ left
  fit : first + left ≤ fs.length
  up : ∀ i, first + left ≤ i → ∀ (h : i < fs.length), n < fs[i].num
  lo : first = 0 ∨ ∀ (h : first < fs.length), fs[first].num ≤ n
theorem Halv.yes {fs : List FT} {n : Int} {k first left : Nat} (h : Halv fs n (k + 1) first left) (hq : ∀ (q : first + left / 2 < fs.length), fs[first + left / 2].num ≤ n) : Halv fs n k (first + left / 2) (left - left / 2) := by
  have h1 := h.le
  have h2 := h.one
  have h3 := h.fit
  rw [Nat.pow_succ] at h1
  exact ⟨by omega, by omega, by omega, fun i hi hh => h.up i (by omega) hh, .inr hq⟩
theorem Halv.no {fs : List FT} {n : Int} {k first left : Nat} (h : Halv fs n (k + 1) first left) (hr : Rise fs) (h0 : 2 ≤ left) (hq : ∀ (q : first + left / 2 < fs.length), n < fs[first + left / 2].num) : Halv fs n k first (left - left / 2) := by
  have h1 := h.le
  have h2 := h.one
  have h3 := h.fit
  rw [Nat.pow_succ] at h1
  refine ⟨by omega, by omega, by omega, fun i hi hh => ?_, h.lo⟩
  by_cases e : i = first + left / 2
  · subst e; exact hq hh
  · by_cases hl : i < first + left / 2
    · omega
    · exact Int.lt_trans (hq (by omega)) (hr _ _ (by omega) hh (by omega))
theorem Halv.still {fs : List FT} {n : Int} {k first left : Nat} (h : Halv fs n (k + 1) first left) (h0 : left = 1) : Halv fs n k first (left - left / 2) := by
  subst h0
  exact ⟨Nat.one_le_two_pow, by decide, h.fit, h.up, h.lo⟩
theorem bitLen_lt : ∀ n : Fin 129, n.val < 2 ^ Go.Lib.bitLen n.val := by decide +kernel
/-- What lastUpTo answers. -/
def LutR (fs : List FT) (n : Int) (w : World) (e : Ending) (w' : World) : Prop := ((e = .returned (.tuple #[.agg #[.string ⟨#[]⟩, .int .i64 0, .int .i64 0, .int .i64 0, .int .i64 0, .int .i64 0, .int .i64 0], .bool false]) ∧ (∀ i, ∀ (h : i < fs.length), n < fs[i].num)) ∨ (∃ (k : Nat) (hk : k < fs.length), e = .returned (.tuple #[.agg #[.string (strOfNums fs[k].name), .int .i64 fs[k].num, .int .i64 fs[k].kind, .int .i64 fs[k].ref, .int .i64 fs[k].lab, .int .i64 fs[k].one, .int .i64 fs[k].key], .bool true]) ∧ fs[k].num ≤ n ∧ ∀ i, k < i → ∀ (h : i < fs.length), n < fs[i].num)) ∧ Below w.heap.size w w'
theorem LutR.no {fs : List FT} {n : Int} {w w' : World} (h : ∀ i, ∀ (h : i < fs.length), n < fs[i].num) (hb : Below w.heap.size w w') : LutR fs n w (.returned (.tuple #[.agg #[.string ⟨#[]⟩, .int .i64 0, .int .i64 0, .int .i64 0, .int .i64 0, .int .i64 0, .int .i64 0], .bool false])) w' := ⟨.inl ⟨rfl, h⟩, hb⟩
theorem LutR.yes {fs : List FT} {n : Int} {w w' : World} (k : Nat) (hk : k < fs.length) (h1 : fs[k].num ≤ n) (h : ∀ i, k < i → ∀ (h : i < fs.length), n < fs[i].num) (hb : Below w.heap.size w w') : LutR fs n w (.returned (.tuple #[.agg #[.string (strOfNums fs[k].name), .int .i64 fs[k].num, .int .i64 fs[k].kind, .int .i64 fs[k].ref, .int .i64 fs[k].lab, .int .i64 fs[k].one, .int .i64 fs[k].key], .bool true])) w' := ⟨.inr ⟨k, hk, rfl, h1, h⟩, hb⟩
theorem LutR.yes' {fs : List FT} {n : Int} {w w' : World} {x : FT} (k : Nat) (hk : k < fs.length) (hx : fs[k] = x) (h1 : x.num ≤ n) (h : ∀ i, k < i → ∀ (h : i < fs.length), n < fs[i].num) (hb : Below w.heap.size w w') : LutR fs n w (.returned (.tuple #[.agg #[.string (strOfNums x.name), .int .i64 x.num, .int .i64 x.kind, .int .i64 x.ref, .int .i64 x.lab, .int .i64 x.one, .int .i64 x.key], .bool true])) w' := by
  subst hx
  exact LutR.yes k hk h1 h hb
theorem lastUpToT (fs : List FT) (n : Int) (w : World) (a : Option Addr) (c : Nat) (h : RowS w AnyZ 7 (.slice a fs.length c) fs.length (fs.flatMap cFT)) (hr : Rise fs) (hl : fs.length ≤ 128) : Calls Tryd.prog 52 #[.slice a fs.length c, .int .i64 n] w (LutR fs n w) := by
  have HR := hid h
  have HRI := hid hr
  have h1 : (fs.length : Int) ≤ 9223372036854775807 := by omega
  have HLN := hid (fun W => Tryd.bits_Len (fs.length : Int) W (by omega) (by omega))
  have HBL : Hid (fs.length < 2 ^ Go.Lib.bitLen fs.length ∧ Go.Lib.bitLen fs.length ≤ 8) := hid ⟨bitLen_lt ⟨fs.length, by omega⟩, Go.Lib.bitLen_le8 ⟨fs.length, by omega⟩⟩
  clear h hr
  by_cases h0 : fs.length = 0
  case pos =>
    have e : fs = [] := List.eq_nil_of_length_eq_zero h0
    subst e
    clear HR HRI HBL
    go_enter Tryd.func52, Tryd.ntmps52
    go_wp2_with fail
    refine (HLN.out _).mono ?_
    rintro e w1 ⟨rfl, rfl⟩
    go_wp2
    go_loopw [6, 7, 14] (fun a b r wr => a = .int .i64 0 ∧ b = .int .i64 0 ∧ r = .int .i64 0 ∧ Hid (Below w.heap.size w wr) ∧ Hid (Blk wr w.heap.size 39 #[.string ⟨#[]⟩, .int .i64 0, .int .i64 0, .int .i64 0, .int .i64 0, .int .i64 0, .int .i64 0])) (fun _ _ _ _ => 0)
    case atStart => exact ⟨rfl, rfl, rfl, hid (by exact blBy), hid (Blk.newAt rfl)⟩
    case round =>
      obtain ⟨rfl, rfl, rfl, hb, BR⟩ := hrel
      have xr := BR.out.cellF
      have yr := BR.out.frz
      have zr := BR.out.lt
      have hbl0 : Go.Lib.bitLen 0 = 0 := by decide
      have hbl1 : Go.Lib.bitLen ([] : List FT).length = 0 := by decide
      go_wp2
      exact bodyPost_ret (v := .tuple #[.agg #[.string ⟨#[]⟩, .int .i64 0, .int .i64 0, .int .i64 0, .int .i64 0, .int .i64 0, .int .i64 0], .bool false]) (by simp [results, Tryd.results52, go_sem, xr, zr]) rfl (LutR.no (fun i h => absurd h (by simp)) (by have := hb.out; exact blBy))
  go_enter Tryd.func52, Tryd.ntmps52
  go_wp2_with fail
  refine (HLN.out _).mono ?_
  rintro e w1 ⟨rfl, rfl⟩
  clear HLN
  go_wp2
  go_loopw [6, 7, 14] (fun a b r wr => ∃ (i first left : Nat), a = .int .i64 first ∧ b = .int .i64 left ∧ r = .int .i64 i ∧ i ≤ Go.Lib.bitLen fs.length ∧ Hid (Halv fs n (Go.Lib.bitLen fs.length - i) first left) ∧ Hid (Below w.heap.size w wr) ∧ Hid (Blk wr w.heap.size 39 #[.string ⟨#[]⟩, .int .i64 0, .int .i64 0, .int .i64 0, .int .i64 0, .int .i64 0, .int .i64 0])) (fun _ _ r wr => Go.Lib.bitLen fs.length - numAt wr r)
  case atStart => exact ⟨0, 0, fs.length, rfl, rfl, rfl, by omega, hid ⟨by have := HBL.out.1; simp; omega, by omega, by omega, fun i hi h => by omega, .inl rfl⟩, hid (by exact blBy), hid (Blk.newAt rfl)⟩
  case round =>
    obtain ⟨i, first, left, rfl, rfl, rfl, hi, HH, hb, BR⟩ := hrel
    have hfl : first + left ≤ fs.length := HH.out.fit
    have hlo : 1 ≤ left := HH.out.one
    have hb8 := HBL.out.2
    have xr := BR.out.cellF
    have yr := BR.out.frz
    have zr := BR.out.lt
    by_cases hlt : i < Go.Lib.bitLen fs.length
    · have h4 : (i : Int) < (Go.Lib.bitLen fs.length : Int) := by omega
      have hw : wrap64 ((left : Int) / 2) = ((left / 2 : Nat) : Int) := by unfold wrap64; omega
      have HK : Hid (Go.Lib.bitLen fs.length - i = (Go.Lib.bitLen fs.length - (i + 1)) + 1) := hid (by omega)
      have hpl : first + left / 2 < fs.length := by omega
      obtain ⟨b', o', rfl, hbl', c0, c1, c2, c3, c4, c5, c6⟩ := row7 (HR.out.kept hb.out) hpl
      have HY := hid (fun q => (HK.out ▸ HH.out : Halv fs n ((Go.Lib.bitLen fs.length - (i + 1)) + 1) first left).yes q)
      have HN := hid (fun q z => (HK.out ▸ HH.out : Halv fs n ((Go.Lib.bitLen fs.length - (i + 1)) + 1) first left).no HRI.out z q)
      have HS := hid (fun z => (HK.out ▸ HH.out : Halv fs n ((Go.Lib.bitLen fs.length - (i + 1)) + 1) first left).still z)
      have HX : Hid (∀ (q : first + left / 2 < fs.length), fs[first + left / 2] = fs[first + left / 2]) := hid (fun q => rfl)
      have hpl2 : (first : Int) + (left : Int) / 2 < (fs.length : Int) := by omega
      generalize hx : fs[first + left / 2] = x at *
      by_cases hq : x.num ≤ n
      · go_wp2
        exact ⟨⟨i + 1, first + left / 2, left - left / 2, by simp, by simp; omega, by simp, by omega, hid (HY.out (fun q => by rw [hx]; exact hq)), hb, BR⟩, by simp [numAt]; omega⟩
      · go_wp2
        exact ⟨⟨i + 1, first, left - left / 2, rfl, by simp; omega, by simp, by omega, hid (by by_cases z : 2 ≤ left; exact HN.out (fun q => by rw [hx]; omega) z; exact HS.out (by omega)), hb, BR⟩, by simp [numAt]; omega⟩
    · have h4 : ¬ (i : Int) < (Go.Lib.bitLen fs.length : Int) := by omega
      have hl1 : left = 1 := by have := HH.out.le; rw [show Go.Lib.bitLen fs.length - i = 0 by omega] at this; simp at this; omega
      have hpl : first < fs.length := by omega
      have HUP : Hid (∀ i, first < i → ∀ (h : i < fs.length), n < fs[i].num) := hid (fun i hi h => HH.out.up i (by omega) h)
      have HLO := hid HH.out.lo
      obtain ⟨b', o', rfl, hbl', c0, c1, c2, c3, c4, c5, c6⟩ := row7 (HR.out.kept hb.out) hpl
      have hpl2 : (first : Int) < (fs.length : Int) := by omega
      subst hl1
      have HXX : Hid (fs[first] = fs[first]) := hid rfl
      generalize hx : fs[first] = x at *
      by_cases hq : n < x.num
      · go_wp2
        exact bodyPost_ret (v := .tuple #[.agg #[.string ⟨#[]⟩, .int .i64 0, .int .i64 0, .int .i64 0, .int .i64 0, .int .i64 0, .int .i64 0], .bool false]) (by simp [results, Tryd.results52, go_sem, xr, zr]) rfl (LutR.no (fun i h => by
          rcases HLO.out with z | z
          · subst z
            by_cases e : i = 0
            · subst e; rw [hx]; exact hq
            · exact HUP.out i (by omega) h
          · have := z hpl; rw [hx] at this; omega) (by have := hb.out; exact blBy))
      · go_wp2
        exact bodyPost_ret (v := .tuple #[.agg #[.string (strOfNums x.name), .int .i64 x.num, .int .i64 x.kind, .int .i64 x.ref, .int .i64 x.lab, .int .i64 x.one, .int .i64 x.key], .bool true]) (by simp [results, Tryd.results52, go_sem, xr, zr]) rfl (LutR.yes' first hpl hx (by omega) HUP.out (by have := hb.out; exact blBy))
def hitB (fs : List FT) (r : RG) : Bool := fs.any (fun f => decide (r.lo ≤ f.num ∧ f.num ≤ r.hi))
def freeA (fs : List FT) : List RG → Int → Bool
  | [], z => decide (z ≤ 536870911)
  | r :: l, z => if r.lo ≤ z ∨ r.hi < r.lo then false else if hitB fs r = true then false else freeA fs l r.hi
theorem hit_no {fs : List FT} {r : RG} (h : ∀ i, ∀ (h : i < fs.length), r.hi < fs[i].num) : hitB fs r = false := by
  unfold hitB
  rw [List.any_eq_false]
  intro f hf
  obtain ⟨i, hi, rfl⟩ := List.getElem_of_mem hf
  have := h i hi
  simp
  omega
theorem hit_yes {fs : List FT} {r : RG} (hr : Rise fs) {k : Nat} (hk : k < fs.length) (h1 : fs[k].num ≤ r.hi) (h : ∀ i, k < i → ∀ (h : i < fs.length), r.hi < fs[i].num) : hitB fs r = decide (r.lo ≤ fs[k].num) := by
  unfold hitB
  by_cases hq : r.lo ≤ fs[k].num
  · rw [show decide (r.lo ≤ fs[k].num) = true by simpa using hq, List.any_eq_true]
    exact ⟨fs[k], List.getElem_mem hk, by simp; omega⟩
  · rw [show decide (r.lo ≤ fs[k].num) = false by simpa using hq, List.any_eq_false]
    intro f hf
    obtain ⟨i, hi, rfl⟩ := List.getElem_of_mem hf
    by_cases e : k < i
    · have := h i e hi; simp; omega
    · by_cases e2 : i = k
      · subst e2; simp; omega
      · have := hr i k (by omega) hk hi; simp; omega
theorem areFreeT (rs : List RG) (fs : List FT) (w : World) (a b0 : Option Addr) (c d : Nat) (h : RowS w AnyZ 2 (.slice a rs.length c) rs.length (rs.flatMap cRG)) (hf : RowS w AnyZ 7 (.slice b0 fs.length d) fs.length (fs.flatMap cFT)) (hr : Rise fs) (hl : fs.length ≤ 128) : Calls Tryd.prog 78 #[.slice a rs.length c, .slice b0 fs.length d] w fun e w' => e = .returned (.bool (freeA fs rs 0)) ∧ Below w.heap.size w w' := by
  obtain ⟨_, _, e, hn⟩ := rowS_sl h
  clear e
  have h1 : (rs.length : Int) ≤ 9223372036854775807 := by omega
  have HR := hid h
  have HF := hid hf
  have HRI := hid hr
  clear h hf hr
  go_enter Tryd.func78, Tryd.ntmps78
  go_wp2
  go_loopw [5, 12] (fun z r wr => ∃ (j : Nat) (q : Int), z = .int .i64 q ∧ r = .int .i64 j ∧ j ≤ rs.length ∧ Hid (freeA fs rs 0 = freeA fs (rs.drop j) q) ∧ Hid (Below w.heap.size w wr)) (fun z r wr => rs.length - numAt wr r)
  case atStart => exact ⟨0, 0, rfl, rfl, by omega, hid rfl, hid (Below.refl _ _)⟩
  case round =>
    obtain ⟨j, q, rfl, rfl, hj, hfr, hb⟩ := hrel
    by_cases hlt : j < rs.length
    · have h2 : (j : Int) < (rs.length : Int) := by omega
      obtain ⟨b, o, rfl, hbl, c0, c1⟩ := rowG (HR.out.kept hb.out) hlt
      have HST : Hid (freeA fs (rs.drop j) q = if rs[j].lo ≤ q ∨ rs[j].hi < rs[j].lo then false else if hitB fs rs[j] = true then false else freeA fs (rs.drop (j + 1)) rs[j].hi) := hid (by rw [List.drop_eq_getElem_cons hlt, freeA])
      generalize rs[j] = r at *
      by_cases q1 : r.lo ≤ q
      · go_wp2
        go_ret
        exact ⟨ret_bool (by rw [hfr.out, HST.out, if_pos (.inl q1)]), by have := hb.out; exact blBy⟩
      · by_cases q2 : r.hi < r.lo
        · go_wp2
          go_ret
          exact ⟨ret_bool (by rw [hfr.out, HST.out, if_pos (.inr q2)]), by have := hb.out; exact blBy⟩
        · replace HST := hid (show freeA fs (rs.drop j) q = if hitB fs r = true then false else freeA fs (rs.drop (j + 1)) r.hi by rw [HST.out, if_neg (fun z => z.elim q1 q2)])
          go_wp2_with fail
          refine (lastUpToT fs r.hi _ b0 d (HF.out.kept (by have := hb.out; exact blBy)) HRI.out hl).mono ?_
          rintro e w1 ⟨hor, hb1⟩
          have BR : Blk w1 wr.heap.size 97 #[.int .i64 r.lo, .int .i64 r.hi] := (Blk.newAt rfl).kept hb1
          have HB1 : Hid (Below w.heap.size w w1) := hid (bl_then (by have := hb.out; exact blBy) hb1)
          have hs1 := hb1.size
          clear hb1 c0 c1
          have xr := BR.cellF
          have zr := BR.lt
          rcases hor with ⟨rfl, hno⟩ | ⟨k, hk, rfl, hle, hup⟩
          · have HT := hid (hit_no hno)
            clear hno
            go_wp2
            exact ⟨⟨j + 1, r.hi, rfl, by simp, by omega, hid (by rw [hfr.out, HST.out, HT.out]; rfl), hid (by have := HB1.out; exact blBy)⟩, by simp [numAt]; omega⟩
          · have HT := hid (hit_yes HRI.out hk hle hup)
            clear hle hup
            generalize fs[k] = f at *
            by_cases q3 : r.lo ≤ f.num
            · go_wp2
              go_ret
              exact ⟨ret_bool (by rw [hfr.out, HST.out, HT.out, show decide (r.lo ≤ f.num) = true by simpa using q3]; rfl), by have := HB1.out; exact blBy⟩
            · go_wp2
              exact ⟨⟨j + 1, r.hi, rfl, by simp, by omega, hid (by rw [hfr.out, HST.out, HT.out, show decide (r.lo ≤ f.num) = false by simpa using q3]; rfl), hid (by have := HB1.out; exact blBy)⟩, by simp [numAt]; omega⟩
    · have h2 : ¬ (j : Int) < (rs.length : Int) := by omega
      have HE : Hid (freeA fs rs 0 = decide (q ≤ 536870911)) := hid (by rw [hfr.out, List.drop_of_length_le (by omega)]; rfl)
      go_wp2
      go_ret
      exact ⟨ret_bool HE.out.symm, hb.out⟩
set_option maxHeartbeats 1000000
theorem rise_all : ∀ (fs : List FT) (z : Int), riseA fs z = true → (∀ f ∈ fs, z < f.num) ∧ Rise fs
  | [], _, _ => ⟨by simp, fun i j _ hj => by simp at hj⟩
  | f :: r, z, h => by
    rw [riseA] at h
    by_cases hq : f.num ≤ z
    · rw [if_pos hq] at h; cases h
    · rw [if_neg hq] at h
      obtain ⟨h1, h2⟩ := rise_all r f.num h
      refine ⟨fun g hg => ?_, fun i j hij hj hi => ?_⟩
      · rcases List.mem_cons.1 hg with rfl | hg
        · omega
        · have := h1 g hg; omega
      · cases j with
        | zero => omega
        | succ j =>
          cases i with
          | zero => exact h1 _ (List.getElem_mem _)
          | succ i => exact h2 i j (by omega) (by simpa using hj) (by simpa using hi)
theorem cover : ∀ (fs : List FT) (S : List Int), S.Nodup → (∀ x ∈ S, ∃ f ∈ fs, f.one = x) → S.length ≤ fs.length
  | [], S, _, h => by
    cases S with
    | nil => simp
    | cons x r => obtain ⟨f, hf, _⟩ := h x (by simp); cases hf
  | f :: r, S, hn, h => by
    have ih := cover r (S.erase f.one) (hn.erase _) (fun x hx => by
      have hx2 := (hn.mem_erase_iff).1 hx
      obtain ⟨g, hg, e⟩ := h x hx2.2
      rcases List.mem_cons.1 hg with rfl | hg
      · exact absurd e.symm hx2.1
      · exact ⟨g, hg, e⟩)
    have : S.length ≤ (S.erase f.one).length + 1 := by rw [List.length_erase]; split <;> omega
    simp
    omega
theorem mem_le {fs : List FT} : ∀ (n i : Nat), memA fs n i = true → ∀ k, i ≤ k → k < i + n → ∃ f ∈ fs, f.one = (k : Int)
  | 0, i, _, k, h1, h2 => by omega
  | n + 1, i, h, k, h1, h2 => by
    rw [memA] at h
    have h' := Bool.and_eq_true_iff.1 h
    by_cases e : k = i
    · subst e
      obtain ⟨f, hf, hp⟩ := List.any_eq_true.1 h'.1
      refine ⟨f, hf, ?_⟩
      unfold memP at hp
      simp at hp
      exact hp.2
    · exact mem_le n (i + 1) h'.2 k (by omega) (by omega)
theorem mem_few {fs : List FT} {n : Nat} (h : memA fs n 0 = true) : n ≤ fs.length := by
  have := cover fs ((List.range n).map (fun (k : Nat) => (k : Int))) (by
    rw [List.Nodup, List.pairwise_map]
    exact (List.nodup_range (n := n)).imp (fun h e => h (Int.ofNat_inj.1 e))) (fun x hx => by
    obtain ⟨k, hk, rfl⟩ := List.mem_map.1 hx
    exact mem_le n 0 h k (by omega) (by have := List.mem_range.1 hk; omega))
  simpa using this
def msgB (l : List TV) (t : TT) : Bool := decide (t.fs.length ≤ 128 ∧ t.rs.length ≤ 128) && (t.fs.all (fldB l t.os.length) && (riseA t.fs 0 && (freeA t.fs t.rs 0 && (memA t.fs t.os.length 0 && nmsB t))))
/-- What is asked of a type's texts and numbers: that they can be. -/
structure OkT (t : TT) : Prop where
  nm : TxA t.name
  fs : ∀ x ∈ t.fs, TxA x.name
  os : ∀ x ∈ t.os, TxA x
  ss : ∀ x ∈ t.ss, TxA x.name ∧ I64 x.num
theorem isGoodMessageT (w : World) (l : List TV) (ta : Option Addr) (tc : Nat) (t : TT) (fa oa sa ra : Option Addr) (fc oc sc rc : Nat) (h : TbR w (.slice ta l.length tc) l) (hx : TyR w ⟨t, .slice fa t.fs.length fc, .slice oa t.os.length oc, .slice sa t.ss.length sc, .slice ra t.rs.length rc⟩) (hk : OkT t) : Calls Tryd.prog 51 #[.agg #[.slice ta l.length tc], .agg #[.string (strOfNums t.name), .bool t.enum, .slice fa t.fs.length fc, .slice oa t.os.length oc, .slice sa t.ss.length sc, .slice ra t.rs.length rc]] w fun e w' => e = .returned (.bool (msgB l t)) ∧ Below w.heap.size w w' := by
  have HX : Hid (msgB l t = (decide (t.fs.length ≤ 128 ∧ t.rs.length ≤ 128) && (t.fs.all (fldB l t.os.length) && (riseA t.fs 0 && (freeA t.fs t.rs 0 && (memA t.fs t.os.length 0 && nmsB t)))))) := hid rfl
  have HT := hid h
  have HY := hid hx
  have HK := hid hk
  obtain ⟨_, _, e, hn1⟩ := rowS_sl hx.f
  clear e
  obtain ⟨_, _, e, hn2⟩ := rowS_sl hx.r
  clear e
  obtain ⟨_, _, e, hn3⟩ := rowS_sl hx.o
  clear e
  have e1 : (t.fs.length : Int) ≤ 9223372036854775807 := by dsimp only at hn1; omega
  have e2 : (t.rs.length : Int) ≤ 9223372036854775807 := by dsimp only at hn2; omega
  have e3 : t.os.length ≤ 9223372036854775807 := by dsimp only at hn3; omega
  clear h hx hk hn1 hn2 hn3
  by_cases h1 : 128 < t.fs.length
  case pos =>
    have k1 : (128 : Int) < (t.fs.length : Int) := by omega
    replace HX := hid (show msgB l t = false by rw [HX.out, show decide (t.fs.length ≤ 128 ∧ t.rs.length ≤ 128) = false by simp; omega]; rfl)
    go_enter Tryd.func51, Tryd.ntmps51
    go_wp2
    go_ret
    exact ⟨ret_bool HX.out.symm, by exact blBy⟩
  by_cases h2 : 128 < t.rs.length
  case pos =>
    have k1 : ¬ (128 : Int) < (t.fs.length : Int) := by omega
    have k2 : (128 : Int) < (t.rs.length : Int) := by omega
    replace HX := hid (show msgB l t = false by rw [HX.out, show decide (t.fs.length ≤ 128 ∧ t.rs.length ≤ 128) = false by simp; omega]; rfl)
    go_enter Tryd.func51, Tryd.ntmps51
    go_wp2
    go_ret
    exact ⟨ret_bool HX.out.symm, by exact blBy⟩
  have k1 : ¬ (128 : Int) < (t.fs.length : Int) := by omega
  have k2 : ¬ (128 : Int) < (t.rs.length : Int) := by omega
  replace HX := hid (show msgB l t = (t.fs.all (fldB l t.os.length) && (riseA t.fs 0 && (freeA t.fs t.rs 0 && (memA t.fs t.os.length 0 && nmsB t)))) by rw [HX.out, show decide (t.fs.length ≤ 128 ∧ t.rs.length ≤ 128) = true by simp; omega]; rfl)
  have HAN : Hid (t.fs.any (fun f => !fldB l t.os.length f) = !t.fs.all (fldB l t.os.length)) := hid (by rw [List.not_all_eq_any_not])
  have hb0 : Hid (Below w.heap.size w w) := hid (Below.refl _ _)
  go_enter Tryd.func51, Tryd.ntmps51
  go_wp2_with fail
  refine (idxGoodC t.fs _ fa fc w.heap.size (w.heap.size + 1) (fun f => !fldB l t.os.length f) (HY.out.f.kept (by have := hb0.out; exact blBy)) (fun f W hW => goodFn1 f W l ta tc w.heap.size (w.heap.size + 1) t fa oa sa ra fc oc sc rc ((HT.out.kept (by exact blBy)).kept hW) e3 (((Blk.newAt (by simp)).kept (below_alloc _)).kept hW) ((Blk.newAt (by simp)).kept hW))).mono ?_
  rintro e w1 ⟨rfl, hb1⟩
  have Ba : Blk w1 (w.heap.size) 24 #[.slice ta l.length tc] := Blk.kept (((Blk.newAt (by simp)).kept (below_alloc _)).is (by first | rfl | simp)) hb1
  have Bb : Blk w1 (w.heap.size + 1) 62 #[.string (strOfNums t.name), .bool t.enum, .slice fa t.fs.length fc, .slice oa t.os.length oc, .slice sa t.ss.length sc, .slice ra t.rs.length rc] := Blk.kept ((Blk.newAt (by simp)).is (by first | rfl | simp)) hb1
  have hs1 := hb1.size
  try simp at hs1
  have xa := Ba.cellF
  have ya := Ba.frz
  have za : w.heap.size < w1.heap.size := by omega
  have xb := Bb.cellF
  have yb := Bb.frz
  have zb : w.heap.size + 1 < w1.heap.size := by omega
  replace hb1 : Hid (Below w.heap.size w w1) := hid (bl_then (by have := hb0.out; exact blBy) hb1)
  rw [HAN.out]
  cases q1 : t.fs.all (fldB l t.os.length) with
  | false =>
    go_wp2
    go_ret
    exact ⟨ret_bool (by rw [HX.out, q1]; rfl), by have := hb1.out; exact blBy⟩
  | true =>
  go_wp2_with fail
  refine (doRiseT t.fs _ fa fc (HY.out.f.kept (by have := hb1.out; exact blBy))).mono ?_
  rintro e w2 ⟨rfl, hb2⟩
  replace Ba : Blk w2 (w.heap.size) 24 #[.slice ta l.length tc] := Blk.kept (Ba.is (by first | rfl | simp)) hb2
  replace Bb : Blk w2 (w.heap.size + 1) 62 #[.string (strOfNums t.name), .bool t.enum, .slice fa t.fs.length fc, .slice oa t.os.length oc, .slice sa t.ss.length sc, .slice ra t.rs.length rc] := Blk.kept (Bb.is (by first | rfl | simp)) hb2
  clear xa ya xb yb
  have hs2 := hb2.size
  try simp at hs2
  have xa := Ba.cellF
  have ya := Ba.frz
  replace za : w.heap.size < w2.heap.size := by omega
  have xb := Bb.cellF
  have yb := Bb.frz
  replace zb : w.heap.size + 1 < w2.heap.size := by omega
  replace hb2 : Hid (Below w.heap.size w w2) := hid (bl_then (by have := hb1.out; exact blBy) hb2)
  cases q2 : riseA t.fs 0 with
  | false =>
    go_wp2
    go_ret
    exact ⟨ret_bool (by rw [HX.out, q1, q2]; rfl), by have := hb2.out; exact blBy⟩
  | true =>
  have HRI := hid (rise_all t.fs 0 q2).2
  go_wp2_with fail
  refine (areFreeT t.rs t.fs _ ra fa rc fc (HY.out.r.kept (by have := hb2.out; exact blBy)) (HY.out.f.kept (by have := hb2.out; exact blBy)) HRI.out (by omega)).mono ?_
  rintro e w3 ⟨rfl, hb3⟩
  replace Ba : Blk w3 (w.heap.size) 24 #[.slice ta l.length tc] := Blk.kept (Ba.is (by first | rfl | simp)) hb3
  replace Bb : Blk w3 (w.heap.size + 1) 62 #[.string (strOfNums t.name), .bool t.enum, .slice fa t.fs.length fc, .slice oa t.os.length oc, .slice sa t.ss.length sc, .slice ra t.rs.length rc] := Blk.kept (Bb.is (by first | rfl | simp)) hb3
  clear xa ya xb yb
  have hs3 := hb3.size
  try simp at hs3
  have xa := Ba.cellF
  have ya := Ba.frz
  replace za : w.heap.size < w3.heap.size := by omega
  have xb := Bb.cellF
  have yb := Bb.frz
  replace zb : w.heap.size + 1 < w3.heap.size := by omega
  replace hb3 : Hid (Below w.heap.size w w3) := hid (bl_then (by have := hb2.out; exact blBy) hb3)
  cases q3 : freeA t.fs t.rs 0 with
  | false =>
    go_wp2
    go_ret
    exact ⟨ret_bool (by rw [HX.out, q1, q2, q3]; rfl), by have := hb3.out; exact blBy⟩
  | true =>
  go_wp2_with fail
  refine (haveMembersT _ t fa oa sa ra fc oc sc rc (HY.out.f.kept (by have := hb3.out; exact blBy)) e3).mono ?_
  rintro e w4 ⟨rfl, hb4⟩
  replace Ba : Blk w4 (w.heap.size) 24 #[.slice ta l.length tc] := Blk.kept (Ba.is (by first | rfl | simp)) hb4
  replace Bb : Blk w4 (w.heap.size + 1) 62 #[.string (strOfNums t.name), .bool t.enum, .slice fa t.fs.length fc, .slice oa t.os.length oc, .slice sa t.ss.length sc, .slice ra t.rs.length rc] := Blk.kept (Bb.is (by first | rfl | simp)) hb4
  clear xa ya xb yb
  have hs4 := hb4.size
  try simp at hs4
  have xa := Ba.cellF
  have ya := Ba.frz
  replace za : w.heap.size < w4.heap.size := by omega
  have xb := Bb.cellF
  have yb := Bb.frz
  replace zb : w.heap.size + 1 < w4.heap.size := by omega
  replace hb4 : Hid (Below w.heap.size w w4) := hid (bl_then (by have := hb3.out; exact blBy) hb4)
  cases q4 : memA t.fs t.os.length 0 with
  | false =>
    go_wp2
    go_ret
    exact ⟨ret_bool (by rw [HX.out, q1, q2, q3, q4]; rfl), by have := hb4.out; exact blBy⟩
  | true =>
  have hfew := mem_few q4
  go_wp2_with fail
  refine (hasGoodNamesT _ t fa oa sa ra fc oc sc rc (HY.out.f.kept (by have := hb4.out; exact blBy)) (HY.out.o.kept (by have := hb4.out; exact blBy)) (by omega) (by omega) HK.out.fs HK.out.os).mono ?_
  rintro e w5 ⟨rfl, hb5⟩
  replace Ba : Blk w5 (w.heap.size) 24 #[.slice ta l.length tc] := Blk.kept (Ba.is (by first | rfl | simp)) hb5
  replace Bb : Blk w5 (w.heap.size + 1) 62 #[.string (strOfNums t.name), .bool t.enum, .slice fa t.fs.length fc, .slice oa t.os.length oc, .slice sa t.ss.length sc, .slice ra t.rs.length rc] := Blk.kept (Bb.is (by first | rfl | simp)) hb5
  clear xa ya xb yb
  have hs5 := hb5.size
  try simp at hs5
  have xa := Ba.cellF
  have ya := Ba.frz
  replace za : w.heap.size < w5.heap.size := by omega
  have xb := Bb.cellF
  have yb := Bb.frz
  replace zb : w.heap.size + 1 < w5.heap.size := by omega
  replace hb5 : Hid (Below w.heap.size w w5) := hid (bl_then (by have := hb4.out; exact blBy) hb5)
  go_wp2
  go_ret
  exact ⟨ret_bool (by rw [HX.out, q1, q2, q3, q4]; rfl), by have := hb5.out; exact blBy⟩
def typB (l : List TV) (t : TT) : Bool := if t.enum = true then decide (t.fs.length + t.os.length + t.rs.length = 0) && symB t.ss else decide (t.ss.length = 0) && msgB l t
theorem isGoodTypeT (w : World) (l : List TV) (ta : Option Addr) (tc : Nat) (t : TT) (fa oa sa ra : Option Addr) (fc oc sc rc : Nat) (h : TbR w (.slice ta l.length tc) l) (hx : TyR w ⟨t, .slice fa t.fs.length fc, .slice oa t.os.length oc, .slice sa t.ss.length sc, .slice ra t.rs.length rc⟩) (hk : OkT t) (hz : t.fs.length + t.os.length + t.rs.length ≤ 9223372036854775807) : Calls Tryd.prog 30 #[.agg #[.slice ta l.length tc], .agg #[.string (strOfNums t.name), .bool t.enum, .slice fa t.fs.length fc, .slice oa t.os.length oc, .slice sa t.ss.length sc, .slice ra t.rs.length rc]] w fun e w' => e = .returned (.bool (typB l t)) ∧ Below w.heap.size w w' := by
  have HX : Hid (typB l t = if t.enum = true then decide (t.fs.length + t.os.length + t.rs.length = 0) && symB t.ss else decide (t.ss.length = 0) && msgB l t) := hid rfl
  have HT := hid h
  have HY := hid hx
  have HK := hid hk
  obtain ⟨_, _, e, hn3⟩ := rowS_sl hx.s
  clear e
  have e3 : (t.ss.length : Int) ≤ 9223372036854775807 := by dsimp only at hn3; omega
  have e1 : (t.fs.length : Int) + (t.os.length : Int) + (t.rs.length : Int) ≤ 9223372036854775807 := by omega
  clear h hx hk hn3
  cases q : t.enum with
  | true =>
    rw [q] at HX
    by_cases h0 : t.fs.length + t.os.length + t.rs.length = 0
    case neg =>
      replace HX := hid (show typB l t = false by rw [HX.out, if_pos rfl, decide_eq_false h0]; rfl)
      have k0 : ¬ (t.fs.length : Int) + (t.os.length : Int) + (t.rs.length : Int) = 0 := by omega
      have k1 : ((t.fs.length : Int) + (t.os.length : Int) + (t.rs.length : Int) == 0) = false := by rw [beq_eq_false_iff_ne]; exact k0
      go_enter Tryd.func30, Tryd.ntmps30
      go_wp2
      go_ret
      exact ⟨ret_bool HX.out.symm, by exact blBy⟩
    replace HX := hid (show typB l t = symB t.ss by rw [HX.out]; simp [h0])
    have f1 : (t.fs.length : Int) = 0 := by omega
    have f2 : (t.os.length : Int) = 0 := by omega
    have f3 : (t.rs.length : Int) = 0 := by omega
    go_enter Tryd.func30, Tryd.ntmps30
    go_wp2_with fail
    refine (hasGoodSymbolsT t.ss _ sa sc (HY.out.s.kept (by exact blBy)) HK.out.ss).mono ?_
    rintro e w1 ⟨rfl, hb1⟩
    replace hb1 : Hid (Below w.heap.size w w1) := hid (bl_then (by exact blBy) hb1)
    go_wp2
    go_ret
    exact ⟨ret_bool HX.out.symm, by have := hb1.out; exact blBy⟩
  | false =>
    rw [q] at HX
    by_cases h0 : t.ss.length = 0
    case neg =>
      replace HX := hid (show typB l t = false by rw [HX.out]; simp [h0])
      have k1 : ((t.ss.length : Int) == 0) = false := by rw [beq_eq_false_iff_ne]; omega
      go_enter Tryd.func30, Tryd.ntmps30
      go_wp2
      go_ret
      exact ⟨ret_bool HX.out.symm, by exact blBy⟩
    replace HX := hid (show typB l t = msgB l t by rw [HX.out]; simp [h0])
    have k1 : ((t.ss.length : Int) == 0) = true := by rw [beq_iff_eq]; omega
    have HM : Hid (∀ W, TbR W (.slice ta l.length tc) l → TyR W ⟨t, .slice fa t.fs.length fc, .slice oa t.os.length oc, .slice sa t.ss.length sc, .slice ra t.rs.length rc⟩ → Calls Tryd.prog 51 #[.agg #[.slice ta l.length tc], .agg #[.string (strOfNums t.name), .bool false, .slice fa t.fs.length fc, .slice oa t.os.length oc, .slice sa 0 sc, .slice ra t.rs.length rc]] W fun e w' => e = .returned (.bool (msgB l t)) ∧ Below W.heap.size W w') := hid (fun W a b => by
      have HM := isGoodMessageT W l ta tc t fa oa sa ra fc oc sc rc a b HK.out
      rw [q, h0] at HM
      exact HM)
    go_enter Tryd.func30, Tryd.ntmps30
    go_wp2_with fail
    refine (HM.out _ (HT.out.kept (by exact blBy)) (HY.out.kept (by exact blBy))).mono ?_
    rintro e w1 ⟨rfl, hb1⟩
    replace hb1 : Hid (Below w.heap.size w w1) := hid (bl_then (by exact blBy) hb1)
    go_wp2
    go_ret
    exact ⟨ret_bool HX.out.symm, by have := hb1.out; exact blBy⟩
def cut8 : List UInt8 → List (List UInt8)
  | [] => [[]]
  | c :: r => if c = 46 then [] :: cut8 r else (c :: (cut8 r).headD []) :: (cut8 r).tail
theorem split_cut8 : ∀ l : List UInt8, Lib.splitK [46] 0 (Lib.count l [46]) l = cut8 l
  | [] => by rfl
  | c :: r => by
    have ih := split_cut8 r
    rw [cut8]
    by_cases h : c = 46
    · subst h
      rw [if_pos rfl, Lib.count_cons_eq, Nat.add_comm, Lib.splitK, Lib.index_one, Lib.indexByte]
      simp [ih]
    · rw [if_neg h, Lib.count_cons_ne c 46 r h, ← ih]
      cases hn : Lib.count r [46] with
      | zero => simp [Lib.splitK]
      | succ k =>
        have hi : Lib.indexByte r 46 ≠ -1 := fun e => by
          rw [← Lib.index_one] at e
          rw [Lib.count_miss e] at hn
          cases hn
        have hg := Lib.indexByte_ge r 46
        obtain ⟨i, hi2⟩ : ∃ i : Nat, Lib.indexByte r 46 = i := ⟨(Lib.indexByte r 46).toNat, by omega⟩
        have hx : Lib.indexByte (c :: r) 46 = ((i + 1 : Nat) : Int) := by
          rw [Lib.indexByte, if_neg (by simpa using h), hi2, if_neg (by simp)]; omega
        rw [Lib.splitK, Lib.splitK, Lib.index_one, Lib.index_one, hx, hi2, if_neg (by simp; try omega), if_neg (by simp)]
        simp
def cutI : List Int → List (List Int)
  | [] => [[]]
  | c :: r => if c = 46 then [] :: cutI r else (c :: (cutI r).headD []) :: (cutI r).tail
def b8 (n : Int) : UInt8 := UInt8.ofNat n.toNat
theorem b8_dot {c : Int} (h : 0 ≤ c ∧ c ≤ 255) : b8 c = 46 ↔ c = 46 := by
  constructor
  · intro e
    have h2 := congrArg UInt8.toNat e
    simp only [b8, UInt8.toNat_ofNat'] at h2
    have : (46 : UInt8).toNat = 46 := rfl
    omega
  · intro e; subst e; rfl
theorem cutI_ne : ∀ l : List Int, ∃ p q, cutI l = p :: q
  | [] => ⟨_, _, rfl⟩
  | c :: r => by rw [cutI]; split <;> exact ⟨_, _, rfl⟩
theorem cut8_I : ∀ l : List Int, (∀ c ∈ l, 0 ≤ c ∧ c ≤ 255) → cut8 (l.map b8) = (cutI l).map (·.map b8)
  | [], _ => rfl
  | c :: r, h => by
    have ih := cut8_I r (fun c hc => h c (by simp [hc]))
    have hd := b8_dot (h c (by simp))
    rw [List.map_cons, cut8, cutI, ih]
    by_cases e : c = 46
    · rw [if_pos (hd.2 e), if_pos e]; rfl
    · rw [if_neg (fun q => e (hd.1 q)), if_neg e]
      obtain ⟨p, q, e2⟩ := cutI_ne r
      rw [e2]
      rfl
theorem cutI_mem : ∀ (l : List Int) (p : List Int), p ∈ cutI l → (∀ c ∈ p, c ∈ l) ∧ p.length ≤ l.length
  | [], p, h => by
    rw [cutI] at h
    simp at h
    subst h
    simp
  | c :: r, p, h => by
    have ih := cutI_mem r
    obtain ⟨x, y, e⟩ := cutI_ne r
    rw [cutI, e] at h
    rw [e] at ih
    split at h
    · rcases List.mem_cons.1 h with rfl | h
      · simp
      · obtain ⟨h1, h2⟩ := ih p h
        exact ⟨fun d hd => List.mem_cons_of_mem _ (h1 d hd), by simp; omega⟩
    · simp only [List.headD_cons, List.tail_cons] at h
      rcases List.mem_cons.1 h with rfl | h
      · obtain ⟨h1, h2⟩ := ih x (by simp)
        refine ⟨fun d hd => ?_, by simp; omega⟩
        rcases List.mem_cons.1 hd with rfl | hd
        · simp
        · exact List.mem_cons_of_mem _ (h1 d hd)
      · obtain ⟨h1, h2⟩ := ih p (List.mem_cons_of_mem _ h)
        exact ⟨fun d hd => List.mem_cons_of_mem _ (h1 d hd), by simp; omega⟩
theorem cutI_len : ∀ l : List Int, (cutI l).length = l.count 46 + 1
  | [] => rfl
  | c :: r => by
    have ih := cutI_len r
    obtain ⟨x, y, e⟩ := cutI_ne r
    rw [cutI, e]
    rw [e] at ih
    rw [List.count_cons]
    by_cases h : c = 46
    · subst h; simp at ih ⊢; omega
    · rw [if_neg h]; simp [h] at ih ⊢; omega
theorem str_data (xs : List Int) : (strOfNums xs).data.toList = xs.map b8 := by simp [strOfNums, b8]
def dotS : ByteArray := ⟨#[46]⟩
theorem count8 : ∀ l : List Int, (∀ c ∈ l, 0 ≤ c ∧ c ≤ 255) → (l.map b8).count 46 = l.count 46
  | [], _ => rfl
  | c :: r, h => by
    have hd := b8_dot (h c (by simp))
    rw [List.map_cons, List.count_cons, List.count_cons, count8 r (fun c hc => h c (by simp [hc]))]
    by_cases e : c = 46
    · rw [hd.2 e, e]; rfl
    · have : b8 c ≠ 46 := fun q => e (hd.1 q)
      simp [e, this]
theorem countB_dot (xs : List Int) (h : ∀ c ∈ xs, 0 ≤ c ∧ c ≤ 255) : Lib.countB (strOfNums xs) dotS = xs.count 46 := by
  unfold Lib.countB
  rw [show dotS.data.toList = [46] from rfl, Lib.count_one, str_data, count8 xs h]
theorem splitB_dot (xs : List Int) (h : ∀ c ∈ xs, 0 ≤ c ∧ c ≤ 255) : Lib.splitB dotS 0 (Lib.countB (strOfNums xs) dotS) (strOfNums xs) = (cutI xs).map strOfNums := by
  have e := Lib.splitB_data dotS 0 (Lib.countB (strOfNums xs) dotS) (strOfNums xs)
  have e2 : Lib.splitK dotS.data.toList 0 (Lib.countB (strOfNums xs) dotS) (strOfNums xs).data.toList = (cutI xs).map (·.map b8) := by
    unfold Lib.countB
    rw [show dotS.data.toList = [46] from rfl, split_cut8, str_data, cut8_I xs h]
  rw [e2] at e
  have inj : ∀ a b : List ByteArray, a.map (fun s => s.data.toList) = b.map (fun s => s.data.toList) → a = b := by
    intro a
    induction a with
    | nil => intro b h; cases b with
      | nil => rfl
      | cons _ _ => simp at h
    | cons x r ih => intro b h; cases b with
      | nil => simp at h
      | cons y s =>
        simp only [List.map_cons, List.cons.injEq] at h
        rw [ih s h.2]
        congr 1
        apply ByteArray.ext; apply Array.ext'; exact h.1
  apply inj
  rw [e, List.map_map]
  apply List.map_congr_left
  intro p _
  exact (str_data p).symm
def fullB (t : TT) : Bool := decide (t.name.count 46 < (if t.enum = true then 9 else 8)) && (cutI t.name).all nmB
theorem splitT (xs : List Int) (m : Int) (w : World) (hs : xs.length < 4294967281) (hb : ∀ c ∈ xs, 0 ≤ c ∧ c ≤ 255) (hm : w.cell? ⟨0, 0, none⟩ = some (.int .i64 m)) : Calls Tryd.prog 48 #[.string (strOfNums xs), .string dotS] w fun e w' => ∃ a c, e = .returned (.slice a (cutI xs).length c) ∧ RowS w' AnyZ 1 (.slice a (cutI xs).length c) (cutI xs).length ((cutI xs).flatMap cN) ∧ Below w.heap.size w w' := by
  refine (Tryd.strings_Split (strOfNums xs) dotS m w (by rw [strOfNums_size]; exact hs) hm (by decide)).mono ?_
  rintro e w' ⟨rfl, rfl⟩
  have hc := cutI_len xs
  rw [splitB_dot xs hb, countB_dot xs hb]
  refine ⟨some ⟨w.heap.size, 0, none⟩, xs.count 46 + 1, by rw [hc], ⟨some ⟨w.heap.size, 0, none⟩, xs.count 46 + 1, rfl, ⟨flatM_len (k := 1) (fun _ => rfl) _, by omega, by have := List.count_le_length (a := (46 : Int)) (l := xs); omega, .inr ⟨w.heap.size, 0, rfl, trivial, fun j u hu => ?_⟩⟩⟩, below_alloc _⟩
  rw [Nat.zero_add]
  refine (Blk.new w 9 _).cell j u ?_
  have e2 : ∀ l : List (List Int), l.flatMap cN = (l.map strOfNums).map Value.string := by
    intro l
    induction l with
    | nil => rfl
    | cons x r ih => rw [List.flatMap_cons, ih]; rfl
  rw [e2] at hu
  simpa using hu
theorem countT (xs : List Int) (w : World) (hb : ∀ c ∈ xs, 0 ≤ c ∧ c ≤ 255) : Calls Tryd.prog 46 #[.string (strOfNums xs), .string dotS] w fun e w' => e = .returned (.int .i64 (xs.count 46 : Nat)) ∧ w = w' := by
  refine (Tryd.strings_Count_one (strOfNums xs) 46 w).mono ?_
  rintro e w' ⟨rfl, rfl⟩
  unfold Lib.countByte
  rw [str_data, count8 xs hb]
  exact ⟨rfl, rfl⟩
theorem isFullNameT (w : World) (t : TT) (v1 v2 v3 v4 : Value) (m : Int) (hm : w.cell? ⟨0, 0, none⟩ = some (.int .i64 m)) (ht : ∀ c ∈ t.name, 0 ≤ c ∧ c ≤ 255) (hl : t.name.length < 4294967281) : Calls Tryd.prog 28 #[.agg #[.string (strOfNums t.name), .bool t.enum, v1, v2, v3, v4]] w fun e w' => e = .returned (.bool (fullB t)) ∧ Below w.heap.size w w' := by
  have HX : Hid (fullB t = (decide (t.name.count 46 < (if t.enum = true then 9 else 8)) && (cutI t.name).all nmB)) := hid rfl
  have hcl : t.name.count 46 < 4294967281 := Nat.lt_of_le_of_lt List.count_le_length hl
  have HM := hid hm
  have HT := hid ht
  have HL := hid hl
  have HS : Hid (∀ W, Below w.heap.size w W → Calls Tryd.prog 48 #[.string (strOfNums t.name), .string dotS] W fun e w' => ∃ a c, e = .returned (.slice a (cutI t.name).length c) ∧ RowS w' AnyZ 1 (.slice a (cutI t.name).length c) (cutI t.name).length ((cutI t.name).flatMap cN) ∧ Below W.heap.size W w') := hid fun W hW => splitT t.name m W HL.out HT.out (cell_below HM.out hW)
  have HC : Hid (∀ W, Calls Tryd.prog 46 #[.string (strOfNums t.name), .string dotS] W fun e w' => e = .returned (.int .i64 (t.name.count 46 : Nat)) ∧ W = w') := hid fun W => countT t.name W HT.out
  have HP : Hid (∀ x ∈ cutI t.name, TxA x) := hid fun x hx => ⟨fun c hc => HT.out c ((cutI_mem _ _ hx).1 c hc), by have := (cutI_mem _ _ hx).2; have := HL.out; omega⟩
  clear hm ht hl HT HL HM
  generalize hk : t.name.count 46 = k at *
  clear hk
  cases q : t.enum with
  | true =>
    rw [q] at HX
    by_cases h0 : k < 9
    case neg =>
      replace HX := hid (show fullB t = false by rw [HX.out, if_pos rfl, decide_eq_false h0]; rfl)
      have k0 : ¬ (k : Int) < 9 := by omega
      go_enter Tryd.func28, Tryd.ntmps28
      go_wp2_with (first | (go_at_call 46; refine (HC.out _).mono ?_; rintro e w1 ⟨rfl, rfl⟩))
      go_ret
      exact ⟨ret_bool HX.out.symm, by exact blBy⟩
    replace HX := hid (show fullB t = (cutI t.name).all nmB by rw [HX.out, if_pos rfl, decide_eq_true h0]; rfl)
    have k0 : (k : Int) < 9 := by omega
    go_enter Tryd.func28, Tryd.ntmps28
    go_wp2_with (first | (go_at_call 46; refine (HC.out _).mono ?_; rintro e w1 ⟨rfl, rfl⟩) | (go_at_call 48; refine (HS.out _ (by exact blBy)).mono ?_; rintro e w2 ⟨a2, c2, rfl, hr2, hb2⟩; replace hb2 : Hid (Below w.heap.size w w2) := hid (bl_then (by exact blBy) hb2); replace hr2 := hid hr2) | (go_at_call 47; refine (areNamesT _ _ _ _ _ hr2.out HP.out).mono ?_; rintro e w3 ⟨rfl, rfl⟩))
    go_ret
    exact ⟨ret_bool HX.out.symm, by have := hb2.out; exact blBy⟩
  | false =>
    rw [q] at HX
    by_cases h0 : k < 8
    case neg =>
      replace HX := hid (show fullB t = false by rw [HX.out, if_neg (by simp), decide_eq_false h0]; rfl)
      have k0 : ¬ (k : Int) < 8 := by omega
      go_enter Tryd.func28, Tryd.ntmps28
      go_wp2_with (first | (go_at_call 46; refine (HC.out _).mono ?_; rintro e w1 ⟨rfl, rfl⟩))
      go_ret
      exact ⟨ret_bool HX.out.symm, by exact blBy⟩
    replace HX := hid (show fullB t = (cutI t.name).all nmB by rw [HX.out, if_neg (by simp), decide_eq_true h0]; rfl)
    have k0 : (k : Int) < 8 := by omega
    go_enter Tryd.func28, Tryd.ntmps28
    go_wp2_with (first | (go_at_call 46; refine (HC.out _).mono ?_; rintro e w1 ⟨rfl, rfl⟩) | (go_at_call 48; refine (HS.out _ (by exact blBy)).mono ?_; rintro e w2 ⟨a2, c2, rfl, hr2, hb2⟩; replace hb2 : Hid (Below w.heap.size w w2) := hid (bl_then (by exact blBy) hb2); replace hr2 := hid hr2) | (go_at_call 47; refine (areNamesT _ _ _ _ _ hr2.out HP.out).mono ?_; rintro e w3 ⟨rfl, rfl⟩))
    go_ret
    exact ⟨ret_bool HX.out.symm, by have := hb2.out; exact blBy⟩
theorem litS_inj {x y : List Int} (hx : TxA x) (hy : TxA y) (h : litS x = litS y) : x = y := by
  unfold litS at h
  refine strOfNums_inj x y hx.1 hy.1 ?_
  apply ByteArray.ext
  apply Array.ext'
  injection h
def named (l : List TV) (x : List Int) : Bool := l.any (fun v => v.t.name == x)
/-- Block b is a map of the names of l's first i types, each to its index. -/
def Kn (w : World) (b : Nat) (l : List TV) (i : Nat) : Prop := ∃ D : DataW Unit, w.ownsMap Tryd.prog 9 (plainElem Tryd.prog 3) b i D ∧ Go.Maps.IsMap D ∧ ∀ x, TxA x → Go.Maps.has D (litS x) = named (l.take i) x ∧ ∀ j (hj : j < l.length), j < i → l[j].t.name = x → D.atKey (litS x) (.lit (.int .i64 0)) = .lit (.int .i64 j)
theorem wfI {i : Nat} (h : i < 128) : (Lit.int .i64 (i : Int)).wf = true := by
  simp [Lit.wf, IntKind.min, IntKind.max, IntKind.signed, IntKind.bits]
  omega
theorem Kn.kept {w w' : World} {b : Nat} {l : List TV} {i : Nat} (h : Kn w b l i) (hb : Below w.heap.size w w') : Kn w' b l i := by
  obtain ⟨D, h1, h2, h3⟩ := h
  exact ⟨D, h1.kept (below_grown hb) (by simp), h2, h3⟩
theorem Kn.lt {w : World} {b : Nat} {l : List TV} {i : Nat} (h : Kn w b l i) : b < w.heap.size := by
  obtain ⟨D, h1, _⟩ := h
  exact h1.lt
theorem Kn.new (w : World) (l : List TV) : Kn (w.alloc (.map #[] 0)) w.heap.size l 0 := by
  refine ⟨_, World.ownsMap_made _ _ _ _, ⟨[], rfl⟩, fun x hx => ⟨rfl, fun j hj h => by omega⟩⟩
theorem Kn.zero3 (w : World) : (zeroValue 3).run Tryd.prog w = .ok (.int .i64 0) w := by rfl
theorem Kn.look {w : World} {b : Nat} {l : List TV} {i : Nat} (h : Kn w b l i) {x : List Int} (hx : TxA x) : ∃ c, (Instr.lookup 65 (.map (some b)) (.string (strOfNums x)) true).run Tryd.prog w = .ok (.tuple #[.int .i64 c, .bool (named (l.take i) x)]) w ∧ ∀ j (hj : j < l.length), j < i → l[j].t.name = x → c = j := by
  obtain ⟨D, h1, h2, h3⟩ := h
  have hkey : keyOf Tryd.prog 9 (.string (strOfNums x)) = some (litS x) := Go.WideMaps.keyOf_string_mk Tryd.underlying9 (by rw [strOfNums_size]; exact hx.2)
  obtain ⟨v, ps, hrun, hv⟩ := h1.look_ok (Go.Maps.string_keyed Tryd.underlying9) Tryd.underlying65 (Kn.zero3 w) (plainElem_int Tryd.underlying3 (by decide)) hkey
  obtain ⟨c, rfl, hc, hwc⟩ := plainElem_int_inv Tryd.underlying3 hv
  obtain ⟨g1, g2⟩ := h3 x hx
  rw [g1] at hrun
  refine ⟨c, hrun, fun j hj hji e => ?_⟩
  have hc1 := congrArg Prod.fst hc
  have e2 := g2 j hj hji e
  rw [e2] at hc1
  injection hc1 with hc1
  injection hc1 with _ hc1
  exact hc1.symm
theorem Kn.put {w : World} {b : Nat} {l : List TV} {i : Nat} (h : Kn w b l i) (hi : i < l.length) (hs : i < 128) (hx : ∀ v ∈ l, TxA v.t.name) (hn : named (l.take i) l[i].t.name = false) : ∃ w', (Instr.mapUpdate 65 (.map (some b)) (.string (strOfNums l[i].t.name)) (.int .i64 (i : Int))).run Tryd.prog w = .ok () w' ∧ Kn w' b l (i + 1) ∧ w.grownBy w' (some b) := by
  obtain ⟨D, h1, h2, h3⟩ := h
  have hxi := hx _ (List.getElem_mem hi)
  have hkey : keyOf Tryd.prog 9 (.string (strOfNums l[i].t.name)) = some (litS l[i].t.name) := Go.WideMaps.keyOf_string_mk Tryd.underlying9 (by rw [strOfNums_size]; exact hxi.2)
  obtain ⟨w', hrun, ho, hg⟩ := h1.update (val := .int .i64 (i : Int)) (Go.Maps.string_keyed Tryd.underlying9) Tryd.underlying65 (by unfold maxLen; omega) hkey (plainElem_int Tryd.underlying3 (wfI (by omega)))
  refine ⟨w', hrun, ⟨_, ho, ?_, fun x hx2 => ?_⟩, hg⟩
  · obtain ⟨es, rfl⟩ := h2; exact ⟨_, rfl⟩
  · obtain ⟨g1, g2⟩ := h3 x hx2
    have htk : l.take (i + 1) = l.take i ++ [l[i]] := List.take_succ_eq_append_getElem hi
    by_cases e : x = l[i].t.name
    · subst e
      refine ⟨?_, fun j hj hji ej => ?_⟩
      · rw [Go.Maps.has_put_same h2 (by unfold litS; trivial), htk]
        unfold named
        rw [List.any_append]
        simp
      · rw [Go.Maps.atKey_put_same h2 (by unfold litS; trivial)]
        by_cases e3 : j = i
        · subst e3; rfl
        · exfalso
          have : named (l.take i) l[i].t.name = true := by
            unfold named
            rw [List.any_eq_true]
            refine ⟨l[j], ?_, by simp [ej]⟩
            rw [List.mem_take_iff_getElem]
            exact ⟨j, by omega, rfl⟩
          rw [hn] at this
          cases this
    · have hne : litS x ≠ litS l[i].t.name := fun q => e (litS_inj hx2 hxi q)
      refine ⟨?_, fun j hj hji ej => ?_⟩
      · rw [Go.Maps.has_put_other hne, g1, htk]
        have e4 : ¬ l[i].t.name = x := fun q => e q.symm
        unfold named
        rw [List.any_append]
        simp [e4]
      · rw [Go.Maps.atKey_put_other hne]
        refine g2 j hj ?_ ej
        have : j ≠ i := fun q => e (by subst q; exact ej.symm)
        omega
end Go.Proofs.YtbiohlfcikdldaaDoor
