/-
  A full name: its names, and how many.
  The names ahead, in a map.
  What is around a type.
  A table is good: what the program answers.
  A type's block.
  LowerType.
  Lower.
  Steps and rows compared.
-/
import Derived.Test.YtdhkbdngmejklaaGreatDoorCKK
import Derived.Test.YtdhkbdngmejklaaGreatDoorCKI
import Derived.Test.YtdhkbdngmejklaaGreatDoorCTA
import Derived.Laws.StructEq
namespace Go.Proofs.YtdhkbdngmejklaaGreatDoor
open Go.RowKit
set_option maxRecDepth 1000000
set_option linter.unusedVariables false
set_option linter.unusedSimpArgs false
set_option maxHeartbeats 1000000
def fullB (t : TT) : Bool := decide (t.name.count 46 < (if t.enum = true then 9 else 8)) && (cutI t.name).all nmB
theorem splitT (xs : List Int) (m : Int) (w : World) (hs : xs.length < 4294967281) (hb : ∀ c ∈ xs, 0 ≤ c ∧ c ≤ 255) (hm : w.cell? ⟨0, 0, none⟩ = some (.int .i64 m)) : Calls Tryz.prog 59 #[.string (strOfNums xs), .string dotS] w fun e w' => ∃ a c, e = .returned (.slice a (cutI xs).length c) ∧ RowS w' AnyZ 1 (.slice a (cutI xs).length c) (cutI xs).length ((cutI xs).flatMap cN) ∧ Below w.heap.size w w' := by
  refine (Tryz.strings_Split (strOfNums xs) dotS m w (by rw [strOfNums_size]; exact hs) hm (by decide)).mono ?_
  rintro e w' ⟨rfl, rfl⟩
  have hc := cutI_len xs
  rw [splitB_dot xs hb, countB_dot xs hb]
  refine ⟨some ⟨w.heap.size, 0, none⟩, xs.count 46 + 1, by rw [hc], ⟨some ⟨w.heap.size, 0, none⟩, xs.count 46 + 1, rfl, ⟨flatM_len (k := 1) (fun _ => rfl) _, by omega, by have := List.count_le_length (a := (46 : Int)) (l := xs); omega, .inr ⟨w.heap.size, 0, rfl, trivial, fun j u hu => ?_⟩⟩⟩, below_alloc _⟩
  rw [Nat.zero_add]
  refine (Blk.new w 9 _).cell j u ?_
  have e2 : ∀ l : List (List Int), l.flatMap cN = (l.map strOfNums).map Value.string := by
    intro l
    induction l with
    | nil => rfl
    | cons x r ih => rw [List.flatMap_cons, ih]; rfl
  rw [e2] at hu
  simpa using hu
theorem countT (xs : List Int) (w : World) (hb : ∀ c ∈ xs, 0 ≤ c ∧ c ≤ 255) : Calls Tryz.prog 57 #[.string (strOfNums xs), .string dotS] w fun e w' => e = .returned (.int .i64 (xs.count 46 : Nat)) ∧ w = w' := by
  refine (Tryz.strings_Count_one (strOfNums xs) 46 w).mono ?_
  rintro e w' ⟨rfl, rfl⟩
  unfold Lib.countByte
  rw [str_data, count8 xs hb]
  exact ⟨rfl, rfl⟩
theorem isFullNameT (w : World) (t : TT) (v1 v2 v3 v4 : Value) (m : Int) (hm : w.cell? ⟨0, 0, none⟩ = some (.int .i64 m)) (ht : ∀ c ∈ t.name, 0 ≤ c ∧ c ≤ 255) (hl : t.name.length < 4294967281) : Calls Tryz.prog 35 #[.agg #[.string (strOfNums t.name), .bool t.enum, v1, v2, v3, v4]] w fun e w' => e = .returned (.bool (fullB t)) ∧ Below w.heap.size w w' := by
  have HX : Hid (fullB t = (decide (t.name.count 46 < (if t.enum = true then 9 else 8)) && (cutI t.name).all nmB)) := hid rfl
  have hcl : t.name.count 46 < 4294967281 := Nat.lt_of_le_of_lt List.count_le_length hl
  have HM := hid hm
  have HT := hid ht
  have HL := hid hl
  have HS : Hid (∀ W, Below w.heap.size w W → Calls Tryz.prog 59 #[.string (strOfNums t.name), .string dotS] W fun e w' => ∃ a c, e = .returned (.slice a (cutI t.name).length c) ∧ RowS w' AnyZ 1 (.slice a (cutI t.name).length c) (cutI t.name).length ((cutI t.name).flatMap cN) ∧ Below W.heap.size W w') := hid fun W hW => splitT t.name m W HL.out HT.out (cell_below HM.out hW)
  have HC : Hid (∀ W, Calls Tryz.prog 57 #[.string (strOfNums t.name), .string dotS] W fun e w' => e = .returned (.int .i64 (t.name.count 46 : Nat)) ∧ W = w') := hid fun W => countT t.name W HT.out
  have HP : Hid (∀ x ∈ cutI t.name, TxA x) := hid fun x hx => ⟨fun c hc => HT.out c ((cutI_mem _ _ hx).1 c hc), by have := (cutI_mem _ _ hx).2; have := HL.out; omega⟩
  clear hm ht hl HT HL HM
  generalize hk : t.name.count 46 = k at *
  clear hk
  cases q : t.enum with
  | true =>
    rw [q] at HX
    by_cases h0 : k < 9
    case neg =>
      replace HX := hid (show fullB t = false by rw [HX.out, if_pos rfl, decide_eq_false h0]; rfl)
      have k0 : ¬ (k : Int) < 9 := by omega
      go_enter Tryz.func35, Tryz.ntmps35
      go_wp2_with (first | (go_at_call 57; refine (HC.out _).mono ?_; rintro e w1 ⟨rfl, rfl⟩))
      go_ret
      exact ⟨ret_bool HX.out.symm, by exact blBy⟩
    replace HX := hid (show fullB t = (cutI t.name).all nmB by rw [HX.out, if_pos rfl, decide_eq_true h0]; rfl)
    have k0 : (k : Int) < 9 := by omega
    go_enter Tryz.func35, Tryz.ntmps35
    go_wp2_with (first | (go_at_call 57; refine (HC.out _).mono ?_; rintro e w1 ⟨rfl, rfl⟩) | (go_at_call 59; refine (HS.out _ (by exact blBy)).mono ?_; rintro e w2 ⟨a2, c2, rfl, hr2, hb2⟩; replace hb2 : Hid (Below w.heap.size w w2) := hid (bl_then (by exact blBy) hb2); replace hr2 := hid hr2) | (go_at_call 58; refine (areNamesT _ _ _ _ _ hr2.out HP.out).mono ?_; rintro e w3 ⟨rfl, rfl⟩))
    go_ret
    exact ⟨ret_bool HX.out.symm, by have := hb2.out; exact blBy⟩
  | false =>
    rw [q] at HX
    by_cases h0 : k < 8
    case neg =>
      replace HX := hid (show fullB t = false by rw [HX.out, if_neg (by simp), decide_eq_false h0]; rfl)
      have k0 : ¬ (k : Int) < 8 := by omega
      go_enter Tryz.func35, Tryz.ntmps35
      go_wp2_with (first | (go_at_call 57; refine (HC.out _).mono ?_; rintro e w1 ⟨rfl, rfl⟩))
      go_ret
      exact ⟨ret_bool HX.out.symm, by exact blBy⟩
    replace HX := hid (show fullB t = (cutI t.name).all nmB by rw [HX.out, if_neg (by simp), decide_eq_true h0]; rfl)
    have k0 : (k : Int) < 8 := by omega
    go_enter Tryz.func35, Tryz.ntmps35
    go_wp2_with (first | (go_at_call 57; refine (HC.out _).mono ?_; rintro e w1 ⟨rfl, rfl⟩) | (go_at_call 59; refine (HS.out _ (by exact blBy)).mono ?_; rintro e w2 ⟨a2, c2, rfl, hr2, hb2⟩; replace hb2 : Hid (Below w.heap.size w w2) := hid (bl_then (by exact blBy) hb2); replace hr2 := hid hr2) | (go_at_call 58; refine (areNamesT _ _ _ _ _ hr2.out HP.out).mono ?_; rintro e w3 ⟨rfl, rfl⟩))
    go_ret
    exact ⟨ret_bool HX.out.symm, by have := hb2.out; exact blBy⟩
theorem litS_inj {x y : List Int} (hx : TxA x) (hy : TxA y) (h : litS x = litS y) : x = y := by
  unfold litS at h
  refine strOfNums_inj x y hx.1 hy.1 ?_
  apply ByteArray.ext
  apply Array.ext'
  injection h
def named (l : List TV) (x : List Int) : Bool := l.any (fun v => v.t.name == x)
/-- Block b is a map of the names of l's first i types, each to its index. -/
def Kn (w : World) (b : Nat) (l : List TV) (i : Nat) : Prop := ∃ D : DataW Unit, w.ownsMap Tryz.prog 9 (plainElem Tryz.prog 3) b i D ∧ Go.Maps.IsMap D ∧ ∀ x, TxA x → Go.Maps.has D (litS x) = named (l.take i) x ∧ ∀ j (hj : j < l.length), j < i → l[j].t.name = x → D.atKey (litS x) (.lit (.int .i64 0)) = .lit (.int .i64 j)
theorem wfI {i : Nat} (h : i < 128) : (Lit.int .i64 (i : Int)).wf = true := by
  simp [Lit.wf, IntKind.min, IntKind.max, IntKind.signed, IntKind.bits]
  omega
theorem Kn.kept {w w' : World} {b : Nat} {l : List TV} {i : Nat} (h : Kn w b l i) (hb : Below w.heap.size w w') : Kn w' b l i := by
  obtain ⟨D, h1, h2, h3⟩ := h
  exact ⟨D, h1.kept (below_grown hb) (by simp), h2, h3⟩
theorem Kn.lt {w : World} {b : Nat} {l : List TV} {i : Nat} (h : Kn w b l i) : b < w.heap.size := by
  obtain ⟨D, h1, _⟩ := h
  exact h1.lt
theorem Kn.new (w : World) (l : List TV) : Kn (w.alloc (.map #[] 0)) w.heap.size l 0 := by
  refine ⟨_, World.ownsMap_made _ _ _ _, ⟨[], rfl⟩, fun x hx => ⟨rfl, fun j hj h => by omega⟩⟩
theorem Kn.zero3 (w : World) : (zeroValue 3).run Tryz.prog w = .ok (.int .i64 0) w := by rfl
theorem Kn.look {w : World} {b : Nat} {l : List TV} {i : Nat} (h : Kn w b l i) {x : List Int} (hx : TxA x) : ∃ c, (Instr.lookup 71 (.map (some b)) (.string (strOfNums x)) true).run Tryz.prog w = .ok (.tuple #[.int .i64 c, .bool (named (l.take i) x)]) w ∧ ∀ j (hj : j < l.length), j < i → l[j].t.name = x → c = j := by
  obtain ⟨D, h1, h2, h3⟩ := h
  have hkey : keyOf Tryz.prog 9 (.string (strOfNums x)) = some (litS x) := Go.WideMaps.keyOf_string_mk Tryz.underlying9 (by rw [strOfNums_size]; exact hx.2)
  obtain ⟨v, ps, hrun, hv⟩ := h1.look_ok (Go.Maps.string_keyed Tryz.underlying9) Tryz.underlying71 (Kn.zero3 w) (plainElem_int Tryz.underlying3 (by decide)) hkey
  obtain ⟨c, rfl, hc, hwc⟩ := plainElem_int_inv Tryz.underlying3 hv
  obtain ⟨g1, g2⟩ := h3 x hx
  rw [g1] at hrun
  refine ⟨c, hrun, fun j hj hji e => ?_⟩
  have hc1 := congrArg Prod.fst hc
  have e2 := g2 j hj hji e
  rw [e2] at hc1
  injection hc1 with hc1
  injection hc1 with _ hc1
  exact hc1.symm
theorem Kn.put {w : World} {b : Nat} {l : List TV} {i : Nat} (h : Kn w b l i) (hi : i < l.length) (hs : i < 128) (hx : ∀ v ∈ l, TxA v.t.name) (hn : named (l.take i) l[i].t.name = false) : ∃ w', (Instr.mapUpdate 71 (.map (some b)) (.string (strOfNums l[i].t.name)) (.int .i64 (i : Int))).run Tryz.prog w = .ok () w' ∧ Kn w' b l (i + 1) ∧ w.grownBy w' (some b) := by
  obtain ⟨D, h1, h2, h3⟩ := h
  have hxi := hx _ (List.getElem_mem hi)
  have hkey : keyOf Tryz.prog 9 (.string (strOfNums l[i].t.name)) = some (litS l[i].t.name) := Go.WideMaps.keyOf_string_mk Tryz.underlying9 (by rw [strOfNums_size]; exact hxi.2)
  obtain ⟨w', hrun, ho, hg⟩ := h1.update (val := .int .i64 (i : Int)) (Go.Maps.string_keyed Tryz.underlying9) Tryz.underlying71 (by unfold maxLen; omega) hkey (plainElem_int Tryz.underlying3 (wfI (by omega)))
  refine ⟨w', hrun, ⟨_, ho, ?_, fun x hx2 => ?_⟩, hg⟩
  · obtain ⟨es, rfl⟩ := h2; exact ⟨_, rfl⟩
  · obtain ⟨g1, g2⟩ := h3 x hx2
    have htk : l.take (i + 1) = l.take i ++ [l[i]] := List.take_succ_eq_append_getElem hi
    by_cases e : x = l[i].t.name
    · subst e
      refine ⟨?_, fun j hj hji ej => ?_⟩
      · rw [Go.Maps.has_put_same h2 (by unfold litS; trivial), htk]
        unfold named
        rw [List.any_append]
        simp
      · rw [Go.Maps.atKey_put_same h2 (by unfold litS; trivial)]
        by_cases e3 : j = i
        · subst e3; rfl
        · exfalso
          have : named (l.take i) l[i].t.name = true := by
            unfold named
            rw [List.any_eq_true]
            refine ⟨l[j], ?_, by simp [ej]⟩
            rw [List.mem_take_iff_getElem]
            exact ⟨j, by omega, rfl⟩
          rw [hn] at this
          cases this
    · have hne : litS x ≠ litS l[i].t.name := fun q => e (litS_inj hx2 hxi q)
      refine ⟨?_, fun j hj hji ej => ?_⟩
      · rw [Go.Maps.has_put_other hne, g1, htk]
        have e4 : ¬ l[i].t.name = x := fun q => e q.symm
        unfold named
        rw [List.any_append]
        simp [e4]
      · rw [Go.Maps.atKey_put_other hne]
        refine g2 j hj ?_ ej
        have : j ≠ i := fun q => e (by subst q; exact ej.symm)
        omega
def lastD (x : List Int) : Int := Lib.lastIndexByte (strOfNums x) 46
theorem lastD_is (x : List Int) : lastD x = -1 ∨ ∃ i : Nat, lastD x = i ∧ i < x.length := by
  rcases Lib.lastIndexByte_spec (strOfNums x) 46 with ⟨e, _⟩ | ⟨i, hi, e, _⟩
  · exact .inl e
  · exact .inr ⟨i, e, by rw [strOfNums_size] at hi; exact hi⟩
theorem lastT (x : List Int) (w : World) (h : x.length < 4611686018427387904) : Calls Tryz.prog 60 #[.string (strOfNums x), .string dotS] w fun e w' => e = .returned (.int .i64 (lastD x)) ∧ w = w' := by
  refine (Tryz.strings_LastIndex_one (strOfNums x) dotS rfl (by rw [strOfNums_size]; exact h) w).mono ?_
  rintro e w' ⟨rfl, rfl⟩
  exact ⟨rfl, rfl⟩
def standB (l : List TV) (i : Nat) (x : List Int) : Bool := if lastD x < 0 then true else match (l.take i).find? (fun v => v.t.name == x.take (lastD x).toNat) with
  | none => false
  | some v => !v.t.enum
theorem standsRightT (w : World) (l : List TV) (ta : Option Addr) (tc : Nat) (b i : Nat) (x : List Int) (h : TbR w (.slice ta l.length tc) l) (hk : Kn w b l i) (hx : TxA x) (hl : x.length < 4294967281) : Calls Tryz.prog 36 #[.agg #[.slice ta l.length tc], .map (some b), .string (strOfNums x)] w fun e w' => e = .returned (.bool (standB l i x)) ∧ Below w.heap.size w w' := by
  have HX : Hid (standB l i x = if lastD x < 0 then true else match (l.take i).find? (fun v => v.t.name == x.take (lastD x).toNat) with
  | none => false
  | some v => !v.t.enum) := hid rfl
  have HC : Hid (∀ W, Calls Tryz.prog 60 #[.string (strOfNums x), .string dotS] W fun e w' => e = .returned (.int .i64 (lastD x)) ∧ W = w') := hid fun W => lastT x W (by omega)
  obtain ⟨_, _, e, hn⟩ := rowS_sl h.row
  clear e
  have h1 : (l.length : Int) ≤ 9223372036854775807 := by omega
  have HT := hid h
  have HK := hid hk
  rcases lastD_is x with e | ⟨k, e, hkx⟩
  · rw [e] at HX HC
    replace HX := hid (show standB l i x = true by rw [HX.out]; rfl)
    clear h hk hx
    go_enter Tryz.func36, Tryz.ntmps36
    go_wp2_with (first | (go_at_call 60; refine (HC.out _).mono ?_; rintro e w1 ⟨rfl, rfl⟩))
    go_ret
    exact ⟨ret_bool HX.out.symm, by exact blBy⟩
  rw [e] at HX HC
  have hy : TxA (x.take k) := ⟨fun c hc => hx.1 c (List.mem_of_mem_take hc), by have := hx.2; simp; omega⟩
  have HS : Hid ((strOfNums x).extract 0 k = strOfNums (x.take k)) := hid (by rw [str_cut]; rfl)
  have HSZ : (strOfNums x).size = x.length := strOfNums_size x
  replace HX := hid (show standB l i x = match (l.take i).find? (fun v => v.t.name == x.take k) with
  | none => false
  | some v => !v.t.enum by rw [HX.out, if_neg (by omega)]; rfl)
  have k0 : ¬ (k : Int) < 0 := by omega
  have hkx' : (k : Int) < (x.length : Int) := by omega
  obtain ⟨c, hr, hc⟩ := (HK.out.kept (below_alloc (w := w) (.cells #[.slice ta l.length tc] 37))).look hy
  rw [← HS.out] at hr
  cases hf : (l.take i).find? (fun v => v.t.name == x.take k) with
  | none =>
    have hno : named (l.take i) (x.take k) = false := by
      unfold named
      rw [List.any_eq_false]
      intro v hv
      exact List.find?_eq_none.1 hf v hv
    replace HX := hid (show standB l i x = false by rw [HX.out, hf])
    rw [hno] at hr
    clear h hk hx hno hf hc
    go_enter Tryz.func36, Tryz.ntmps36
    go_wp2_with (first | (go_at_call 60; refine (HC.out _).mono ?_; rintro e w1 ⟨rfl, rfl⟩))
    go_ret
    exact ⟨ret_bool HX.out.symm, by exact blBy⟩
  | some v =>
    have hyes : named (l.take i) (x.take k) = true := by
      unfold named
      rw [List.any_eq_true]
      exact ⟨v, List.mem_of_find?_eq_some hf, by simpa using List.find?_some hf⟩
    obtain ⟨j, hj, ej⟩ := List.mem_take_iff_getElem.1 (List.mem_of_find?_eq_some hf)
    have hjl : j < l.length := by omega
    have hcj : c = (j : Int) := hc j hjl (by omega) (by rw [ej]; simpa using List.find?_some hf)
    subst hcj
    replace HX := hid (show standB l i x = !l[j].t.enum by rw [HX.out, hf, ej])
    rw [hyes] at hr
    have hjl' : (j : Int) < (l.length : Int) := by omega
    obtain ⟨tb, tof, rfl, hbl, -, c1, -⟩ := row6 HT.out.row hjl
    clear h hk hx hyes hf hc ej
    generalize l[j].t.enum = en at *
    go_enter Tryz.func36, Tryz.ntmps36
    go_wp2_with (first | (go_at_call 60; refine (HC.out _).mono ?_; rintro e w1 ⟨rfl, rfl⟩))
    go_ret
    exact ⟨ret_bool HX.out.symm, by exact blBy⟩
/-- What is asked of a table: that its texts and numbers can be. -/
structure OkV (x : TV) : Prop where
  ok : OkT x.t
  nl : x.t.name.length < 4294967281
  sz : x.t.fs.length + x.t.os.length + x.t.rs.length ≤ 9223372036854775807
def stepB (l : List TV) (j : Nat) (t : TT) : Bool := !named (l.take j) t.name && (fullB t && (standB l j t.name && typB l t))
def goodA (l : List TV) : List TV → Nat → Bool
  | [], _ => true
  | x :: r, j => stepB l j x.t && goodA l r (j + 1)
def goodB (l : List TV) : Bool := decide (l.length ≤ 128) && goodA l l 0
theorem run_makeMap0 {P : Program} (t : TypeId) (w : World) {ki e : TypeId} (ht : P.underlying t = some (.map ki e)) : (Instr.makeMap t none).run P w = .ok (.map (some w.heap.size)) (w.alloc (.map #[] 0)) := by
  simp [Instr.makeMap, run_underlying ht, Result.andThen]
theorem goodT (w : World) (l : List TV) (ta : Option Addr) (tc : Nat) (h : TbR w (.slice ta l.length tc) l) (hk : ∀ x ∈ l, OkV x) (m : Int) (hm : w.cell? ⟨0, 0, none⟩ = some (.int .i64 m)) : Calls Tryz.prog 22 #[.agg #[.slice ta l.length tc]] w fun e w' => e = .returned (.bool (goodB l)) ∧ Below w.heap.size w w' := by
  obtain ⟨_, _, e, hn⟩ := rowS_sl h.row
  clear e
  have h1 : (l.length : Int) ≤ 9223372036854775807 := by omega
  have HT := hid h
  have HK := hid hk
  have HM := hid hm
  clear h hk hm
  have HX : Hid (goodB l = (decide (l.length ≤ 128) && goodA l l 0)) := hid rfl
  by_cases hbig : 128 < l.length
  case pos =>
    have h2 : (128 : Int) < (l.length : Int) := by omega
    replace HX := hid (show goodB l = false by rw [HX.out, decide_eq_false (by omega)]; rfl)
    go_enter Tryz.func22, Tryz.ntmps22
    go_wp2
    go_ret
    exact ⟨ret_bool HX.out.symm, by exact blBy⟩
  have h2 : ¬ (128 : Int) < (l.length : Int) := by omega
  replace HX := hid (show goodB l = goodA l l 0 by rw [HX.out, decide_eq_true (by omega)]; rfl)
  have hmk := fun W => run_makeMap0 (P := Tryz.prog) 71 W Tryz.underlying71
  go_enter Tryz.func22, Tryz.ntmps22
  go_wp2
  clear hmk
  go_loopw [16] (fun r wr => ∃ j : Nat, r = .int .i64 j ∧ j ≤ l.length ∧ Hid (goodA l l 0 = goodA l (l.drop j) j) ∧ Hid (Kn wr (w.heap.size + 1) l j) ∧ Hid (Blk wr w.heap.size 37 #[.slice ta l.length tc]) ∧ Hid (Below w.heap.size w wr)) (fun r wr => l.length - numAt wr r)
  case atStart => exact ⟨0, rfl, by omega, hid rfl, hid (by have := Kn.new (w.alloc (Obj.cells #[Value.slice ta l.length tc] 37)) l; simpa using this), hid ((Blk.new _ _ _).kept (below_alloc _)), hid (by exact blBy)⟩
  case round =>
    obtain ⟨j, rfl, hj, hg, HKN, hB, hb⟩ := hrel
    by_cases hlt : j < l.length
    · have h3 : (j : Int) < (l.length : Int) := by omega
      have HST : Hid (goodA l (l.drop j) j = (stepB l j l[j].t && goodA l (l.drop (j + 1)) (j + 1))) := hid (by rw [List.drop_eq_getElem_cons hlt, goodA])
      have HTY := hid (HT.out.ty _ (List.getElem_mem hlt))
      have HOK := hid (HK.out _ (List.getElem_mem hlt))
      obtain ⟨tb, tof, rfl, hbl, c0, c1, c2, c3, c4, c5⟩ := row6 (HT.out.row.kept hb.out) hlt
      have HPUT : Hid (∀ W, Kn W (w.heap.size + 1) l j → named (l.take j) l[j].t.name = false → ∃ w', (Instr.mapUpdate 71 (.map (some (w.heap.size + 1))) (.string (strOfNums l[j].t.name)) (.int .i64 (j : Int))).run Tryz.prog W = .ok () w' ∧ Kn w' (w.heap.size + 1) l (j + 1) ∧ W.grownBy w' (some (w.heap.size + 1))) := hid fun W hW hN => hW.put hlt (by omega) (fun v hv => (HK.out v hv).ok.nm) hN
      generalize l[j] = x at *
      obtain ⟨t, f, o, s, r⟩ := x
      obtain ⟨fa, fc, ef, -⟩ := rowS_sl HTY.out.f
      obtain ⟨oa, oc, eo, -⟩ := rowS_sl HTY.out.o
      obtain ⟨sa, sc, es, -⟩ := rowS_sl HTY.out.s
      obtain ⟨ra, rc, er, -⟩ := rowS_sl HTY.out.r
      dsimp only at ef eo es er
      subst ef eo es er
      dsimp only at c0 c1 c2 c3 c4 c5
      obtain ⟨c, hr, -⟩ := (HKN.out.kept (below_alloc (w := wr) (.cells #[.string (strOfNums t.name), .bool t.enum, .slice fa t.fs.length fc, .slice oa t.os.length oc, .slice sa t.ss.length sc, .slice ra t.rs.length rc] 57))).look HOK.out.ok.nm
      try dsimp only at hr
      have Ba := hB.out
      have xa := Ba.cellF
      have ya := Ba.frz
      have za : w.heap.size < wr.heap.size := Ba.lt
      cases q0 : named (l.take j) t.name with
      | true =>
        rw [q0] at hr
        have HF : Hid (goodB l = false) := hid (by rw [HX.out, hg.out, HST.out]; simp [stepB, q0])
        go_wp2
        go_ret
        exact ⟨ret_bool HF.out.symm, by have := hb.out; exact blBy⟩
      | false =>
      rw [q0] at hr
      go_wp2_with fail
      refine (isFullNameT _ t _ _ _ _ m (cell_below HM.out (by have := hb.out; exact blBy)) HOK.out.ok.nm.1 HOK.out.nl).mono ?_
      rintro e w1 ⟨rfl, hb1⟩
      have Bb : Blk (wr.alloc (.cells #[.string (strOfNums t.name), .bool t.enum, .slice fa t.fs.length fc, .slice oa t.os.length oc, .slice sa t.ss.length sc, .slice ra t.rs.length rc] 57)) wr.heap.size 57 #[.string (strOfNums t.name), .bool t.enum, .slice fa t.fs.length fc, .slice oa t.os.length oc, .slice sa t.ss.length sc, .slice ra t.rs.length rc] := Blk.new _ _ _
      have Ba := Ba.kept (below_alloc (.cells #[.string (strOfNums t.name), .bool t.enum, .slice fa t.fs.length fc, .slice oa t.os.length oc, .slice sa t.ss.length sc, .slice ra t.rs.length rc] 57))
      replace HKN := hid (HKN.out.kept (below_alloc (.cells #[.string (strOfNums t.name), .bool t.enum, .slice fa t.fs.length fc, .slice oa t.os.length oc, .slice sa t.ss.length sc, .slice ra t.rs.length rc] 57)))
      have xb : True := trivial
      have yb : True := trivial
      have zb : True := trivial
      clear hr
      replace Ba : Blk w1 w.heap.size 37 #[.slice (some ⟨tb, tof, none⟩) l.length tc] := Blk.kept (Ba.is (by first | rfl | simp)) hb1
      replace Bb : Blk w1 wr.heap.size 57 #[.string (strOfNums t.name), .bool t.enum, .slice fa t.fs.length fc, .slice oa t.os.length oc, .slice sa t.ss.length sc, .slice ra t.rs.length rc] := Blk.kept (Bb.is (by first | rfl | simp)) hb1
      replace HKN := hid (HKN.out.kept hb1)
      clear xa ya xb yb
      have hs1 := hb1.size
      try simp at hs1
      have xa := Ba.cellF
      have ya := Ba.frz
      replace za : w.heap.size < w1.heap.size := by omega
      have xb := Bb.cellF
      have yb := Bb.frz
      replace zb : wr.heap.size < w1.heap.size := by omega
      replace hb1 : Hid (Below w.heap.size w w1) := hid (bl_then (by have := hb.out; exact blBy) hb1)
      cases q1 : fullB t with
      | false =>
        have HF : Hid (goodB l = false) := hid (by rw [HX.out, hg.out, HST.out]; simp [stepB, q0, q1])
        go_wp2
        go_ret
        exact ⟨ret_bool HF.out.symm, by have := hb1.out; exact blBy⟩
      | true =>
      go_wp2_with fail
      refine (standsRightT _ l _ tc (w.heap.size + 1) j t.name (HT.out.kept (by have := hb1.out; exact blBy)) HKN.out HOK.out.ok.nm HOK.out.nl).mono ?_
      rintro e w2 ⟨rfl, hb2⟩
      replace Ba : Blk w2 w.heap.size 37 #[.slice (some ⟨tb, tof, none⟩) l.length tc] := Blk.kept (Ba.is (by first | rfl | simp)) hb2
      replace Bb : Blk w2 wr.heap.size 57 #[.string (strOfNums t.name), .bool t.enum, .slice fa t.fs.length fc, .slice oa t.os.length oc, .slice sa t.ss.length sc, .slice ra t.rs.length rc] := Blk.kept (Bb.is (by first | rfl | simp)) hb2
      replace HKN := hid (HKN.out.kept hb2)
      clear xa ya xb yb
      have hs2 := hb2.size
      try simp at hs2
      have xa := Ba.cellF
      have ya := Ba.frz
      replace za : w.heap.size < w2.heap.size := by omega
      have xb := Bb.cellF
      have yb := Bb.frz
      replace zb : wr.heap.size < w2.heap.size := by omega
      replace hb2 : Hid (Below w.heap.size w w2) := hid (bl_then hb1.out hb2)
      cases q2 : standB l j t.name with
      | false =>
        have HF : Hid (goodB l = false) := hid (by rw [HX.out, hg.out, HST.out]; simp [stepB, q0, q1, q2])
        go_wp2
        go_ret
        exact ⟨ret_bool HF.out.symm, by have := hb2.out; exact blBy⟩
      | true =>
      go_wp2_with fail
      refine (isGoodTypeT _ l _ tc t fa oa sa ra fc oc sc rc (HT.out.kept (by have := hb2.out; exact blBy)) (HTY.out.kept (by have := hb2.out; exact blBy)) HOK.out.ok HOK.out.sz).mono ?_
      rintro e w3 ⟨rfl, hb3⟩
      replace Ba : Blk w3 w.heap.size 37 #[.slice (some ⟨tb, tof, none⟩) l.length tc] := Blk.kept (Ba.is (by first | rfl | simp)) hb3
      replace Bb : Blk w3 wr.heap.size 57 #[.string (strOfNums t.name), .bool t.enum, .slice fa t.fs.length fc, .slice oa t.os.length oc, .slice sa t.ss.length sc, .slice ra t.rs.length rc] := Blk.kept (Bb.is (by first | rfl | simp)) hb3
      replace HKN := hid (HKN.out.kept hb3)
      clear xa ya xb yb
      have hs3 := hb3.size
      try simp at hs3
      have xa := Ba.cellF
      have ya := Ba.frz
      replace za : w.heap.size < w3.heap.size := by omega
      have xb := Bb.cellF
      have yb := Bb.frz
      replace zb : wr.heap.size < w3.heap.size := by omega
      replace hb3 : Hid (Below w.heap.size w w3) := hid (bl_then hb2.out hb3)
      cases q3 : typB l t with
      | false =>
        have HF : Hid (goodB l = false) := hid (by rw [HX.out, hg.out, HST.out]; simp [stepB, q0, q1, q2, q3])
        go_wp2
        go_ret
        exact ⟨ret_bool HF.out.symm, by have := hb3.out; exact blBy⟩
      | true =>
      obtain ⟨w4, hr4, hk4, hg4⟩ := HPUT.out w3 HKN.out q0
      try dsimp only at hr4
      have HK4 := hid hk4
      have HB4 : Hid (Blk w4 w.heap.size 37 #[.slice (some ⟨tb, tof, none⟩) l.length tc]) := hid ((hg4.block _ za (by simp)).trans Ba)
      have HL4 : Hid (Below w.heap.size w w4) := hid (hb3.out.trans (grown_below hg4 (by omega) (by omega)))
      clear hk4 hg4
      go_wp2
      exact ⟨⟨j + 1, by simp, by omega, hid (by rw [hg.out, HST.out]; simp [stepB, q0, q1, q2, q3]), HK4, HB4, HL4⟩, by simp [numAt]; omega⟩
    · have h3 : ¬ (j : Int) < (l.length : Int) := by omega
      have HF : Hid (goodB l = true) := hid (by rw [HX.out, hg.out, List.drop_of_length_le (by omega)]; rfl)
      go_wp2
      go_ret
      exact ⟨ret_bool HF.out.symm, hb.out⟩
structure BK where
  dec : List IN
  enc : List IN
  rows : List LN
/-- A block of one's own. -/
structure BkO (w : World) (base : Nat) (k : BK) (d e r : Value) : Prop where
  hd : w.ownsRow base 63 5 d k.dec.length (k.dec.flatMap cIN)
  he : w.ownsRow base 63 5 e k.enc.length (k.enc.flatMap cIN)
  hr : w.ownsRow base 48 2 r k.rows.length (k.rows.flatMap cLN)
  ap : ∀ b, d.ownBlock = some b → e.ownBlock ≠ some b
theorem BkO.kept {w w' : World} {base : Nat} {k : BK} {d e r : Value} (h : BkO w base k d e r) (g : Below w.heap.size w w') : BkO w' base k d e r := ⟨own_kept h.hd g, own_kept h.he g, own_kept h.hr g, h.ap⟩
theorem BkO.mono {w : World} {base base' : Nat} {k : BK} {d e r : Value} (h : BkO w base k d e r) (g : base' ≤ base) : BkO w base' k d e r := ⟨own_mono h.hd g, own_mono h.he g, own_mono h.hr g, h.ap⟩
def loBK (t : TT) : BK := if t.enum = true then ⟨[], [], rowsL t.ss⟩ else ⟨decL t.fs, encL t.fs, []⟩
def BlkA (w : World) (k : BK) (e : Ending) (w' : World) : Prop := ∃ da dc ea ec ra rc, e = .returned (.agg #[.slice da k.dec.length dc, .slice ea k.enc.length ec, .slice ra k.rows.length rc]) ∧ BkO w' w.heap.size k (.slice da k.dec.length dc) (.slice ea k.enc.length ec) (.slice ra k.rows.length rc) ∧ Below w.heap.size w w'
theorem rowOldP {w : World} {Z : Nat → Prop} {k : Nat} {v : Value} {n : Nat} {fl : List Value} (hk : 0 < k) (h : RowS w Z k v n fl) : RowS w (fun b => b < w.heap.size) k v n fl := by
  obtain ⟨a, c, e, h⟩ := h
  refine ⟨a, c, e, h.length, h.le, h.max, ?_⟩
  rcases h.cells with h0 | ⟨b, off, rfl, hz, hc⟩
  · exact .inl h0
  · by_cases hn : n = 0
    · exact .inl ⟨hn, fun q => by cases q⟩
    · have hlt : 0 < fl.length := by rw [h.length]; exact Nat.mul_pos (by omega) hk
      exact .inr ⟨b, off, rfl, World.block_lt_of_cell? _ _ (hc 0 _ (List.getElem?_eq_getElem hlt)), hc⟩
theorem goodP_at {l : List TV} (hg : goodB l = true) {k : Nat} (hk : k < l.length) : stepB l k l[k].t = true := by
  unfold goodB at hg
  rw [Bool.and_eq_true] at hg
  have : ∀ (r : List TV) (i j : Nat), goodA l r i = true → (hj : j < r.length) → stepB l (i + j) r[j].t = true := by
    intro r
    induction r with
    | nil => intro i j _ hj; simp at hj
    | cons x r ih =>
      intro i j h hj
      rw [goodA, Bool.and_eq_true] at h
      cases j with
      | zero => exact h.1
      | succ j =>
        have := ih (i + 1) j h.2 (by simpa using hj)
        rw [show i + (j + 1) = i + 1 + j by omega]
        exact this
  have := this l 0 k hg.2 hk
  rw [Nat.zero_add] at this
  exact this
theorem goodP_len {l : List TV} (hg : goodB l = true) : l.length ≤ 128 := by
  unfold goodB at hg
  rw [Bool.and_eq_true, decide_eq_true_eq] at hg
  exact hg.1
theorem riseP_max : ∀ (fs : List FT) (z : Int), riseA fs z = true → z ≤ 536870911 ∧ ∀ f ∈ fs, f.num ≤ 536870911
  | [], z, h => ⟨by simpa [riseA] using h, by simp⟩
  | f :: r, z, h => by
    rw [riseA] at h
    by_cases hq : f.num ≤ z
    · rw [if_pos hq] at h; cases h
    · rw [if_neg hq] at h
      obtain ⟨h1, h2⟩ := riseP_max r f.num h
      refine ⟨by omega, fun g hg => ?_⟩
      rcases List.mem_cons.1 hg with rfl | hg
      · exact h1
      · exact h2 g hg
theorem fldP {l : List TV} {n : Nat} {f : FT} (h : fldB l n f = true) (hl : l.length ≤ 128) : (1 ≤ f.kind ∧ f.kind ≤ 17) ∧ (0 ≤ f.ref ∧ f.ref < 128) ∧ (0 ≤ f.lab ∧ f.lab ≤ 5) := by
  unfold fldB at h
  simp only [Bool.and_eq_true, decide_eq_true_eq] at h
  refine ⟨h.1, ?_, ?_⟩
  · have h2 := h.2.1
    unfold refB at h2
    by_cases hk : f.kind = 16 ∨ f.kind = 17
    · rw [if_pos hk] at h2
      cases hq : l[f.ref.toNat]? with
      | none => rw [hq] at h2; cases h2
      | some x =>
        rw [hq] at h2
        simp only [Bool.and_eq_true, decide_eq_true_eq] at h2
        have := (List.getElem?_eq_some_iff.1 hq).1
        omega
    · rw [if_neg hk, decide_eq_true_eq] at h2
      omega
  · have h3 := h.2.2.1
    unfold labB at h3
    by_cases h0 : f.lab = 0
    · omega
    · rw [if_neg h0] at h3
      by_cases h4 : f.lab = 3
      · omega
      · rw [if_neg h4, decide_eq_true_eq] at h3
        omega
theorem goodP_msg {l : List TV} (hg : goodB l = true) {k : Nat} (hk : k < l.length) (he : l[k].t.enum = false) : l[k].t.fs.length ≤ 128 ∧ Rise l[k].t.fs ∧ ∀ f ∈ l[k].t.fs, FOk f := by
  have h := goodP_at hg hk
  have hl := goodP_len hg
  unfold stepB typB msgB at h
  rw [he] at h
  simp only [Bool.and_eq_true, decide_eq_true_eq] at h
  have h2 := h.2.2.2
  simp only [Bool.false_eq_true, if_false, Bool.and_eq_true, decide_eq_true_eq, List.all_eq_true] at h2
  have hr := rise_all _ 0 h2.2.2.2.1
  have hm := riseP_max _ 0 h2.2.2.2.1
  refine ⟨h2.2.1.1, hr.2, fun f hf => ?_⟩
  obtain ⟨a, b, c⟩ := fldP (h2.2.2.1 f hf) hl
  exact ⟨⟨by have := hr.1 f hf; omega, hm.2 f hf⟩, a, c, b⟩
theorem goodP_enum {l : List TV} (hg : goodB l = true) {k : Nat} (hk : k < l.length) (he : l[k].t.enum = true) : 0 < l[k].t.ss.length ∧ l[k].t.ss.length ≤ 128 := by
  have h := goodP_at hg hk
  unfold stepB typB at h
  rw [he] at h
  simp only [Bool.and_eq_true, if_true] at h
  have h2 := h.2.2.2.2
  cases hs : l[k].t.ss with
  | nil => rw [hs] at h2; cases h2
  | cons s r =>
    rw [hs] at h2
    unfold symB at h2
    simp only [Bool.and_eq_true, decide_eq_true_eq] at h2
    exact ⟨by simp, h2.1⟩
theorem cellO3 {w : World} {b i g j1 j2 j3 : Nat} {v u1 u2 u3 : Value} (h : w.cell? ⟨b, i, none⟩ = some v) (hne : b ≠ g) : (((w.setCell ⟨g, j1, none⟩ u1).setCell ⟨g, j2, none⟩ u2).setCell ⟨g, j3, none⟩ u3).cell? ⟨b, i, none⟩ = some v := cellOth (cellOth (cellOth h hne) hne) hne
theorem own_set {w : World} {base e size n : Nat} {v u : Value} {fl : List Value} (h : w.ownsRow base e size v n fl) {q i : Nat} (hq : q < base) : (w.setCell ⟨q, i, none⟩ u).ownsRow base e size v n fl :=
  own_keep (f := (· ≠ q)) h (fun k hk e => by have := (own_type h hk).1; omega) (Keep.setCell _ _ _ (fun h => h rfl))
theorem blockOfE (w : World) (t : TT) (fa oa sa ra : Option Addr) (fc oc sc rc : Nat) (he : t.enum = true) (hs : RowS w AnyZ 2 (.slice sa t.ss.length sc) t.ss.length (t.ss.flatMap cSY)) (h0 : 0 < t.ss.length ∧ t.ss.length ≤ 128) : Calls Tryz.prog 23 #[.agg #[.string (strOfNums t.name), .bool true, .slice fa t.fs.length fc, .slice oa t.os.length oc, .slice sa t.ss.length sc, .slice ra t.rs.length rc]] w (BlkA w (loBK t)) := by
  have HX : Hid (loBK t = ⟨[], [], rowsL t.ss⟩) := hid (by unfold loBK; rw [if_pos he])
  have HRO : Hid (∀ W, Below w.heap.size w W → Calls Tryz.prog 38 #[.slice sa t.ss.length sc] W fun e w' => ∃ a c, e = .returned (.slice a (rowsL t.ss).length c) ∧ w'.ownsRow W.heap.size 48 2 (.slice a (rowsL t.ss).length c) (rowsL t.ss).length ((rowsL t.ss).flatMap cLN) ∧ Below W.heap.size W w') := hid fun W hW => rowsOfT W t.ss sa sc (rowOldP (by decide) (hs.kept hW)) h0.1 h0.2
  clear hs h0 he
  go_enter Tryz.func23, Tryz.ntmps23
  go_wp2_with fail
  refine (HRO.out _ (by exact blBy)).mono ?_
  rintro e w1 ⟨a1, c1, rfl, ho, hb1⟩
  have HO := hid ho
  have Br : Blk w1 (w.heap.size + 1) 31 #[.slice none 0 0, .slice none 0 0, .slice none 0 0] := (Blk.newAt (by simp)).kept hb1
  replace hb1 : Hid (Below w.heap.size w w1) := hid (bl_then (by exact blBy) hb1)
  have xr := Br.cellF
  have yr := Br.frz
  have zr := Br.lt
  clear ho
  go_wp2
  refine bodyPost_ret (v := .agg #[.slice none 0 0, .slice none 0 0, .slice a1 (rowsL t.ss).length c1]) (by simp [results, Tryz.results23, go_sem, xr, zr, yr]) rfl ?_
  rw [HX.out]
  refine ⟨none, 0, none, 0, a1, c1, rfl, ⟨World.ownsRow_nil _ _ _ _, World.ownsRow_nil _ _ _ _, own_mono (own_set (own_set (own_set HO.out (by simp)) (by simp)) (by simp)) (by simp; omega), fun b hb => by simp [Value.ownBlock] at hb⟩, by have := hb1.out; exact blBy⟩
theorem blockOfM (w : World) (t : TT) (fa oa sa ra : Option Addr) (fc oc sc rc : Nat) (he : t.enum = false) (hs : RowS w AnyZ 7 (.slice fa t.fs.length fc) t.fs.length (t.fs.flatMap cFT)) (hf : ∀ f ∈ t.fs, FOk f) (hl : t.fs.length ≤ 128) : Calls Tryz.prog 23 #[.agg #[.string (strOfNums t.name), .bool false, .slice fa t.fs.length fc, .slice oa t.os.length oc, .slice sa t.ss.length sc, .slice ra t.rs.length rc]] w (BlkA w (loBK t)) := by
  have HX : Hid (loBK t = ⟨decL t.fs, encL t.fs, []⟩) := hid (by unfold loBK; rw [if_neg (by rw [he]; simp)])
  have HD : Hid (∀ W, Below w.heap.size w W → Calls Tryz.prog 39 #[.agg #[.string (strOfNums t.name), .bool false, .slice fa t.fs.length fc, .slice oa t.os.length oc, .slice sa t.ss.length sc, .slice ra t.rs.length rc]] W (StepsR W (decL t.fs))) := hid fun W hW => decOfT W t.fs t.name false fa oa sa ra fc t.os.length oc t.ss.length sc t.rs.length rc (rowOldP (by decide) (hs.kept hW)) hf hl
  have HE : Hid (∀ W, Below w.heap.size w W → Calls Tryz.prog 40 #[.agg #[.string (strOfNums t.name), .bool false, .slice fa t.fs.length fc, .slice oa t.os.length oc, .slice sa t.ss.length sc, .slice ra t.rs.length rc]] W (StepsR W (encL t.fs))) := hid fun W hW => encOfT W t.fs t.name false fa oa sa ra fc t.os.length oc t.ss.length sc t.rs.length rc (rowOldP (by decide) (hs.kept hW)) hf hl
  clear hs hl he hf
  have Bx : Hid (Blk ((w.alloc (.cells #[.string (strOfNums t.name), .bool false, .slice fa t.fs.length fc, .slice oa t.os.length oc, .slice sa t.ss.length sc, .slice ra t.rs.length rc] 57)).alloc (.cells #[.slice none 0 0, .slice none 0 0, .slice none 0 0] 31)) w.heap.size 57 #[.string (strOfNums t.name), .bool false, .slice fa t.fs.length fc, .slice oa t.os.length oc, .slice sa t.ss.length sc, .slice ra t.rs.length rc]) := hid ((Blk.new _ _ _).kept (below_alloc _))
  have Br : Hid (Blk ((w.alloc (.cells #[.string (strOfNums t.name), .bool false, .slice fa t.fs.length fc, .slice oa t.os.length oc, .slice sa t.ss.length sc, .slice ra t.rs.length rc] 57)).alloc (.cells #[.slice none 0 0, .slice none 0 0, .slice none 0 0] 31)) (w.heap.size + 1) 31 #[.slice none 0 0, .slice none 0 0, .slice none 0 0]) := hid (Blk.newAt (by simp))
  have HB : Hid (Below w.heap.size w ((w.alloc (.cells #[.string (strOfNums t.name), .bool false, .slice fa t.fs.length fc, .slice oa t.os.length oc, .slice sa t.ss.length sc, .slice ra t.rs.length rc] 57)).alloc (.cells #[.slice none 0 0, .slice none 0 0, .slice none 0 0] 31))) := hid (by exact blBy)
  go_enter Tryz.func23, Tryz.ntmps23
  go_wp2_with fail
  have hsz : ((w.alloc (.cells #[.string (strOfNums t.name), .bool false, .slice fa t.fs.length fc, .slice oa t.os.length oc, .slice sa t.ss.length sc, .slice ra t.rs.length rc] 57)).alloc (.cells #[.slice none 0 0, .slice none 0 0, .slice none 0 0] 31)).heap.size = w.heap.size + 2 := by simp
  generalize (w.alloc (.cells #[.string (strOfNums t.name), .bool false, .slice fa t.fs.length fc, .slice oa t.os.length oc, .slice sa t.ss.length sc, .slice ra t.rs.length rc] 57)).alloc (.cells #[.slice none 0 0, .slice none 0 0, .slice none 0 0] 31) = W0 at *
  replace hsz := hid hsz
  have e0 := Bx.out.cell 0 _ rfl
  have e1 := Bx.out.cell 1 _ rfl
  have e2 := Bx.out.cell 2 _ rfl
  have e3 := Bx.out.cell 3 _ rfl
  have e4 := Bx.out.cell 4 _ rfl
  have e5 := Bx.out.cell 5 _ rfl
  simp only [List.getElem_toArray, List.getElem_cons_succ, List.getElem_cons_zero] at e0 e1 e2 e3 e4 e5
  have xr := Br.out.cellF
  have yr := Br.out.frz
  have zr := Br.out.lt
  have hne : w.heap.size ≠ w.heap.size + 1 := by omega
  go_region_held3 (fun W => W.cell? ⟨w.heap.size, 0, none⟩ = some (.string (strOfNums t.name)) ∧ W.cell? ⟨w.heap.size, 1, none⟩ = some (.bool false) ∧ W.cell? ⟨w.heap.size, 2, none⟩ = some (.slice fa t.fs.length fc) ∧ W.cell? ⟨w.heap.size, 3, none⟩ = some (.slice oa t.os.length oc) ∧ W.cell? ⟨w.heap.size, 4, none⟩ = some (.slice sa t.ss.length sc) ∧ W.cell? ⟨w.heap.size, 5, none⟩ = some (.slice ra t.rs.length rc)) (first | exact ⟨e0, e1, e2, e3, e4, e5⟩ | exact ⟨cellO3 e0 hne, cellO3 e1 hne, cellO3 e2 hne, cellO3 e3 hne, cellO3 e4 hne, cellO3 e5 hne⟩) (first | (go_at_call 39; refine (HD.out _ (below_trans HB.out (by first | exact Below.refl _ _ | exact below_drew1 _ | exact below_drewN _ _))).mono ?_; rintro e w1 ⟨da, dc, rfl, ho, hbx⟩; have HOd : Hid (w1.ownsRow (w.heap.size + 2) 63 5 (.slice da (decL t.fs).length dc) (decL t.fs).length ((decL t.fs).flatMap cIN)) := hid (own_mono ho (Nat.le_of_eq hsz.out.symm)); clear ho; replace e0 := cell_below e0 (below_trans (by first | exact Below.refl _ _ | exact below_drew1 _ | exact below_drewN _ _) hbx); replace e1 := cell_below e1 (below_trans (by first | exact Below.refl _ _ | exact below_drew1 _ | exact below_drewN _ _) hbx); replace e2 := cell_below e2 (below_trans (by first | exact Below.refl _ _ | exact below_drew1 _ | exact below_drewN _ _) hbx); replace e3 := cell_below e3 (below_trans (by first | exact Below.refl _ _ | exact below_drew1 _ | exact below_drewN _ _) hbx); replace e4 := cell_below e4 (below_trans (by first | exact Below.refl _ _ | exact below_drew1 _ | exact below_drewN _ _) hbx); replace e5 := cell_below e5 (below_trans (by first | exact Below.refl _ _ | exact below_drew1 _ | exact below_drewN _ _) hbx); replace Br := hid (Br.out.kept (below_trans (by first | exact Below.refl _ _ | exact below_drew1 _ | exact below_drewN _ _) hbx)); replace xr := Br.out.cellF; replace yr := Br.out.frz; replace zr := Br.out.lt; replace HB := hid (below_trans HB.out (below_trans (by first | exact Below.refl _ _ | exact below_drew1 _ | exact below_drewN _ _) hbx)); clear hbx) | (go_at_call 40; refine (HE.out _ (below_trans HB.out (by first | exact Below.refl _ _ | exact below_drew1 _ | exact below_drewN _ _))).mono ?_; rintro e w2 ⟨ea, ec, rfl, ho, hbx⟩; have HAP : Hid (∀ b, (Value.slice da (decL t.fs).length dc).ownBlock = some b → (Value.slice ea (encL t.fs).length ec).ownBlock ≠ some b) := hid (fun b q1 q2 => Nat.lt_irrefl _ (Nat.lt_of_lt_of_le (own_type HOd.out q1).2.1 (own_type ho q2).1)); have HOe : Hid (w2.ownsRow w1.heap.size 63 5 (.slice ea (encL t.fs).length ec) (encL t.fs).length ((encL t.fs).flatMap cIN)) := hid ho; have hw1 : Hid (w.heap.size + 1 < w1.heap.size) := hid zr; clear ho; replace HOd := hid (own_kept HOd.out (below_trans (by first | exact Below.refl _ _ | exact below_drew1 _ | exact below_drewN _ _) hbx)); replace e0 := cell_below e0 (below_trans (by first | exact Below.refl _ _ | exact below_drew1 _ | exact below_drewN _ _) hbx); replace e1 := cell_below e1 (below_trans (by first | exact Below.refl _ _ | exact below_drew1 _ | exact below_drewN _ _) hbx); replace e2 := cell_below e2 (below_trans (by first | exact Below.refl _ _ | exact below_drew1 _ | exact below_drewN _ _) hbx); replace e3 := cell_below e3 (below_trans (by first | exact Below.refl _ _ | exact below_drew1 _ | exact below_drewN _ _) hbx); replace e4 := cell_below e4 (below_trans (by first | exact Below.refl _ _ | exact below_drew1 _ | exact below_drewN _ _) hbx); replace e5 := cell_below e5 (below_trans (by first | exact Below.refl _ _ | exact below_drew1 _ | exact below_drewN _ _) hbx); replace Br := hid (Br.out.kept (below_trans (by first | exact Below.refl _ _ | exact below_drew1 _ | exact below_drewN _ _) hbx)); replace xr := Br.out.cellF; replace yr := Br.out.frz; replace zr := Br.out.lt; replace HB := hid (below_trans HB.out (below_trans (by first | exact Below.refl _ _ | exact below_drew1 _ | exact below_drewN _ _) hbx)); clear hbx))
  go_wp2
  refine bodyPost_ret (v := .agg #[.slice da (decL t.fs).length dc, .slice ea (encL t.fs).length ec, .slice none 0 0]) (by simp [results, Tryz.results23, go_sem, xr, zr, yr]) rfl ?_
  rw [HX.out]
  refine ⟨da, dc, ea, ec, none, 0, rfl, ⟨own_mono (own_set (own_set (own_set HOd.out (by omega)) (by omega)) (by omega)) (by omega), own_mono (own_set (own_set (own_set HOe.out hw1.out) hw1.out) hw1.out) (by have := hw1.out; omega), World.ownsRow_nil _ _ _ _, HAP.out⟩, by have := HB.out; exact blBy⟩
/-- What LowerType answers: a block and an error. -/
def LowA (w : World) (k : BK) (er : Int) (e : Ending) (w' : World) : Prop := ∃ da dc ea ec ra rc, e = .returned (.tuple #[.agg #[.slice da k.dec.length dc, .slice ea k.enc.length ec, .slice ra k.rows.length rc], .int .i64 er]) ∧ BkO w' w.heap.size k (.slice da k.dec.length dc) (.slice ea k.enc.length ec) (.slice ra k.rows.length rc) ∧ Below w.heap.size w w'
def bkZ : BK := ⟨[], [], []⟩
theorem bkZ_own (w : World) (base : Nat) : BkO w base bkZ (.slice none 0 0) (.slice none 0 0) (.slice none 0 0) := ⟨World.ownsRow_nil _ _ _ _, World.ownsRow_nil _ _ _ _, World.ownsRow_nil _ _ _ _, fun b hb => by simp [Value.ownBlock] at hb⟩
def lowBK (l : List TV) (i : Int) : BK := if goodB l = true ∧ 0 ≤ i then (match l[i.toNat]? with | some x => loBK x.t | none => bkZ) else bkZ
def lowE (l : List TV) (i : Int) : Int := if goodB l = true ∧ 0 ≤ i ∧ i < l.length then 0 else 18
theorem lowBK_at {l : List TV} {k : Nat} (hg : goodB l = true) (hk : k < l.length) : lowBK l (k : Int) = loBK l[k].t := by
  unfold lowBK
  rw [if_pos ⟨hg, by omega⟩]
  simp [hk]
theorem lowBK_no {l : List TV} {i : Int} (h : ¬ (goodB l = true ∧ 0 ≤ i ∧ i < l.length)) : lowBK l i = bkZ := by
  unfold lowBK
  split
  · rename_i hq
    have q2 : ¬ i < (l.length : Int) := fun q => h ⟨hq.1, hq.2, q⟩
    rw [List.getElem?_eq_none (by omega)]
  · rfl
theorem lowE_ok {l : List TV} {i : Int} (h : goodB l = true ∧ 0 ≤ i ∧ i < l.length) : lowE l i = 0 := by unfold lowE; rw [if_pos h]
theorem lowE_no {l : List TV} {i : Int} (h : ¬ (goodB l = true ∧ 0 ≤ i ∧ i < l.length)) : lowE l i = 18 := by unfold lowE; rw [if_neg h]
theorem blockOfT (W : World) (l : List TV) (k : Nat) (hg : goodB l = true) (hk : k < l.length) (t : TT) (et : l[k].t = t) (fa oa sa ra : Option Addr) (fc oc sc rc : Nat) (h : TyR W ⟨t, .slice fa t.fs.length fc, .slice oa t.os.length oc, .slice sa t.ss.length sc, .slice ra t.rs.length rc⟩) : Calls Tryz.prog 23 #[.agg #[.string (strOfNums t.name), .bool t.enum, .slice fa t.fs.length fc, .slice oa t.os.length oc, .slice sa t.ss.length sc, .slice ra t.rs.length rc]] W (BlkA W (loBK t)) := by
  cases he : t.enum with
  | true => exact blockOfE W t fa oa sa ra fc oc sc rc he h.s (by have := goodP_enum hg hk (by rw [et]; exact he); rw [et] at this; exact this)
  | false =>
    have := goodP_msg hg hk (by rw [et]; exact he)
    rw [et] at this
    exact blockOfM W t fa oa sa ra fc oc sc rc he h.f this.2.2 this.1
theorem lowerTypeT (w : World) (l : List TV) (ta : Option Addr) (tc : Nat) (h : TbR w (.slice ta l.length tc) l) (hk : ∀ x ∈ l, OkV x) (m : Int) (hm : w.cell? ⟨0, 0, none⟩ = some (.int .i64 m)) (i : Int) : Calls Tryz.prog 9 #[.agg #[.slice ta l.length tc], .int .i64 i] w (LowA w (lowBK l i) (lowE l i)) := by
  obtain ⟨_, _, e, hn⟩ := rowS_sl h.row
  clear e
  have h63 : (l.length : Int) ≤ 9223372036854775807 := by omega
  have HGC : Hid (∀ W, Below w.heap.size w W → Calls Tryz.prog 22 #[.agg #[.slice ta l.length tc]] W fun e w' => e = .returned (.bool (goodB l)) ∧ Below W.heap.size W w') := hid fun W hW => goodT W l ta tc (h.kept hW) hk m (cell_below hm hW)
  by_cases hok : goodB l = true ∧ 0 ≤ i ∧ i < l.length
  case neg =>
    have HX : Hid (lowBK l i = bkZ ∧ lowE l i = 18) := hid ⟨lowBK_no hok, lowE_no hok⟩
    rw [HX.out.1, HX.out.2]
    have main : goodB l = false ∨ (goodB l = true ∧ i < 0) ∨ (goodB l = true ∧ ¬ i < 0 ∧ (l.length : Int) ≤ i) := by
      cases hg : goodB l with
      | false => exact .inl rfl
      | true =>
        refine .inr ?_
        rcases Int.lt_or_le i 0 with q | q
        · exact .inl ⟨rfl, q⟩
        · exact .inr ⟨rfl, by omega, by
            rcases Int.lt_or_le i l.length with q2 | q2
            · exact absurd ⟨hg, q, q2⟩ hok
            · exact q2⟩
    clear hok h hk hm
    rcases main with hg | ⟨hg, hi⟩ | ⟨hg, hi, hi2⟩
    · rw [hg] at HGC
      go_enter Tryz.func9, Tryz.ntmps9
      go_wp2_with fail
      refine (HGC.out _ (by exact blBy)).mono ?_
      rintro e w1 ⟨rfl, hb1⟩
      have Ba : Blk w1 w.heap.size 37 #[.slice ta l.length tc] := ((Blk.new _ _ _).kept (below_alloc _)).kept hb1
      have Br : Blk w1 (w.heap.size + 1) 31 #[.slice none 0 0, .slice none 0 0, .slice none 0 0] := (Blk.newAt (by simp)).kept hb1
      replace hb1 : Hid (Below w.heap.size w w1) := hid (bl_then (by exact blBy) hb1)
      have xa := Ba.cellF
      have za := Ba.lt
      have xr := Br.cellF
      have yr := Br.frz
      have zr := Br.lt
      go_wp2
      refine bodyPost_ret (v := .tuple #[.agg #[.slice none 0 0, .slice none 0 0, .slice none 0 0], .int .i64 18]) (by simp [results, Tryz.results9, go_sem, xr, zr, yr]) rfl ?_
      exact ⟨none, 0, none, 0, none, 0, rfl, bkZ_own _ _, by have := hb1.out; exact blBy⟩
    · rw [hg] at HGC
      have r1 : (i < 0) = True := eq_true hi
      go_enter Tryz.func9, Tryz.ntmps9
      go_wp2_with fail
      refine (HGC.out _ (by exact blBy)).mono ?_
      rintro e w1 ⟨rfl, hb1⟩
      have Ba : Blk w1 w.heap.size 37 #[.slice ta l.length tc] := ((Blk.new _ _ _).kept (below_alloc _)).kept hb1
      have Br : Blk w1 (w.heap.size + 1) 31 #[.slice none 0 0, .slice none 0 0, .slice none 0 0] := (Blk.newAt (by simp)).kept hb1
      replace hb1 : Hid (Below w.heap.size w w1) := hid (bl_then (by exact blBy) hb1)
      have xa := Ba.cellF
      have za := Ba.lt
      have xr := Br.cellF
      have yr := Br.frz
      have zr := Br.lt
      go_wp2
      refine bodyPost_ret (v := .tuple #[.agg #[.slice none 0 0, .slice none 0 0, .slice none 0 0], .int .i64 18]) (by simp [results, Tryz.results9, go_sem, xr, zr, yr]) rfl ?_
      exact ⟨none, 0, none, 0, none, 0, rfl, bkZ_own _ _, by have := hb1.out; exact blBy⟩
    · rw [hg] at HGC
      have r1 : (i < 0) = False := eq_false hi
      have r2 : ((l.length : Int) ≤ i) = True := eq_true hi2
      go_enter Tryz.func9, Tryz.ntmps9
      go_wp2_with fail
      refine (HGC.out _ (by exact blBy)).mono ?_
      rintro e w1 ⟨rfl, hb1⟩
      have Ba : Blk w1 w.heap.size 37 #[.slice ta l.length tc] := ((Blk.new _ _ _).kept (below_alloc _)).kept hb1
      have Br : Blk w1 (w.heap.size + 1) 31 #[.slice none 0 0, .slice none 0 0, .slice none 0 0] := (Blk.newAt (by simp)).kept hb1
      replace hb1 : Hid (Below w.heap.size w w1) := hid (bl_then (by exact blBy) hb1)
      have xa := Ba.cellF
      have za := Ba.lt
      have xr := Br.cellF
      have yr := Br.frz
      have zr := Br.lt
      go_wp2
      refine bodyPost_ret (v := .tuple #[.agg #[.slice none 0 0, .slice none 0 0, .slice none 0 0], .int .i64 18]) (by simp [results, Tryz.results9, go_sem, xr, zr, yr]) rfl ?_
      exact ⟨none, 0, none, 0, none, 0, rfl, bkZ_own _ _, by have := hb1.out; exact blBy⟩
  obtain ⟨hg, h0, hi⟩ := hok
  obtain ⟨k, rfl⟩ : ∃ k : Nat, i = (k : Int) := ⟨i.toNat, by omega⟩
  have hkl : k < l.length := by omega
  rw [lowE_ok ⟨hg, h0, hi⟩, lowBK_at hg hkl]
  rw [hg] at HGC
  have HTY := hid (h.ty _ (List.getElem_mem hkl))
  obtain ⟨tb, tof, rfl, hbl, c0, c1, c2, c3, c4, c5⟩ := row6 h.row hkl
  have r1 : ((k : Int) < 0) = False := eq_false (by omega)
  have r2 : ((l.length : Int) ≤ (k : Int)) = False := eq_false (by omega)
  have r3 : (k : Int) < (l.length : Int) := by omega
  have HBO : Hid (∀ W t fa oa sa ra fc oc sc rc, l[k].t = t → TyR W ⟨t, .slice fa t.fs.length fc, .slice oa t.os.length oc, .slice sa t.ss.length sc, .slice ra t.rs.length rc⟩ → Calls Tryz.prog 23 #[.agg #[.string (strOfNums t.name), .bool t.enum, .slice fa t.fs.length fc, .slice oa t.os.length oc, .slice sa t.ss.length sc, .slice ra t.rs.length rc]] W (BlkA W (loBK t))) := hid fun W t fa oa sa ra fc oc sc rc et ht => blockOfT W l k hg hkl t et fa oa sa ra fc oc sc rc ht
  clear h hk hm hg h0
  generalize l[k] = x at *
  obtain ⟨t, f, o, s, r⟩ := x
  obtain ⟨fa, fc, ef, -⟩ := rowS_sl HTY.out.f
  obtain ⟨oa, oc, eo, -⟩ := rowS_sl HTY.out.o
  obtain ⟨sa, sc, es, -⟩ := rowS_sl HTY.out.s
  obtain ⟨ra, rc, er, -⟩ := rowS_sl HTY.out.r
  dsimp only at ef eo es er
  subst ef eo es er
  dsimp only at c0 c1 c2 c3 c4 c5 HBO
  dsimp only
  go_enter Tryz.func9, Tryz.ntmps9
  go_wp2_with fail
  refine (HGC.out _ (by exact blBy)).mono ?_
  rintro e w1 ⟨rfl, hb1⟩
  have Ba : Blk w1 w.heap.size 37 #[.slice (some ⟨tb, tof, none⟩) l.length tc] := ((Blk.new _ _ _).kept (below_alloc _)).kept hb1
  have Br : Blk w1 (w.heap.size + 1) 31 #[.slice none 0 0, .slice none 0 0, .slice none 0 0] := (Blk.newAt (by simp)).kept hb1
  replace hb1 : Hid (Below w.heap.size w w1) := hid (bl_then (by exact blBy) hb1)
  have d0 := cell_below c0 hb1.out
  have d1 := cell_below c1 hb1.out
  have d2 := cell_below c2 hb1.out
  have d3 := cell_below c3 hb1.out
  have d4 := cell_below c4 hb1.out
  have d5 := cell_below c5 hb1.out
  have hbl1 : tb < w1.heap.size := World.block_lt_of_cell? _ _ d0
  clear c0 c1 c2 c3 c4 c5
  have xa := Ba.cellF
  have za := Ba.lt
  go_wp2_with fail
  refine (HBO.out _ t fa oa sa ra fc oc sc rc rfl (HTY.out.kept (by have := hb1.out; exact blBy))).mono ?_
  rintro e w2 ⟨da, dc, ea, ec, qa, qc, rfl, ho, hb2⟩
  have Br2 := Br.kept hb2
  have HO := hid (ho.mono (base' := w1.heap.size) (Nat.le_refl _))
  replace hb2 : Hid (Below w.heap.size w w2) := hid (bl_then hb1.out hb2)
  have xr := Br2.cellF
  have yr := Br2.frz
  have zr := Br2.lt
  have zr1 := Br.lt
  clear xa za ho d0 d1 d2 d3 d4 d5
  go_wp2
  refine bodyPost_ret (v := .tuple #[.agg #[.slice da (loBK t).dec.length dc, .slice ea (loBK t).enc.length ec, .slice qa (loBK t).rows.length qc], .int .i64 0]) (by simp [results, Tryz.results9, go_sem, xr, zr, yr]) rfl ?_
  refine ⟨da, dc, ea, ec, qa, qc, rfl, BkO.mono ⟨own_set (own_set (own_set HO.out.hd zr1) zr1) zr1, own_set (own_set (own_set HO.out.he zr1) zr1) zr1, own_set (own_set (own_set HO.out.hr zr1) zr1) zr1, HO.out.ap⟩ hb1.out.size, by have := hb2.out; exact blBy⟩
/-- A block and the values of its three lists. -/
structure BV where
  k : BK
  d : Value
  e : Value
  r : Value
def cBV (x : BV) : List Value := [x.d, x.e, x.r]
structure LwO (w : World) (base : Nat) (v : Value) (xs : List BV) : Prop where
  row : w.ownsRow base 31 3 v xs.length (xs.flatMap cBV)
  el : ∀ x ∈ xs, BkO w base x.k x.d x.e x.r
theorem LwO.kept {w w' : World} {base : Nat} {v : Value} {xs : List BV} (h : LwO w base v xs) (g : Below w.heap.size w w') : LwO w' base v xs := ⟨own_kept h.row g, fun x hx => (h.el x hx).kept g⟩
theorem Tryz.infoPB : (Tryz.prog.info? 31).map (fun i => (i.zero, i.size, i.bytes)) = some (some (.agg #[.slice none 0 0, .slice none 0 0, .slice none 0 0]), 3, 72) := by kernel_rfl
/-- One block more. -/
theorem LwO.push {w : World} {base : Nat} {v : Value} {xs : List BV} (h : LwO w base v xs) (hb : base ≤ w.heap.size) (hn : xs.length ≤ 4000000) (k : BK) (da ea ra : Option Addr) (n1 dc n2 ec n3 rc : Nat) (ho : BkO w base k (.slice da n1 dc) (.slice ea n2 ec) (.slice ra n3 rc)) :
    ∃ a c w', Hid ((Builtin.append_ #[22, 22] 22 #[v, .slice (some ⟨w.heap.size, 0, none⟩) 1 1]).run Tryz.prog (w.alloc (.cells #[.slice da n1 dc, .slice ea n2 ec, .slice ra n3 rc] 31)) = .ok (.slice a (xs.length + 1) c) w') ∧ Hid (LwO w' base (.slice a (xs.length + 1) c) (xs ++ [⟨k, .slice da n1 dc, .slice ea n2 ec, .slice ra n3 rc⟩])) ∧ Hid (Grow w w' v (.slice a (xs.length + 1) c)) := by
  obtain ⟨v', w', h1, h2, h3⟩ := append_st 31 22 3 72 (.agg #[.slice none 0 0, .slice none 0 0, .slice none 0 0]) Tryz.underlying22 Tryz.infoPB rfl (by decide) (by decide) base v xs.length (xs.flatMap cBV) w #[.slice da n1 dc, .slice ea n2 ec, .slice ra n3 rc] rfl (fun u hu => by simp at hu; rcases hu with rfl | rfl | rfl <;> rfl) h.row hb hn
  obtain ⟨a, c, rfl⟩ := own_shape h2
  have hk : ∀ {k : BK} {d e r : Value}, BkO w base k d e r → BkO w' base k d e r := fun q => ⟨grow_own h3 h.row q.hd (by decide), grow_own h3 h.row q.he (by decide), grow_own h3 h.row q.hr (by decide), q.ap⟩
  refine ⟨a, c, w', hid h1, hid ⟨by rw [List.flatMap_append, List.length_append]; exact h2, fun x hx => ?_⟩, hid h3⟩
  rcases List.mem_append.1 hx with hx | hx
  · exact hk (h.el x hx)
  · simp at hx
    subst hx
    exact hk ho
def inB (x y : IN) : Bool := (x.op == y.op) && ((x.a == y.a) && ((x.b == y.b) && ((x.c == y.c) && (x.d == y.d))))
def lnB (x y : LN) : Bool := (x.tag == y.tag) && (x.pl == y.pl)
theorem inB_iff (x y : IN) : inB x y = true ↔ x = y := by
  cases x
  cases y
  simp [inB]
theorem lnB_iff (x y : LN) : lnB x y = true ↔ x = y := by
  cases x
  cases y
  simp [lnB]
theorem eqIN (x y : IN) (w : World) : (Op.equalIn 10000 63 (.agg #[.int .i64 x.op, .int .i64 x.a, .int .i64 x.b, .int .i64 x.c, .int .i64 x.d]) (.agg #[.int .i64 y.op, .int .i64 y.a, .int .i64 y.b, .int .i64 y.c, .int .i64 y.d])).run Tryz.prog w = .ok (inB x y) w := by
  have u3 := Tryz.underlying3
  have a3 := Tryz.isAgg3
  have z3 := Tryz.sizeOf3
  have hS : Tryz.prog.underlying 63 = some (.struct (Tryz.prog.fieldsOf 63)) := by kernel_rfl
  have hp : Tryz.prog.stoodInHeld 63 = false := by kernel_rfl
  unfold inB
  rw [show (10000 : Nat) = 9999 + 1 from rfl, run_equalIn_agg w 9999 63 _ _ hS hp]
  simp only [Program.fieldsOf, Tryz.underlying63]
  go_simp
  by_cases h1 : x.op = y.op <;> by_cases h2 : x.a = y.a <;> by_cases h3 : x.b = y.b <;> by_cases h4 : x.c = y.c <;> by_cases h5 : x.d = y.d <;> simp [h1, h2, h3, h4, h5]
theorem eqLN (x y : LN) (w : World) : (Op.equalIn 10000 48 (.agg #[.int .i64 x.tag, .int .i64 x.pl]) (.agg #[.int .i64 y.tag, .int .i64 y.pl])).run Tryz.prog w = .ok (lnB x y) w := by
  have u3 := Tryz.underlying3
  have a3 := Tryz.isAgg3
  have z3 := Tryz.sizeOf3
  have hS : Tryz.prog.underlying 48 = some (.struct (Tryz.prog.fieldsOf 48)) := by kernel_rfl
  have hp : Tryz.prog.stoodInHeld 48 = false := by kernel_rfl
  unfold lnB
  rw [show (10000 : Nat) = 9999 + 1 from rfl, run_equalIn_agg w 9999 48 _ _ hS hp]
  simp only [Program.fieldsOf, Tryz.underlying48]
  go_simp
  by_cases h1 : x.tag = y.tag <;> by_cases h2 : x.pl = y.pl <;> simp [h1, h2]
theorem gdIN : Tryz.prog.eqGuardType Tryz.prog.depth 63 = false := by kernel_rfl
theorem gdLN : Tryz.prog.eqGuardType Tryz.prog.depth 48 = false := by kernel_rfl
end Go.Proofs.YtdhkbdngmejklaaGreatDoor
