/-
  A field by its number: where there is none; a field in memory of its own.
  A field by its number: what the program answers.
  What a field takes an entry as: what the program answers.
  Takes, Named: what the program answers.
  Is, Field, Named, Wire, Takes: what the document answers.
  Wire, Takes: what the document answers; both answers are one.
-/
import Derived.Test.YtbiohlfcikdldaaDoorCNG
namespace Go.Proofs.YtbiohlfcikdldaaDoor
open Go.RowKit
set_option maxRecDepth 1000000
set_option linter.unusedVariables false
set_option linter.unusedSimpArgs false
set_option maxHeartbeats 1000000
/-- The values of a field. -/
def aFT (f : FT) : Value := .agg #[.string (strOfNums f.name), .int .i64 f.num, .int .i64 f.kind, .int .i64 f.ref, .int .i64 f.lab, .int .i64 f.one, .int .i64 f.key]
def ftZ : FT := ⟨[], 0, 0, 0, 0, 0, 0⟩
theorem fieldOfNo (fs : List FT) (n : Int) (w : World) (a : Option Addr) (c : Nat) (h : RowS w AnyZ 7 (.slice a fs.length c) fs.length (fs.flatMap cFT)) (hr : Rise fs) (hl : fs.length ≤ 128) (hno : ∀ f ∈ fs, f.num ≠ n) : Calls Tryd.prog 32 #[.slice a fs.length c, .int .i64 n] w fun e w' => e = .returned (.tuple #[.agg #[.string ⟨#[]⟩, .int .i64 0, .int .i64 0, .int .i64 0, .int .i64 0, .int .i64 0, .int .i64 0], .bool false]) ∧ Below w.heap.size w w' := by
  have HL : Hid (∀ W, Below w.heap.size w W → Calls Tryd.prog 52 #[.slice a fs.length c, .int .i64 n] W fun e w' => (∃ (g : FT) (ok : Bool), e = .returned (.tuple #[.agg #[.string (strOfNums g.name), .int .i64 g.num, .int .i64 g.kind, .int .i64 g.ref, .int .i64 g.lab, .int .i64 g.one, .int .i64 g.key], .bool ok]) ∧ Hid (ok = true → (g.num == n) = false)) ∧ Below W.heap.size W w') := hid fun W hW => ((lastUpToT fs n W a c (h.kept hW) hr hl).mono fun e w' hq => by
    rcases hq with ⟨⟨e1, _⟩ | ⟨j, hj, e1, h1, h2⟩, hb⟩
    · exact ⟨⟨ftZ, false, e1, hid (fun q => by cases q)⟩, hb⟩
    · exact ⟨⟨fs[j], true, e1, hid (fun _ => by rw [beq_eq_false_iff_ne]; exact hno _ (List.getElem_mem hj))⟩, hb⟩)
  clear h hr hno
  go_enter Tryd.func32, Tryd.ntmps32
  go_wp2_with fail
  refine (HL.out _ (by exact blBy)).mono ?_
  rintro e w1 ⟨⟨f, ok, rfl, hok⟩, hb1⟩
  have Br : Blk w1 w.heap.size 39 #[.string ⟨#[]⟩, .int .i64 0, .int .i64 0, .int .i64 0, .int .i64 0, .int .i64 0, .int .i64 0] := (Blk.new _ _ _).kept hb1
  replace hb1 : Hid (Below w.heap.size w w1) := hid (bl_then (by exact blBy) hb1)
  have xr := Br.cellF
  have yr := Br.frz
  have zr := Br.lt
  cases ok with
  | false =>
    go_wp2
    exact bodyPost_ret (v := .tuple #[.agg #[.string ⟨#[]⟩, .int .i64 0, .int .i64 0, .int .i64 0, .int .i64 0, .int .i64 0, .int .i64 0], .bool false]) (by simp [results, Tryd.results32, go_sem, xr, zr, yr]) rfl ⟨rfl, by have := hb1.out; exact blBy⟩
  | true =>
    have kq := hok.out rfl
    go_wp2
    exact bodyPost_ret (v := .tuple #[.agg #[.string ⟨#[]⟩, .int .i64 0, .int .i64 0, .int .i64 0, .int .i64 0, .int .i64 0, .int .i64 0], .bool false]) (by simp [results, Tryd.results32, go_sem, xr, zr, yr]) rfl ⟨rfl, by have := hb1.out; exact blBy⟩
theorem cloneS (x : List Int) (w : World) (hl : x.length ≤ 4000000) : Calls Tryd.prog 36 #[.string (strOfNums x)] w fun e w' => e = .returned (.string (strOfNums x)) ∧ Below w.heap.size w w' := by
  have HC := hid (Tryd.stringslite_Clone (strOfNums x) w (by rw [strOfNums_size]; omega))
  go_enter Tryd.func36, Tryd.ntmps36
  go_wp2_with fail
  refine HC.out.mono ?_
  rintro e w1 ⟨rfl, hb1⟩
  replace hb1 := hid hb1
  go_wp2
  go_ret
  exact ⟨rfl, hb1.out⟩
theorem freshT (f : FT) (w : World) (hl : f.name.length ≤ 4000000) : Calls Tryd.prog 42 #[.agg #[.string (strOfNums f.name), .int .i64 f.num, .int .i64 f.kind, .int .i64 f.ref, .int .i64 f.lab, .int .i64 f.one, .int .i64 f.key]] w fun e w' => e = .returned (.agg #[.string (strOfNums f.name), .int .i64 f.num, .int .i64 f.kind, .int .i64 f.ref, .int .i64 f.lab, .int .i64 f.one, .int .i64 f.key]) ∧ Below w.heap.size w w' := by
  go_enter Tryd.func42, Tryd.ntmps42
  go_wp2_with fail
  refine (cloneS f.name _ hl).mono ?_
  rintro e w1 ⟨rfl, hb1⟩
  have Bf : Blk w1 w.heap.size 39 #[.string (strOfNums f.name), .int .i64 f.num, .int .i64 f.kind, .int .i64 f.ref, .int .i64 f.lab, .int .i64 f.one, .int .i64 f.key] := ((Blk.new _ _ _).kept (below_alloc _)).kept hb1
  have Br : Blk w1 (w.heap.size + 1) 39 #[.string ⟨#[]⟩, .int .i64 0, .int .i64 0, .int .i64 0, .int .i64 0, .int .i64 0, .int .i64 0] := (Blk.newAt (by simp)).kept hb1
  replace hb1 : Hid (Below w.heap.size w w1) := hid (bl_then (by exact blBy) hb1)
  have xf := Bf.cellF
  have yf := Bf.frz
  have zf := Bf.lt
  have xr := Br.cellF
  have yr := Br.frz
  have zr := Br.lt
  go_wp2
  exact bodyPost_ret (v := .agg #[.string (strOfNums f.name), .int .i64 f.num, .int .i64 f.kind, .int .i64 f.ref, .int .i64 f.lab, .int .i64 f.one, .int .i64 f.key]) (by simp [results, Tryd.results42, go_sem, xr, zr, yr, xf, yf, zf]) rfl ⟨rfl, by have := hb1.out; exact blBy⟩
theorem good_at {l : List TV} (hg : goodB l = true) {k : Nat} (hk : k < l.length) : stepB l k l[k].t = true := by
  unfold goodB at hg
  rw [Bool.and_eq_true] at hg
  have : ∀ (r : List TV) (i j : Nat), goodA l r i = true → (hj : j < r.length) → stepB l (i + j) r[j].t = true := by
    intro r
    induction r with
    | nil => intro i j _ hj; simp at hj
    | cons x r ih =>
      intro i j h hj
      rw [goodA, Bool.and_eq_true] at h
      cases j with
      | zero => exact h.1
      | succ j =>
        have := ih (i + 1) j h.2 (by simpa using hj)
        rw [show i + (j + 1) = i + 1 + j by omega]
        exact this
  have := this l 0 k hg.2 hk
  rw [Nat.zero_add] at this
  exact this
theorem good_msg {l : List TV} (hg : goodB l = true) {k : Nat} (hk : k < l.length) (he : l[k].t.enum = false) : Rise l[k].t.fs ∧ l[k].t.fs.length ≤ 128 := by
  have h := good_at hg hk
  unfold stepB typB msgB at h
  rw [he] at h
  simp only [Bool.and_eq_true, decide_eq_true_eq] at h
  have h2 := h.2.2.2
  simp only [Bool.false_eq_true, if_false, Bool.and_eq_true, decide_eq_true_eq] at h2
  exact ⟨(rise_all _ 0 h2.2.2.2.1).2, h2.2.1.1⟩
def fldOf (fs : List FT) (n : Int) : Option FT := fs.find? (fun f => decide (f.num = n))
def fieldV (l : List TV) (idx : Int) (n : Int) : FT × Int := if isB l idx false = true then (match l[idx.toNat]? with | some x => (match fldOf x.t.fs n with | some f => (f, 0) | none => (ftZ, 20)) | none => (ftZ, 18)) else (ftZ, 18)
theorem isB_at {l : List TV} {idx : Int} {sort : Bool} (h : isB l idx sort = true) : ∃ (k : Nat) (hk : k < l.length), idx = (k : Int) ∧ goodB l = true ∧ l[k].t.enum = sort := by
  unfold isB at h
  simp only [Bool.and_eq_true, decide_eq_true_eq] at h
  obtain ⟨h1, h2, h3⟩ := h
  obtain ⟨k, rfl⟩ := Int.eq_ofNat_of_zero_le h2
  rw [Int.toNat_natCast] at h3
  by_cases hk : k < l.length
  · rw [List.getElem?_eq_getElem hk] at h3
    exact ⟨k, hk, rfl, h1, by simpa using h3⟩
  · rw [List.getElem?_eq_none (by omega)] at h3
    cases h3
theorem fieldV_at {l : List TV} {k : Nat} (hk : k < l.length) {n : Int} (h : isB l (k : Int) false = true) : fieldV l (k : Int) n = (match fldOf l[k].t.fs n with | some f => (f, 0) | none => (ftZ, 20)) := by
  unfold fieldV
  rw [if_pos h, Int.toNat_natCast, List.getElem?_eq_getElem hk]
theorem fieldPT (w : World) (l : List TV) (ta : Option Addr) (tc : Nat) (h : TbR w (.slice ta l.length tc) l) (hk : ∀ x ∈ l, OkV x) (hz : ∀ x ∈ l, ∀ f ∈ x.t.fs, f.name.length ≤ 4000000) (m : Int) (hm : w.cell? ⟨0, 0, none⟩ = some (.int .i64 m)) (idx n : Int) : Calls Tryd.prog 17 #[.agg #[.slice ta l.length tc], .int .i64 idx, .int .i64 n] w fun e w' => e = .returned (.tuple #[aFT (fieldV l idx n).1, .int .i64 (fieldV l idx n).2]) ∧ Below w.heap.size w w' := by
  cases q : isB l idx false with
  | false =>
    have HV : Hid (fieldV l idx n = (ftZ, 18)) := hid (by unfold fieldV; rw [if_neg (by rw [q]; simp)])
    have HTA := hid fun W (hW : Below w.heap.size w W) => typeAtNo W l ta tc (h.kept hW) hk m (cell_below hm hW) idx false q
    clear h hk hz hm q
    rw [HV.out]
    go_enter Tryd.func17, Tryd.ntmps17
    go_wp2_with fail
    refine (HTA.out _ (by exact blBy)).mono ?_
    rintro e w1 ⟨rfl, hb1⟩
    have Br : Blk w1 (w.heap.size + 1) 39 #[.string ⟨#[]⟩, .int .i64 0, .int .i64 0, .int .i64 0, .int .i64 0, .int .i64 0, .int .i64 0] := (Blk.newAt (by simp)).kept hb1
    replace hb1 : Hid (Below w.heap.size w w1) := hid (bl_then (by exact blBy) hb1)
    have xr := Br.cellF
    have yr := Br.frz
    have zr := Br.lt
    go_wp2
    exact bodyPost_ret (v := .tuple #[.agg #[.string ⟨#[]⟩, .int .i64 0, .int .i64 0, .int .i64 0, .int .i64 0, .int .i64 0, .int .i64 0], .int .i64 18]) (by simp [results, Tryd.results17, go_sem, xr, zr, yr]) rfl ⟨rfl, by have := hb1.out; exact blBy⟩
  | true =>
  obtain ⟨k, hkl, rfl, hg, he⟩ := isB_at q
  have HV := hid (fieldV_at hkl (n := n) q)
  have HRI := hid (good_msg hg hkl he)
  have HTA := hid fun W (hW : Below w.heap.size w W) => typeAtOk W l ta tc (h.kept hW) hk m (cell_below hm hW) k hkl hg he
  have HTY := hid (h.ty _ (List.getElem_mem hkl))
  have HZ := hid (hz _ (List.getElem_mem hkl))
  clear h hk hz hm q hg he
  generalize fieldV l (k : Int) n = fv at *
  generalize l[k] = x at *
  obtain ⟨t, f, o, s, r⟩ := x
  obtain ⟨fa, fc, ef, -⟩ := rowS_sl HTY.out.f
  obtain ⟨oa, oc, eo, -⟩ := rowS_sl HTY.out.o
  obtain ⟨sa, sc, es, -⟩ := rowS_sl HTY.out.s
  obtain ⟨ra, rc, er, -⟩ := rowS_sl HTY.out.r
  dsimp only at ef eo es er
  subst ef eo es er
  dsimp only at HV HRI HTA HZ
  cases qf : fldOf t.fs n with
  | none =>
    rw [qf] at HV
    have HNO : Hid (∀ f ∈ t.fs, f.num ≠ n) := hid fun f hf e => by have := List.find?_eq_none.1 qf f hf; simp [e] at this
    have HFO := hid fun W (hW : Below w.heap.size w W) => fieldOfNo t.fs n W fa fc (HTY.out.kept hW).f HRI.out.1 HRI.out.2 HNO.out
    clear HRI HTY HNO HZ qf
    rw [HV.out]
    go_enter Tryd.func17, Tryd.ntmps17
    go_wp2_with fail
    refine (HTA.out _ (by exact blBy)).mono ?_
    rintro e w1 ⟨rfl, hb1⟩
    have Br : Blk w1 (w.heap.size + 1) 39 #[.string ⟨#[]⟩, .int .i64 0, .int .i64 0, .int .i64 0, .int .i64 0, .int .i64 0, .int .i64 0] := (Blk.newAt (by simp)).kept hb1
    replace hb1 : Hid (Below w.heap.size w w1) := hid (bl_then (by exact blBy) hb1)
    have zr := Br.lt
    go_wp2_with fail
    refine (HFO.out _ (by have := hb1.out; exact blBy)).mono ?_
    rintro e w2 ⟨rfl, hb2⟩
    replace Br := (Br.kept (below_alloc _)).kept hb2
    replace hb2 : Hid (Below w.heap.size w w2) := hid (bl_then (by have := hb1.out; exact blBy) hb2)
    clear zr
    have xr := Br.cellF
    have yr := Br.frz
    have zr := Br.lt
    go_wp2
    exact bodyPost_ret (v := .tuple #[.agg #[.string ⟨#[]⟩, .int .i64 0, .int .i64 0, .int .i64 0, .int .i64 0, .int .i64 0, .int .i64 0], .int .i64 20]) (by simp [results, Tryd.results17, go_sem, xr, zr, yr]) rfl ⟨rfl, by have := hb2.out; exact blBy⟩
  | some f =>
    rw [qf] at HV
    obtain ⟨j, hj, ej⟩ := List.mem_iff_getElem.1 (List.mem_of_find?_eq_some qf)
    have hnum : t.fs[j].num = n := by rw [ej]; simpa using List.find?_some qf
    have HFO := hid fun W (hW : Below w.heap.size w W) => fieldOfOk t.fs n W fa fc (HTY.out.kept hW).f HRI.out.1 HRI.out.2 j hj hnum
    rw [ej] at HFO
    have HFR := hid fun W => freshT f W (HZ.out f (List.mem_of_find?_eq_some qf))
    clear HRI HTY HZ qf ej hnum
    rw [HV.out]
    unfold aFT
    dsimp only
    go_enter Tryd.func17, Tryd.ntmps17
    go_wp2_with fail
    refine (HTA.out _ (by exact blBy)).mono ?_
    rintro e w1 ⟨rfl, hb1⟩
    have Br : Blk w1 (w.heap.size + 1) 39 #[.string ⟨#[]⟩, .int .i64 0, .int .i64 0, .int .i64 0, .int .i64 0, .int .i64 0, .int .i64 0] := (Blk.newAt (by simp)).kept hb1
    replace hb1 : Hid (Below w.heap.size w w1) := hid (bl_then (by exact blBy) hb1)
    have zr := Br.lt
    go_wp2_with fail
    refine (HFO.out _ (by have := hb1.out; exact blBy)).mono ?_
    rintro e w2 ⟨rfl, hb2⟩
    replace Br := (Br.kept (below_alloc _)).kept hb2
    replace hb2 : Hid (Below w.heap.size w w2) := hid (bl_then (by have := hb1.out; exact blBy) hb2)
    clear zr
    have zr := Br.lt
    go_wp2_with fail
    refine (HFR.out _).mono ?_
    rintro e w3 ⟨rfl, hb3⟩
    replace Br := (Br.kept (below_alloc _)).kept hb3
    replace hb3 : Hid (Below w.heap.size w w3) := hid (bl_then (by have := hb2.out; exact blBy) hb3)
    clear zr
    have xr := Br.cellF
    have yr := Br.frz
    have zr := Br.lt
    go_wp2
    exact bodyPost_ret (v := .tuple #[.agg #[.string (strOfNums f.name), .int .i64 f.num, .int .i64 f.kind, .int .i64 f.ref, .int .i64 f.lab, .int .i64 f.one, .int .i64 f.key], .int .i64 0]) (by simp [results, Tryd.results17, go_sem, xr, zr, yr]) rfl ⟨rfl, by have := hb3.out; exact blBy⟩
/-- The wire kind of a field's values (of a kind that is one). -/
def wireF (f : FT) : Int := if f.lab = 5 then 2 else max (kwire f.kind) 0
def rowsF (f : FT) : Bool := decide (f.lab = 2 ∨ f.lab = 3) && knum f.kind
theorem beq_dec (a b : Int) : (a == b) = decide (a = b) := by by_cases h : a = b <;> simp [h]
/-- Does it take entries of a wire kind as values, as rows? -/
def tvF (f : FT) (k : Int) : Bool := if f.lab = 5 then decide (k = 2) else (decide (kwireE f.kind = 0) && decide (k = max (kwire f.kind) 0))
def trF (f : FT) (k : Int) : Bool := rowsF f && decide (k = 2)
def takenF (f : FT) (k : Int) : Int := if tvF f k = true then 1 else if trF f k = true then 2 else 0
section
variable (f : FT) (w : World)
theorem takesValueT (k : Int) : Calls Tryd.prog 53 #[.agg #[.string (strOfNums f.name), .int .i64 f.num, .int .i64 f.kind, .int .i64 f.ref, .int .i64 f.lab, .int .i64 f.one, .int .i64 f.key], .int .i64 k] w fun e w' => e = .returned (.bool (tvF f k)) ∧ Below w.heap.size w w' := by
  have HV := hid fun W => valueWireG f W
  have HX : Hid (tvF f k = if f.lab = 5 then decide (k = 2) else (decide (kwireE f.kind = 0) && decide (k = max (kwire f.kind) 0))) := hid rfl
  generalize tvF f k = res at *
  by_cases h : f.lab = 5
  · rw [if_pos h, if_pos h] at HV
    rw [if_pos h] at HX
    replace h := hid h
    go_enter Tryd.func53, Tryd.ntmps53
    go_wp2_with fail
    refine (HV.out _).mono ?_
    rintro e w1 ⟨rfl, hb1⟩
    have HB : Hid (Below w.heap.size w w1) := hid (bl_then (by exact blBy) hb1)
    clear hb1
    go_wp2
    go_ret
    exact ⟨ret_bool (by rw [HX.out]; exact beq_dec k 2), HB.out⟩
  · rw [if_neg h, if_neg h] at HV
    rw [if_neg h] at HX
    replace h := hid h
    generalize max (kwire f.kind) 0 = kw at *
    generalize kwireE f.kind = ke at *
    by_cases h0 : ke = 0
    · have k0 : (ke == 0) = true := by simpa using h0
      rw [decide_eq_true h0, Bool.true_and] at HX
      replace h0 := hid h0
      go_enter Tryd.func53, Tryd.ntmps53
      go_wp2_with fail
      refine (HV.out _).mono ?_
      rintro e w1 ⟨rfl, hb1⟩
      have HB : Hid (Below w.heap.size w w1) := hid (bl_then (by exact blBy) hb1)
      clear hb1
      go_wp2
      go_ret
      exact ⟨ret_bool (by rw [HX.out]; exact beq_dec k kw), HB.out⟩
    · have k0 : (ke == 0) = false := by simpa using h0
      rw [decide_eq_false h0, Bool.false_and] at HX
      replace h0 := hid h0
      go_enter Tryd.func53, Tryd.ntmps53
      go_wp2_with fail
      refine (HV.out _).mono ?_
      rintro e w1 ⟨rfl, hb1⟩
      have HB : Hid (Below w.heap.size w w1) := hid (bl_then (by exact blBy) hb1)
      clear hb1
      go_wp2
      go_ret
      exact ⟨ret_bool HX.out.symm, HB.out⟩
theorem takesRowT (k : Int) : Calls Tryd.prog 54 #[.agg #[.string (strOfNums f.name), .int .i64 f.num, .int .i64 f.kind, .int .i64 f.ref, .int .i64 f.lab, .int .i64 f.one, .int .i64 f.key], .int .i64 k] w fun e w' => e = .returned (.bool (trF f k)) ∧ Below w.heap.size w w' := by
  have HK := hid (numericW f.kind)
  have HX : Hid (trF f k = ((decide (f.lab = 2 ∨ f.lab = 3) && knum f.kind) && decide (k = 2))) := hid rfl
  generalize knum f.kind = kn at *
  generalize trF f k = res at *
  by_cases h2 : f.lab = 2
  · have k2 : (f.lab == 2) = true := by simpa using h2
    rw [decide_eq_true (.inl h2), Bool.true_and] at HX
    replace h2 := hid h2
    cases kn <;>
    · go_enter Tryd.func54, Tryd.ntmps54
      go_wp2_with (first | (go_at_call 83; refine (HK.out _).mono ?_; rintro e w1 ⟨rfl, rfl⟩))
      go_ret
      exact ⟨ret_bool (by rw [HX.out]; simp [beq_dec]), by exact blBy⟩
  · have k2 : (f.lab == 2) = false := by simpa using h2
    by_cases h3 : f.lab = 3
    · have k3 : (f.lab == 3) = true := by simpa using h3
      rw [decide_eq_true (.inr h3), Bool.true_and] at HX
      replace h2 := hid h2
      replace h3 := hid h3
      cases kn <;>
      · go_enter Tryd.func54, Tryd.ntmps54
        go_wp2_with (first | (go_at_call 83; refine (HK.out _).mono ?_; rintro e w1 ⟨rfl, rfl⟩))
        go_ret
        exact ⟨ret_bool (by rw [HX.out]; simp [beq_dec]), by exact blBy⟩
    · have k3 : (f.lab == 3) = false := by simpa using h3
      rw [decide_eq_false (by omega), Bool.false_and, Bool.false_and] at HX
      replace h2 := hid h2
      replace h3 := hid h3
      go_enter Tryd.func54, Tryd.ntmps54
      go_wp2
      go_ret
      exact ⟨ret_bool HX.out.symm, by exact blBy⟩
theorem takenAsT (k : Int) : Calls Tryd.prog 33 #[.agg #[.string (strOfNums f.name), .int .i64 f.num, .int .i64 f.kind, .int .i64 f.ref, .int .i64 f.lab, .int .i64 f.one, .int .i64 f.key], .int .i64 k] w fun e w' => e = .returned (.int .i64 (takenF f k)) ∧ Below w.heap.size w w' := by
  have HX : Hid (takenF f k = if tvF f k = true then 1 else if trF f k = true then 2 else 0) := hid rfl
  have HW := hid (fun W => takesValueT f W k)
  have HR := hid (fun W => takesRowT f W k)
  generalize takenF f k = res at *
  generalize tvF f k = wf at *
  generalize trF f k = rf at *
  go_enter Tryd.func33, Tryd.ntmps33
  go_wp2_with fail
  refine (HW.out _).mono ?_
  rintro e w1 ⟨rfl, hb1⟩
  have Bf : Blk w1 w.heap.size 39 #[.string (strOfNums f.name), .int .i64 f.num, .int .i64 f.kind, .int .i64 f.ref, .int .i64 f.lab, .int .i64 f.one, .int .i64 f.key] := (Blk.new _ _ _).kept hb1
  replace hb1 : Hid (Below w.heap.size w w1) := hid (bl_then (by exact blBy) hb1)
  have xf := Bf.cellF
  have zf := Bf.lt
  cases wf with
  | true =>
    rw [if_pos rfl] at HX
    go_wp2
    go_ret
    exact ⟨ret_int HX.out.symm, hb1.out⟩
  | false =>
    rw [if_neg (by simp)] at HX
    go_wp2_with fail
    refine (HR.out _).mono ?_
    rintro e w2 ⟨rfl, hb2⟩
    replace hb2 : Hid (Below w.heap.size w w2) := hid (bl_then (by have := hb1.out; exact blBy) hb2)
    cases rf with
    | true =>
      go_wp2
      go_ret
      exact ⟨ret_int HX.out.symm, hb2.out⟩
    | false =>
      go_wp2
      go_ret
      exact ⟨ret_int HX.out.symm, hb2.out⟩
end
def takesV (l : List TV) (idx n k : Int) : Int × Int := if isB l idx false = true then (match l[idx.toNat]? with | some x => (match fldOf x.t.fs n with | some f => (takenF f k, 0) | none => (0, 0)) | none => (0, 18)) else (0, 18)
theorem takesV_at {l : List TV} {k : Nat} (hk : k < l.length) {n kd : Int} (h : isB l (k : Int) false = true) : takesV l (k : Int) n kd = (match fldOf l[k].t.fs n with | some f => (takenF f kd, 0) | none => (0, 0)) := by
  unfold takesV
  rw [if_pos h, Int.toNat_natCast, List.getElem?_eq_getElem hk]
theorem takesPT (w : World) (l : List TV) (ta : Option Addr) (tc : Nat) (h : TbR w (.slice ta l.length tc) l) (hk : ∀ x ∈ l, OkV x) (m : Int) (hm : w.cell? ⟨0, 0, none⟩ = some (.int .i64 m)) (idx n kd : Int) : Calls Tryd.prog 11 #[.agg #[.slice ta l.length tc], .int .i64 idx, .int .i64 n, .int .i64 kd] w fun e w' => e = .returned (.tuple #[.int .i64 (takesV l idx n kd).1, .int .i64 (takesV l idx n kd).2]) ∧ Below w.heap.size w w' := by
  cases q : isB l idx false with
  | false =>
    have HV : Hid (takesV l idx n kd = (0, 18)) := hid (by unfold takesV; rw [if_neg (by rw [q]; simp)])
    have HTA := hid fun W (hW : Below w.heap.size w W) => typeAtNo W l ta tc (h.kept hW) hk m (cell_below hm hW) idx false q
    clear h hk hm q
    rw [HV.out]
    go_enter Tryd.func11, Tryd.ntmps11
    go_wp2_with fail
    refine (HTA.out _ (by exact blBy)).mono ?_
    rintro e w1 ⟨rfl, hb1⟩
    replace hb1 : Hid (Below w.heap.size w w1) := hid (bl_then (by exact blBy) hb1)
    go_wp2
    go_ret2
    exact ⟨rfl, by have := hb1.out; exact blBy⟩
  | true =>
  obtain ⟨k, hkl, rfl, hg, he⟩ := isB_at q
  have HV := hid (takesV_at hkl (n := n) (kd := kd) q)
  have HRI := hid (good_msg hg hkl he)
  have HTA := hid fun W (hW : Below w.heap.size w W) => typeAtOk W l ta tc (h.kept hW) hk m (cell_below hm hW) k hkl hg he
  have HTY := hid (h.ty _ (List.getElem_mem hkl))
  clear h hk hm q hg he
  generalize takesV l (k : Int) n kd = fv at *
  generalize l[k] = x at *
  obtain ⟨t, f, o, s, r⟩ := x
  obtain ⟨fa, fc, ef, -⟩ := rowS_sl HTY.out.f
  obtain ⟨oa, oc, eo, -⟩ := rowS_sl HTY.out.o
  obtain ⟨sa, sc, es, -⟩ := rowS_sl HTY.out.s
  obtain ⟨ra, rc, er, -⟩ := rowS_sl HTY.out.r
  dsimp only at ef eo es er
  subst ef eo es er
  dsimp only at HV HRI HTA
  cases qf : fldOf t.fs n with
  | none =>
    rw [qf] at HV
    have HNO : Hid (∀ f ∈ t.fs, f.num ≠ n) := hid fun f hf e => by have := List.find?_eq_none.1 qf f hf; simp [e] at this
    have HFO := hid fun W (hW : Below w.heap.size w W) => fieldOfNo t.fs n W fa fc (HTY.out.kept hW).f HRI.out.1 HRI.out.2 HNO.out
    clear HRI HTY HNO qf
    rw [HV.out]
    go_enter Tryd.func11, Tryd.ntmps11
    go_wp2_with fail
    refine (HTA.out _ (by exact blBy)).mono ?_
    rintro e w1 ⟨rfl, hb1⟩
    replace hb1 : Hid (Below w.heap.size w w1) := hid (bl_then (by exact blBy) hb1)
    go_wp2_with fail
    refine (HFO.out _ (by have := hb1.out; exact blBy)).mono ?_
    rintro e w2 ⟨rfl, hb2⟩
    replace hb2 : Hid (Below w.heap.size w w2) := hid (bl_then (by have := hb1.out; exact blBy) hb2)
    go_wp2
    go_ret2
    exact ⟨rfl, by have := hb2.out; exact blBy⟩
  | some f =>
    rw [qf] at HV
    obtain ⟨j, hj, ej⟩ := List.mem_iff_getElem.1 (List.mem_of_find?_eq_some qf)
    have hnum : t.fs[j].num = n := by rw [ej]; simpa using List.find?_some qf
    have HFO := hid fun W (hW : Below w.heap.size w W) => fieldOfOk t.fs n W fa fc (HTY.out.kept hW).f HRI.out.1 HRI.out.2 j hj hnum
    rw [ej] at HFO
    have HTF := hid fun W => takenAsT f W kd
    clear HRI HTY qf ej hnum
    rw [HV.out]
    dsimp only
    generalize takenF f kd = tk at *
    go_enter Tryd.func11, Tryd.ntmps11
    go_wp2_with fail
    refine (HTA.out _ (by exact blBy)).mono ?_
    rintro e w1 ⟨rfl, hb1⟩
    replace hb1 : Hid (Below w.heap.size w w1) := hid (bl_then (by exact blBy) hb1)
    go_wp2_with fail
    refine (HFO.out _ (by have := hb1.out; exact blBy)).mono ?_
    rintro e w2 ⟨rfl, hb2⟩
    replace hb2 : Hid (Below w.heap.size w w2) := hid (bl_then (by have := hb1.out; exact blBy) hb2)
    go_wp2_with fail
    refine (HTF.out _).mono ?_
    rintro e w3 ⟨rfl, hb3⟩
    replace hb3 : Hid (Below w.heap.size w w3) := hid (bl_then (by have := hb2.out; exact blBy) hb3)
    go_wp2
    go_ret2
    exact ⟨rfl, hb3.out⟩
def nmP (nm : List Int) (f : FT) : Bool := decide (f.name = nm)
theorem fnd_find {α : Type} (p : α → Bool) : ∀ (l : List α) (i : Nat), (fnd p l i < 0 ∧ l.find? p = none) ∨ ∃ (j : Nat) (hj : j < l.length), fnd p l i = ((i + j : Nat) : Int) ∧ l.find? p = some l[j]
  | [], i => .inl ⟨by simp [fnd], rfl⟩
  | x :: r, i => by
    rw [fnd, List.find?_cons]
    by_cases h : p x = true
    · rw [if_pos h, h]
      exact .inr ⟨0, by simp, by simp, rfl⟩
    · rw [if_neg h, Bool.eq_false_iff.2 h]
      rcases fnd_find p r (i + 1) with ⟨h1, h2⟩ | ⟨j, hj, h1, h2⟩
      · exact .inl ⟨h1, h2⟩
      · exact .inr ⟨j + 1, by simp; omega, by rw [h1]; congr 1; omega, by simpa using h2⟩
def namedV (l : List TV) (idx : Int) (nm : List Int) : FT × Int := if isB l idx false = true then (match l[idx.toNat]? with | some x => (match x.t.fs.find? (nmP nm) with | some f => (f, 0) | none => (ftZ, 20)) | none => (ftZ, 18)) else (ftZ, 18)
theorem namedV_at {l : List TV} {k : Nat} (hk : k < l.length) {nm : List Int} (h : isB l (k : Int) false = true) : namedV l (k : Int) nm = (match l[k].t.fs.find? (nmP nm) with | some f => (f, 0) | none => (ftZ, 20)) := by
  unfold namedV
  rw [if_pos h, Int.toNat_natCast, List.getElem?_eq_getElem hk]
/-- What firstOf answers, of fields. -/
def tFNv (o : Option FT) : Value := match o with
  | some s => .tuple #[.agg #[.string (strOfNums s.name), .int .i64 s.num, .int .i64 s.kind, .int .i64 s.ref, .int .i64 s.lab, .int .i64 s.one, .int .i64 s.key], .bool true]
  | none => .tuple #[.agg #[.string ⟨#[]⟩, .int .i64 0, .int .i64 0, .int .i64 0, .int .i64 0, .int .i64 0, .int .i64 0], .bool false]
theorem nmdFnv (f : FT) (w : World) (p : Nat) (nm : List Int) (hp : Blk w p 9 #[.string (strOfNums nm)]) (hx : TxA f.name) (hn : TxA nm) : Calls Tryd.prog 61 #[.agg #[.string (strOfNums f.name), .int .i64 f.num, .int .i64 f.kind, .int .i64 f.ref, .int .i64 f.lab, .int .i64 f.one, .int .i64 f.key], .pointer (some ⟨p, 0, none⟩)] w fun e w' => e = .returned (.bool (nmP nm f)) ∧ Below w.heap.size w w' := by
  have xp := hp.cellF
  have zp := hp.lt
  have HS := hid (str_eq hx.1 hn.1)
  clear hp
  go_enter Tryd.func61, Tryd.ntmps61
  go_wp2
  go_ret
  exact ⟨ret_bool (by have := HS.out; unfold nmP; rw [← this]), by exact blBy⟩
theorem idxNmdv (fs : List FT) (w : World) (a : Option Addr) (c p : Nat) (P : FT → Bool) (h : RowS w AnyZ 7 (.slice a fs.length c) fs.length (fs.flatMap cFT))
    (hc : ∀ f ∈ fs, ∀ (W : World), Below w.heap.size w W → Calls Tryd.prog 61 #[.agg #[.string (strOfNums f.name), .int .i64 f.num, .int .i64 f.kind, .int .i64 f.ref, .int .i64 f.lab, .int .i64 f.one, .int .i64 f.key], .pointer (some ⟨p, 0, none⟩)] W fun e w' => e = .returned (.bool (P f)) ∧ Below W.heap.size W w') : Calls Tryd.prog 88 #[.slice a fs.length c, .func (.func 61) #[] #[.pointer (some ⟨p, 0, none⟩)]] w fun e w' => e = .returned (.int .i64 (fnd P fs 0)) ∧ Below w.heap.size w w' := by
  obtain ⟨_, _, e, hn⟩ := rowS_sl h
  clear e
  have h1 : (fs.length : Int) ≤ 9223372036854775807 := by omega
  have HR := hid h
  have HC := hid hc
  clear h hc
  go_enter Tryd.func88, Tryd.ntmps88
  go_wp2
  go_loopw [8] (fun r wr => ∃ j : Nat, r = .int .i64 j ∧ j ≤ fs.length ∧ Hid (fnd P fs 0 = fnd P (fs.drop j) j) ∧ Hid (Below w.heap.size w wr)) (fun r wr => fs.length - numAt wr r)
  case atStart => exact ⟨0, rfl, by omega, hid rfl, hid (Below.refl _ _)⟩
  case round =>
    obtain ⟨j, rfl, hj, hf, hb⟩ := hrel
    by_cases hlt : j < fs.length
    · have h2 : (j : Int) < (fs.length : Int) := by omega
      obtain ⟨b, o, rfl, hbl, c0, c1, c2, c3, c4, c5, c6⟩ := row7 (HR.out.kept hb.out) hlt
      have HST := hid (fnd_at (p := P) hlt)
      have HCj := hid (HC.out _ (List.getElem_mem hlt))
      clear HC
      generalize fs[j] = f at *
      go_wp2_with fail
      refine (HCj.out wr hb.out).mono ?_
      rintro e w1 ⟨rfl, hb1⟩
      have HB1 := hid (bl_then hb.out hb1)
      clear hb1
      cases hq : P f with
      | true =>
        go_wp2
        go_ret
        exact ⟨ret_int (by rw [hf.out, HST.out, hq]; simp), HB1.out⟩
      | false =>
        go_wp2
        exact ⟨⟨j + 1, by simp, by omega, hid (by rw [hf.out, HST.out, hq]; simp), HB1⟩, by simp [numAt]; omega⟩
    · have h2 : ¬ (j : Int) < (fs.length : Int) := by omega
      have HE : Hid (fnd P fs 0 = -1) := hid (by rw [hf.out, List.drop_of_length_le (by omega)]; rfl)
      go_wp2
      go_ret
      exact ⟨ret_int (by rw [HE.out]), hb.out⟩
theorem firstFtv (w : World) (xs : List FT) (a : Option Addr) (c : Nat) (h : RowS w AnyZ 7 (.slice a xs.length c) xs.length (xs.flatMap cFT)) (fv : Value) (P : FT → Bool)
    (hidx : ∀ W, Below w.heap.size w W → Calls Tryd.prog 88 #[.slice a xs.length c, fv] W fun e w' => e = .returned (.int .i64 (fnd P xs 0)) ∧ Below W.heap.size W w') : Calls Tryd.prog 60 #[.slice a xs.length c, fv] w fun e w' => e = .returned (tFNv (xs.find? P)) ∧ Below w.heap.size w w' := by
  obtain ⟨_, _, e1, l1⟩ := rowS_sl h
  clear e1
  have m1 : (xs.length : Int) ≤ 9223372036854775807 := by omega
  have HI := hid hidx
  rcases fnd_find P xs 0 with ⟨hq, hf⟩ | ⟨j, hj, hq, hf⟩
  · rw [fnd_ge P xs 0 hq] at HI
    rw [hf]
    clear h hidx hq hf
    go_enter Tryd.func60, Tryd.ntmps60
    go_wp2_with fail
    refine (HI.out _ (by first | exact Below.refl _ _ | exact blBy)).mono ?_
    rintro e w1 ⟨rfl, hb1⟩
    have hb : Hid (Below w.heap.size w w1) := hid (bl_then (by exact blBy) hb1)
    have Br : Blk w1 w.heap.size 39 #[.string ⟨#[]⟩, .int .i64 0, .int .i64 0, .int .i64 0, .int .i64 0, .int .i64 0, .int .i64 0] := (Blk.new _ _ _).kept hb1
    have xr := Br.cellF
    have yr := Br.frz
    have zr := Br.lt
    clear hb1
    go_wp2
    exact bodyPost_ret (v := .tuple #[.agg #[.string ⟨#[]⟩, .int .i64 0, .int .i64 0, .int .i64 0, .int .i64 0, .int .i64 0, .int .i64 0], .bool false]) (by simp [results, Tryd.results60, go_sem, xr, zr, yr]) rfl ⟨rfl, by have := hb.out; exact blBy⟩
  · rw [hq] at HI
    rw [hf]
    simp only [Nat.zero_add] at HI
    have HY := hid fun W (hW : Below w.heap.size w W) => row7 (h.kept hW) hj
    have r1 : ((j : Int) < 0) = False := eq_false (by omega)
    have r2 : (j : Int) < (xs.length : Int) := by omega
    clear h hidx hq hf
    generalize xs[j] = s at *
    go_enter Tryd.func60, Tryd.ntmps60
    go_wp2_with fail
    refine (HI.out _ (by first | exact Below.refl _ _ | exact blBy)).mono ?_
    rintro e w1 ⟨rfl, hb1⟩
    have hb : Hid (Below w.heap.size w w1) := hid (bl_then (by exact blBy) hb1)
    obtain ⟨b, o, rfl, hbl, c0, c1, c2, c3, c4, c5, c6⟩ := HY.out _ hb.out
    have Br : Blk w1 w.heap.size 39 #[.string ⟨#[]⟩, .int .i64 0, .int .i64 0, .int .i64 0, .int .i64 0, .int .i64 0, .int .i64 0] := (Blk.new _ _ _).kept hb1
    have xr := Br.cellF
    have yr := Br.frz
    have zr := Br.lt
    clear hb1
    go_wp2
    exact bodyPost_ret (v := .tuple #[.agg #[.string (strOfNums s.name), .int .i64 s.num, .int .i64 s.kind, .int .i64 s.ref, .int .i64 s.lab, .int .i64 s.one, .int .i64 s.key], .bool true]) (by simp [results, Tryd.results60, go_sem, xr, zr, yr]) rfl ⟨rfl, by have := hb.out; exact blBy⟩
theorem namedFv (w : World) (fs : List FT) (a : Option Addr) (c : Nat) (h : RowS w AnyZ 7 (.slice a fs.length c) fs.length (fs.flatMap cFT)) (hf : ∀ f ∈ fs, TxA f.name) (nm : List Int) (hn : TxA nm) : Calls Tryd.prog 43 #[.slice a fs.length c, .string (strOfNums nm)] w fun e w' => e = .returned (tFNv (fs.find? (nmP nm))) ∧ Below w.heap.size w w' := by
  have HI := hid fun W (hW : Below w.heap.size w W) p (hp : Blk W p 9 #[.string (strOfNums nm)]) => firstFtv W fs a c (h.kept hW) (.func (.func 61) #[] #[.pointer (some ⟨p, 0, none⟩)]) (nmP nm) (fun W2 hW2 => idxNmdv fs W2 a c p (nmP nm) ((h.kept hW).kept hW2) (fun f hff W3 hW3 => nmdFnv f W3 p nm ((hp.kept hW2).kept hW3) (hf f hff) hn))
  clear h hf hn
  generalize fs.find? (nmP nm) = r at *
  generalize fs.length = n at *
  go_enter Tryd.func43, Tryd.ntmps43
  go_wp2_with fail
  refine (HI.out _ (by exact blBy) w.heap.size (by first | exact (Blk.new _ _ _).kept (below_alloc _) | exact Blk.new _ _ _)).mono ?_
  rintro e w2 ⟨rfl, hb2⟩
  have hb2' : Hid (Below w.heap.size w w2) := hid (bl_then (by exact blBy) hb2)
  have Br : Blk w2 (w.heap.size + 1) 39 #[.string ⟨#[]⟩, .int .i64 0, .int .i64 0, .int .i64 0, .int .i64 0, .int .i64 0, .int .i64 0] := (Blk.newAt (by simp)).kept hb2
  have xr := Br.cellF
  have yr := Br.frz
  have zr := Br.lt
  clear hb2
  cases r with
  | none =>
    unfold tFNv
    go_wp2
    exact bodyPost_ret (v := .tuple #[.agg #[.string ⟨#[]⟩, .int .i64 0, .int .i64 0, .int .i64 0, .int .i64 0, .int .i64 0, .int .i64 0], .bool false]) (by simp [results, Tryd.results43, go_sem, xr, zr, yr]) rfl ⟨rfl, by have := hb2'.out; exact blBy⟩
  | some s =>
    unfold tFNv
    go_wp2
    exact bodyPost_ret (v := .tuple #[.agg #[.string (strOfNums s.name), .int .i64 s.num, .int .i64 s.kind, .int .i64 s.ref, .int .i64 s.lab, .int .i64 s.one, .int .i64 s.key], .bool true]) (by simp [results, Tryd.results43, go_sem, xr, zr, yr]) rfl ⟨rfl, by have := hb2'.out; exact blBy⟩
theorem namedPT (w : World) (l : List TV) (ta : Option Addr) (tc : Nat) (h : TbR w (.slice ta l.length tc) l) (hk : ∀ x ∈ l, OkV x) (hz : ∀ x ∈ l, ∀ f ∈ x.t.fs, f.name.length ≤ 4000000) (m : Int) (hm : w.cell? ⟨0, 0, none⟩ = some (.int .i64 m)) (idx : Int) (nm : List Int) (hn : TxA nm) : Calls Tryd.prog 18 #[.agg #[.slice ta l.length tc], .int .i64 idx, .string (strOfNums nm)] w fun e w' => e = .returned (.tuple #[aFT (namedV l idx nm).1, .int .i64 (namedV l idx nm).2]) ∧ Below w.heap.size w w' := by
  cases q : isB l idx false with
  | false =>
    have HV : Hid (namedV l idx nm = (ftZ, 18)) := hid (by unfold namedV; rw [if_neg (by rw [q]; simp)])
    have HTA := hid fun W (hW : Below w.heap.size w W) => typeAtNo W l ta tc (h.kept hW) hk m (cell_below hm hW) idx false q
    clear h hk hz hm q
    rw [HV.out]
    go_enter Tryd.func18, Tryd.ntmps18
    go_wp2_with fail
    refine (HTA.out _ (by exact blBy)).mono ?_
    rintro e w1 ⟨rfl, hb1⟩
    have Br : Blk w1 (w.heap.size + 1) 39 #[.string ⟨#[]⟩, .int .i64 0, .int .i64 0, .int .i64 0, .int .i64 0, .int .i64 0, .int .i64 0] := (Blk.newAt (by simp)).kept hb1
    replace hb1 : Hid (Below w.heap.size w w1) := hid (bl_then (by exact blBy) hb1)
    have xr := Br.cellF
    have yr := Br.frz
    have zr := Br.lt
    go_wp2
    exact bodyPost_ret (v := .tuple #[.agg #[.string ⟨#[]⟩, .int .i64 0, .int .i64 0, .int .i64 0, .int .i64 0, .int .i64 0, .int .i64 0], .int .i64 18]) (by simp [results, Tryd.results18, go_sem, xr, zr, yr]) rfl ⟨rfl, by have := hb1.out; exact blBy⟩
  | true =>
  obtain ⟨k, hkl, rfl, hg, he⟩ := isB_at q
  have HV := hid (namedV_at hkl (nm := nm) q)
  have HTA := hid fun W (hW : Below w.heap.size w W) => typeAtOk W l ta tc (h.kept hW) hk m (cell_below hm hW) k hkl hg he
  have HTY := hid (h.ty _ (List.getElem_mem hkl))
  have HZ := hid (hz _ (List.getElem_mem hkl))
  have HOK := hid (hk _ (List.getElem_mem hkl)).ok.fs
  have HN := hid hn
  clear h hk hz hm q hg he hn
  generalize namedV l (k : Int) nm = fv at *
  generalize l[k] = x at *
  obtain ⟨t, f, o, s, r⟩ := x
  obtain ⟨fa, fc, ef, -⟩ := rowS_sl HTY.out.f
  obtain ⟨oa, oc, eo, -⟩ := rowS_sl HTY.out.o
  obtain ⟨sa, sc, es, -⟩ := rowS_sl HTY.out.s
  obtain ⟨ra, rc, er, -⟩ := rowS_sl HTY.out.r
  dsimp only at ef eo es er
  subst ef eo es er
  dsimp only at HV HTA HZ HOK
  go_enter Tryd.func18, Tryd.ntmps18
  go_wp2_with fail
  refine (HTA.out _ (by exact blBy)).mono ?_
  rintro e w1 ⟨rfl, hb1⟩
  have Br : Blk w1 (w.heap.size + 1) 39 #[.string ⟨#[]⟩, .int .i64 0, .int .i64 0, .int .i64 0, .int .i64 0, .int .i64 0, .int .i64 0] := (Blk.newAt (by simp)).kept hb1
  replace hb1 : Hid (Below w.heap.size w w1) := hid (bl_then (by exact blBy) hb1)
  have zr := Br.lt
  have HNM := hid (namedFv (w1.alloc (.cells #[.string (strOfNums t.name), .bool false, .slice fa t.fs.length fc, .slice oa t.os.length oc, .slice sa t.ss.length sc, .slice ra t.rs.length rc] 62)) t.fs fa fc ((HTY.out.kept (by have := hb1.out; exact blBy)).f) HOK.out nm HN.out)
  have HFR := hid fun f (hf : f ∈ t.fs) W => freshT f W (HZ.out f hf)
  go_wp2_with fail
  refine HNM.out.mono ?_
  rintro e w2 ⟨rfl, hb2⟩
  replace Br := (Br.kept (below_alloc _)).kept hb2
  replace hb2 : Hid (Below w.heap.size w w2) := hid (bl_then (by have := hb1.out; exact blBy) hb2)
  clear zr HNM
  have xr := Br.cellF
  have yr := Br.frz
  have zr := Br.lt
  rcases hq : t.fs.find? (nmP nm) with _ | f
  · rw [hq] at HV
    dsimp only [tFNv]
    clear hq
    go_wp2
    exact bodyPost_ret (v := .tuple #[.agg #[.string ⟨#[]⟩, .int .i64 0, .int .i64 0, .int .i64 0, .int .i64 0, .int .i64 0, .int .i64 0], .int .i64 20]) (by simp [results, Tryd.results18, go_sem, xr, zr, yr]) rfl ⟨by rw [HV.out]; rfl, by have := hb2.out; exact blBy⟩
  · rw [hq] at HV
    replace HFR := hid (HFR.out f (List.mem_of_find?_eq_some hq))
    dsimp only [tFNv]
    clear hq
    go_wp2_with fail
    refine (HFR.out _).mono ?_
    rintro e w3 ⟨rfl, hb3⟩
    replace Br := (Br.kept (by exact blBy)).kept hb3
    replace hb3 : Hid (Below w.heap.size w w3) := hid (bl_then (by have := hb2.out; exact blBy) hb3)
    clear zr xr yr
    have xr := Br.cellF
    have yr := Br.frz
    have zr := Br.lt
    go_wp2
    exact bodyPost_ret (v := .tuple #[.agg #[.string (strOfNums f.name), .int .i64 f.num, .int .i64 f.kind, .int .i64 f.ref, .int .i64 f.lab, .int .i64 f.one, .int .i64 f.key], .int .i64 0]) (by simp [results, Tryd.results18, go_sem, xr, zr, yr]) rfl ⟨by rw [HV.out]; rfl, by have := hb3.out; exact blBy⟩
theorem isR (w : World) (l : List TV) (ta : Option Addr) (tc : Nat) (h : TbR w (.slice ta l.length tc) l) (hk : ∀ x ∈ l, OkV x) (hz : ∀ x ∈ l, x.t.name.length < 4000000) (idx : Int) : Calls Tryd.prog 19 #[.agg #[.slice ta l.length tc], .int .i64 idx] w fun e w' => e = .returned (.bool (isB l idx false)) ∧ Below w.heap.size w w' := by
  obtain ⟨_, _, e, hn⟩ := rowS_sl h.row
  clear e
  have h63 : (l.length : Int) ≤ 9223372036854775807 := by omega
  have HX : Hid (isB l idx false = (goodB l && (decide (0 ≤ idx) && (match l[idx.toNat]? with | some x => x.t.enum == false | none => false)))) := hid rfl
  have HGC : Hid (∀ W, Below w.heap.size w W → Calls Tryd.prog 15 #[.agg #[.slice ta l.length tc]] W fun e w' => e = .returned (.bool (goodB l)) ∧ Below W.heap.size W w') := hid fun W hW => by
    have := goodR W l ta tc (h.kept hW) hk hz
    rw [goodEq l hk] at this
    exact this
  clear hk hz
  generalize isB l idx false = res at *
  cases q : goodB l with
  | false =>
    rw [q] at HGC HX
    clear h
    go_enter Tryd.func19, Tryd.ntmps19
    go_wp2_with fail
    refine (HGC.out _ (by exact blBy)).mono ?_
    rintro e w1 ⟨rfl, hb1⟩
    have Ba : Blk w1 w.heap.size 24 #[.slice ta l.length tc] := (Blk.new _ _ _).kept hb1
    replace hb1 : Hid (Below w.heap.size w w1) := hid (bl_then (by exact blBy) hb1)
    have xa := Ba.cellF
    have za := Ba.lt
    go_wp2
    go_ret
    exact ⟨ret_bool (HX.out.symm), hb1.out⟩
  | true =>
  rw [q, Bool.true_and] at HX
  rw [q] at HGC
  by_cases r1 : 0 ≤ idx
  case neg =>
    have r2 : (0 ≤ idx) = False := eq_false r1
    rw [decide_eq_false r1, Bool.false_and] at HX
    clear h r1
    go_enter Tryd.func19, Tryd.ntmps19
    go_wp2_with fail
    refine (HGC.out _ (by exact blBy)).mono ?_
    rintro e w1 ⟨rfl, hb1⟩
    have Ba : Blk w1 w.heap.size 24 #[.slice ta l.length tc] := (Blk.new _ _ _).kept hb1
    replace hb1 : Hid (Below w.heap.size w w1) := hid (bl_then (by exact blBy) hb1)
    have xa := Ba.cellF
    have za := Ba.lt
    go_wp2
    go_ret
    exact ⟨ret_bool (HX.out.symm), hb1.out⟩
  obtain ⟨k, rfl⟩ := Int.eq_ofNat_of_zero_le r1
  rw [decide_eq_true r1, Bool.true_and, Int.toNat_natCast] at HX
  have r2 : (0 ≤ (k : Int)) = True := eq_true r1
  by_cases r3 : k < l.length
  case neg =>
    have r4 : ((k : Int) < (l.length : Int)) = False := eq_false (by omega)
    rw [List.getElem?_eq_none (by omega)] at HX
    clear h r1 r3
    go_enter Tryd.func19, Tryd.ntmps19
    go_wp2_with fail
    refine (HGC.out _ (by exact blBy)).mono ?_
    rintro e w1 ⟨rfl, hb1⟩
    have Ba : Blk w1 w.heap.size 24 #[.slice ta l.length tc] := (Blk.new _ _ _).kept hb1
    replace hb1 : Hid (Below w.heap.size w w1) := hid (bl_then (by exact blBy) hb1)
    have xa := Ba.cellF
    have za := Ba.lt
    go_wp2
    go_ret
    exact ⟨ret_bool (HX.out.symm), hb1.out⟩
  have r4 : ((k : Int) < (l.length : Int)) = True := eq_true (by omega)
  have r5 : (k : Int) < (l.length : Int) := by omega
  obtain ⟨tb, tof, rfl, hbl, -, c1, -⟩ := row6 h.row r3
  rw [List.getElem?_eq_getElem r3] at HX
  dsimp only at HX
  clear h r1
  generalize l[k].t.enum = en at *
  clear r3
  go_enter Tryd.func19, Tryd.ntmps19
  go_wp2_with fail
  refine (HGC.out _ (by exact blBy)).mono ?_
  rintro e w1 ⟨rfl, hb1⟩
  have Ba : Blk w1 w.heap.size 24 #[.slice (some ⟨tb, tof, none⟩) l.length tc] := (Blk.new _ _ _).kept hb1
  replace hb1 : Hid (Below w.heap.size w w1) := hid (bl_then (by exact blBy) hb1)
  have d1 := cell_below c1 hb1.out
  have hbl1 : tb < w1.heap.size := World.block_lt_of_cell? _ _ d1
  clear c1
  have xa := Ba.cellF
  have za := Ba.lt
  go_wp2
  go_ret
  exact ⟨ret_bool (by rw [HX.out]; cases en <;> rfl), hb1.out⟩
/-- A field that is looked for, one by one. -/
theorem fieldDR (w : World) (l : List TV) (ta : Option Addr) (tc : Nat) (h : TbR w (.slice ta l.length tc) l) (k : Nat) (hk : k < l.length) (n : Int)  : Calls Tryd.prog 20 #[.agg #[.slice ta l.length tc], .int .i64 (k : Int), .int .i64 n] w fun e w' => e = .returned (.tuple #[aFT ((l[k].t.fs.find? (fun f => decide (f.num = n))).getD ftZ), .bool (l[k].t.fs.find? (fun f => decide (f.num = n))).isSome]) ∧ Below w.heap.size w w' := by
  obtain ⟨_, _, e, hn0⟩ := rowS_sl h.row
  clear e
  have h63 : (l.length : Int) ≤ 9223372036854775807 := by omega
  have r5 : (k : Int) < (l.length : Int) := by omega
  have HTY := hid (h.ty _ (List.getElem_mem hk))
  obtain ⟨tb, tof, rfl, hbl, -, -, c2, -⟩ := row6 h.row hk
  clear h
  generalize l[k] = x at *
  obtain ⟨t, f, o, s, r⟩ := x
  obtain ⟨fa, fc, ef, hfl⟩ := rowS_sl HTY.out.f
  dsimp only at ef hfl
  subst ef
  have hf63 : (t.fs.length : Int) ≤ 9223372036854775807 := by omega
  dsimp only at c2
  dsimp only
  have HF := hid HTY.out.f
  dsimp only at HF
  clear HTY
  have HV : Hid (∀ (v : Option FT), v = t.fs.find? (fun f => decide (f.num = n)) → True) := hid fun _ _ => trivial
  clear HV
  generalize hfv : t.fs.find? (fun f => decide (f.num = n)) = fv
  have HFV := hid hfv
  clear hfv
  go_enter Tryd.func20, Tryd.ntmps20
  go_wp2
  clear c2
  go_loopw [9] (fun r wr => ∃ j : Nat, r = .int .i64 j ∧ j ≤ t.fs.length ∧ Hid ((t.fs.drop j).find? (fun f => decide (f.num = n)) = fv) ∧ Hid (Blk wr (w.heap.size + 1) 39 #[.string ⟨#[]⟩, .int .i64 0, .int .i64 0, .int .i64 0, .int .i64 0, .int .i64 0, .int .i64 0]) ∧ Hid (Below w.heap.size w wr)) (fun r wr => t.fs.length - numAt wr r)
  case atStart => exact ⟨0, rfl, by omega, HFV, hid (Blk.newAt (by simp)), hid (by exact blBy)⟩
  case round =>
    clear HFV
    obtain ⟨j, rfl, hj, HFV, Br, hb⟩ := hrel
    have xr := Br.out.cellF
    have yr := Br.out.frz
    have zr := Br.out.lt
    by_cases hlt : j < t.fs.length
    · have h2 : (j : Int) < (t.fs.length : Int) := by omega
      obtain ⟨fb, fo, rfl, hbf, c0, c1, c2, c3, c4, c5, c6⟩ := row7 HF.out hlt
      have d0 := cell_below c0 hb.out
      have d1 := cell_below c1 hb.out
      have d2 := cell_below c2 hb.out
      have d3 := cell_below c3 hb.out
      have d4 := cell_below c4 hb.out
      have d5 := cell_below c5 hb.out
      have d6 := cell_below c6 hb.out
      clear c0 c1 c2 c3 c4 c5 c6
      have HST : Hid ((t.fs.drop j).find? (fun f => decide (f.num = n)) = match (fun f => decide (f.num = n)) t.fs[j] with | true => some t.fs[j] | false => (t.fs.drop (j + 1)).find? (fun f => decide (f.num = n))) := hid (by rw [List.drop_eq_getElem_cons hlt, List.find?_cons]; first | rfl | (split <;> rfl) | (split <;> simp_all))
      rw [HST.out] at HFV
      clear HST
      generalize t.fs[j] = f at *
      have hfb : fb ≠ w.heap.size + 1 := by omega
      have hfb2 : fb < wr.heap.size := World.block_lt_of_cell? _ _ d0
      by_cases hq : f.num = n
      · have kq : (f.num == n) = true := by simpa using hq
        rw [show (fun f => decide (f.num = n)) f = true from decide_eq_true hq] at HFV
        have HE : Hid (fv = some f) := hid HFV.out.symm
        replace hq := hid hq
        go_wp2
        exact bodyPost_ret (v := .tuple #[.agg #[.string (strOfNums f.name), .int .i64 f.num, .int .i64 f.kind, .int .i64 f.ref, .int .i64 f.lab, .int .i64 f.one, .int .i64 f.key], .bool true]) (by simp [results, Tryd.results20, go_sem, xr, zr, yr]) rfl ⟨by rw [HE.out]; rfl, by have := hb.out; exact blBy⟩
      · have kq : (f.num == n) = false := by simpa using hq
        rw [show (fun f => decide (f.num = n)) f = false from decide_eq_false hq] at HFV
        replace hq := hid hq
        go_wp2
        exact ⟨⟨j + 1, by simp, by omega, HFV, Br, hb⟩, by simp [numAt]; omega⟩
    · have h2 : ¬ (j : Int) < (t.fs.length : Int) := by omega
      have HE : Hid (fv = none) := hid (by rw [← HFV.out, List.drop_of_length_le (by omega)]; rfl)
      go_wp2
      exact bodyPost_ret (v := .tuple #[.agg #[.string ⟨#[]⟩, .int .i64 0, .int .i64 0, .int .i64 0, .int .i64 0, .int .i64 0, .int .i64 0], .bool false]) (by simp [results, Tryd.results20, go_sem, xr, zr, yr]) rfl ⟨by rw [HE.out]; rfl, by have := hb.out; exact blBy⟩
/-- A field that is looked for, one by one. -/
theorem namedDR (w : World) (l : List TV) (ta : Option Addr) (tc : Nat) (h : TbR w (.slice ta l.length tc) l) (k : Nat) (hk : k < l.length) (nm : List Int) (hn : TxA nm) (hx : ∀ f ∈ l[k].t.fs, TxA f.name) : Calls Tryd.prog 21 #[.agg #[.slice ta l.length tc], .int .i64 (k : Int), .string (strOfNums nm)] w fun e w' => e = .returned (.tuple #[aFT ((l[k].t.fs.find? (nmP nm)).getD ftZ), .bool (l[k].t.fs.find? (nmP nm)).isSome]) ∧ Below w.heap.size w w' := by
  obtain ⟨_, _, e, hn0⟩ := rowS_sl h.row
  clear e
  have h63 : (l.length : Int) ≤ 9223372036854775807 := by omega
  have r5 : (k : Int) < (l.length : Int) := by omega
  have HTY := hid (h.ty _ (List.getElem_mem hk))
  obtain ⟨tb, tof, rfl, hbl, -, -, c2, -⟩ := row6 h.row hk
  clear h
  generalize l[k] = x at *
  obtain ⟨t, f, o, s, r⟩ := x
  obtain ⟨fa, fc, ef, hfl⟩ := rowS_sl HTY.out.f
  dsimp only at ef hfl
  subst ef
  have hf63 : (t.fs.length : Int) ≤ 9223372036854775807 := by omega
  dsimp only at c2 hx
  dsimp only
  have HF := hid HTY.out.f
  dsimp only at HF
  clear HTY
  have HV : Hid (∀ (v : Option FT), v = t.fs.find? (nmP nm) → True) := hid fun _ _ => trivial
  clear HV
  generalize hfv : t.fs.find? (nmP nm) = fv
  have HFV := hid hfv
  clear hfv
  go_enter Tryd.func21, Tryd.ntmps21
  go_wp2
  clear c2
  go_loopw [9] (fun r wr => ∃ j : Nat, r = .int .i64 j ∧ j ≤ t.fs.length ∧ Hid ((t.fs.drop j).find? (nmP nm) = fv) ∧ Hid (Blk wr (w.heap.size + 1) 39 #[.string ⟨#[]⟩, .int .i64 0, .int .i64 0, .int .i64 0, .int .i64 0, .int .i64 0, .int .i64 0]) ∧ Hid (Below w.heap.size w wr)) (fun r wr => t.fs.length - numAt wr r)
  case atStart => exact ⟨0, rfl, by omega, HFV, hid (Blk.newAt (by simp)), hid (by exact blBy)⟩
  case round =>
    clear HFV
    obtain ⟨j, rfl, hj, HFV, Br, hb⟩ := hrel
    have xr := Br.out.cellF
    have yr := Br.out.frz
    have zr := Br.out.lt
    by_cases hlt : j < t.fs.length
    · have h2 : (j : Int) < (t.fs.length : Int) := by omega
      obtain ⟨fb, fo, rfl, hbf, c0, c1, c2, c3, c4, c5, c6⟩ := row7 HF.out hlt
      have d0 := cell_below c0 hb.out
      have d1 := cell_below c1 hb.out
      have d2 := cell_below c2 hb.out
      have d3 := cell_below c3 hb.out
      have d4 := cell_below c4 hb.out
      have d5 := cell_below c5 hb.out
      have d6 := cell_below c6 hb.out
      clear c0 c1 c2 c3 c4 c5 c6
      have HST : Hid ((t.fs.drop j).find? (nmP nm) = match (nmP nm) t.fs[j] with | true => some t.fs[j] | false => (t.fs.drop (j + 1)).find? (nmP nm)) := hid (by rw [List.drop_eq_getElem_cons hlt, List.find?_cons]; first | rfl | (split <;> rfl) | (split <;> simp_all))
      rw [HST.out] at HFV
      clear HST
      have hs := str_eq (hx _ (List.getElem_mem hlt)).1 hn.1
      generalize t.fs[j] = f at *
      have hfb : fb ≠ w.heap.size + 1 := by omega
      have hfb2 : fb < wr.heap.size := World.block_lt_of_cell? _ _ d0
      by_cases hq : f.name = nm
      · rw [decide_eq_true hq] at hs
        rw [show (nmP nm) f = true from decide_eq_true hq] at HFV
        have HE : Hid (fv = some f) := hid HFV.out.symm
        replace hq := hid hq
        go_wp2
        exact bodyPost_ret (v := .tuple #[.agg #[.string (strOfNums f.name), .int .i64 f.num, .int .i64 f.kind, .int .i64 f.ref, .int .i64 f.lab, .int .i64 f.one, .int .i64 f.key], .bool true]) (by simp [results, Tryd.results21, go_sem, xr, zr, yr]) rfl ⟨by rw [HE.out]; rfl, by have := hb.out; exact blBy⟩
      · rw [decide_eq_false hq] at hs
        rw [show (nmP nm) f = false from decide_eq_false hq] at HFV
        replace hq := hid hq
        go_wp2
        exact ⟨⟨j + 1, by simp, by omega, HFV, Br, hb⟩, by simp [numAt]; omega⟩
    · have h2 : ¬ (j : Int) < (t.fs.length : Int) := by omega
      have HE : Hid (fv = none) := hid (by rw [← HFV.out, List.drop_of_length_le (by omega)]; rfl)
      go_wp2
      exact bodyPost_ret (v := .tuple #[.agg #[.string ⟨#[]⟩, .int .i64 0, .int .i64 0, .int .i64 0, .int .i64 0, .int .i64 0, .int .i64 0], .bool false]) (by simp [results, Tryd.results21, go_sem, xr, zr, yr]) rfl ⟨by rw [HE.out]; rfl, by have := hb.out; exact blBy⟩
def wireD (f : FT) : Int := if f.lab = 5 then 2 else kwire f.kind
def takenD (f : FT) (k : Int) : Int := if wireD f = k then 1 else if rowsF f = true ∧ k = 2 then 2 else 0
theorem wireDR (f : FT) (w : World) : Calls Tryd.prog 44 #[.agg #[.string (strOfNums f.name), .int .i64 f.num, .int .i64 f.kind, .int .i64 f.ref, .int .i64 f.lab, .int .i64 f.one, .int .i64 f.key]] w fun e w' => e = .returned (.int .i64 (wireD f)) ∧ Below w.heap.size w w' := by
  have HK := hid (wireKR f.kind)
  have HX : Hid (wireD f = if f.lab = 5 then 2 else kwire f.kind) := hid rfl
  generalize kwire f.kind = kw at *
  by_cases h : f.lab = 5
  · have k5 : (f.lab == 5) = true := by simpa using h
    rw [if_pos h] at HX
    replace h := hid h
    go_enter Tryd.func44, Tryd.ntmps44
    go_wp2
    go_ret
    exact ⟨ret_int HX.out.symm, by exact blBy⟩
  · have k5 : (f.lab == 5) = false := by simpa using h
    rw [if_neg h] at HX
    replace h := hid h
    go_enter Tryd.func44, Tryd.ntmps44
    go_wp2_with (first | (go_at_call 62; refine (HK.out _).mono ?_; rintro e w1 ⟨rfl, rfl⟩))
    go_ret
    exact ⟨ret_int HX.out.symm, by exact blBy⟩
def takesD (fs : List FT) (n kd : Int) : Int := match fs.find? (fun f => decide (f.num = n)) with | some f => takenD f kd | none => 0
theorem takesDR (w : World) (l : List TV) (ta : Option Addr) (tc : Nat) (h : TbR w (.slice ta l.length tc) l) (k : Nat) (hk : k < l.length) (n kd : Int) : Calls Tryd.prog 22 #[.agg #[.slice ta l.length tc], .int .i64 (k : Int), .int .i64 n, .int .i64 kd] w fun e w' => e = .returned (.int .i64 (takesD l[k].t.fs n kd)) ∧ Below w.heap.size w w' := by
  have HX : Hid (takesD l[k].t.fs n kd = match l[k].t.fs.find? (fun f => decide (f.num = n)) with | some f => takenD f kd | none => 0) := hid rfl
  have HF := hid fun W (hW : Below w.heap.size w W) => fieldDR W l ta tc (h.kept hW) k hk n
  clear h
  generalize takesD l[k].t.fs n kd = res at *
  generalize l[k].t.fs.find? (fun f => decide (f.num = n)) = fv at *
  cases fv with
  | none =>
    dsimp only [Option.getD_none, Option.isSome_none] at HF
    go_enter Tryd.func22, Tryd.ntmps22
    go_wp2_with fail
    refine (HF.out _ (by exact blBy)).mono ?_
    rintro e w1 ⟨rfl, hb1⟩
    replace hb1 : Hid (Below w.heap.size w w1) := hid (bl_then (by exact blBy) hb1)
    unfold aFT ftZ
    go_wp2
    go_ret
    exact ⟨ret_int HX.out.symm, by have := hb1.out; exact blBy⟩
  | some f =>
    dsimp only [Option.getD_some, Option.isSome_some] at HF HX
    have HW := hid (wireDR f)
    have HNU := hid (numericR f.kind)
    have HTD : Hid (takenD f kd = if wireD f = kd then 1 else if rowsF f = true ∧ kd = 2 then 2 else 0) := hid rfl
    have HRF : Hid (rowsF f = (decide (f.lab = 2 ∨ f.lab = 3) && knum f.kind)) := hid rfl
    rw [HTD.out] at HX
    clear HTD
    generalize rowsF f = rf at *
    generalize wireD f = wf at *
    generalize knum f.kind = kn at *
    go_enter Tryd.func22, Tryd.ntmps22
    go_wp2_with fail
    refine (HF.out _ (by exact blBy)).mono ?_
    rintro e w1 ⟨rfl, hb1⟩
    replace hb1 : Hid (Below w.heap.size w w1) := hid (bl_then (by exact blBy) hb1)
    unfold aFT
    go_wp2_with fail
    refine (HW.out _).mono ?_
    rintro e w2 ⟨rfl, hb2⟩
    have Bf : Blk w2 w1.heap.size 39 #[.string (strOfNums f.name), .int .i64 f.num, .int .i64 f.kind, .int .i64 f.ref, .int .i64 f.lab, .int .i64 f.one, .int .i64 f.key] := (Blk.new _ _ _).kept hb2
    replace hb2 : Hid (Below w.heap.size w w2) := hid (bl_then (by have := hb1.out; exact blBy) hb2)
    have xf := Bf.cellF
    have zf := Bf.lt
    by_cases h1 : wf = kd
    · have k1 : (wf == kd) = true := by simpa using h1
      rw [if_pos h1] at HX
      replace h1 := hid h1
      go_wp2
      go_ret
      exact ⟨ret_int HX.out.symm, hb2.out⟩
    have k1 : (wf == kd) = false := by simpa using h1
    rw [if_neg h1] at HX
    replace h1 := hid h1
    by_cases l2 : f.lab = 2
    case pos =>
      have m2 : (f.lab == 2) = true := by simpa using l2
      rw [decide_eq_true (.inl l2), Bool.true_and] at HRF
      replace l2 := hid l2
      cases kn with
      | true =>
        by_cases k2 : kd = 2
        · have k3 : (kd == 2) = true := by simpa using k2
          rw [if_pos ⟨HRF.out, k2⟩] at HX
          replace k2 := hid k2
          go_wp2_with (first | (go_at_call 45; refine (HNU.out _).mono ?_; rintro e w3 ⟨rfl, rfl⟩))
          go_ret
          exact ⟨ret_int HX.out.symm, hb2.out⟩
        · have k3 : (kd == 2) = false := by simpa using k2
          rw [if_neg (fun q => k2 q.2)] at HX
          replace k2 := hid k2
          go_wp2_with (first | (go_at_call 45; refine (HNU.out _).mono ?_; rintro e w3 ⟨rfl, rfl⟩))
          go_ret
          exact ⟨ret_int HX.out.symm, hb2.out⟩
      | false =>
        rw [if_neg (fun q => by rw [HRF.out] at q; cases q.1)] at HX
        go_wp2_with (first | (go_at_call 45; refine (HNU.out _).mono ?_; rintro e w3 ⟨rfl, rfl⟩))
        go_ret
        exact ⟨ret_int HX.out.symm, hb2.out⟩
    have m2 : (f.lab == 2) = false := by simpa using l2
    by_cases l3 : f.lab = 3
    case pos =>
      have m3 : (f.lab == 3) = true := by simpa using l3
      rw [decide_eq_true (.inr l3), Bool.true_and] at HRF
      replace l2 := hid l2
      replace l3 := hid l3
      cases kn with
      | true =>
        by_cases k2 : kd = 2
        · have k3 : (kd == 2) = true := by simpa using k2
          rw [if_pos ⟨HRF.out, k2⟩] at HX
          replace k2 := hid k2
          go_wp2_with (first | (go_at_call 45; refine (HNU.out _).mono ?_; rintro e w3 ⟨rfl, rfl⟩))
          go_ret
          exact ⟨ret_int HX.out.symm, hb2.out⟩
        · have k3 : (kd == 2) = false := by simpa using k2
          rw [if_neg (fun q => k2 q.2)] at HX
          replace k2 := hid k2
          go_wp2_with (first | (go_at_call 45; refine (HNU.out _).mono ?_; rintro e w3 ⟨rfl, rfl⟩))
          go_ret
          exact ⟨ret_int HX.out.symm, hb2.out⟩
      | false =>
        rw [if_neg (fun q => by rw [HRF.out] at q; cases q.1)] at HX
        go_wp2_with (first | (go_at_call 45; refine (HNU.out _).mono ?_; rintro e w3 ⟨rfl, rfl⟩))
        go_ret
        exact ⟨ret_int HX.out.symm, hb2.out⟩
    have m3 : (f.lab == 3) = false := by simpa using l3
    rw [decide_eq_false (by omega), Bool.false_and] at HRF
    rw [if_neg (fun q => by rw [HRF.out] at q; cases q.1)] at HX
    replace l2 := hid l2
    replace l3 := hid l3
    go_wp2
    go_ret
    exact ⟨ret_int HX.out.symm, by have := hb2.out; exact blBy⟩
theorem kind_ok {l : List TV} (hg : goodB l = true) {k : Nat} (hk : k < l.length) (he : l[k].t.enum = false) {f : FT} (hf : f ∈ l[k].t.fs) : 1 ≤ f.kind ∧ f.kind ≤ 17 := by
  have h := good_at hg hk
  unfold stepB typB msgB at h
  rw [he] at h
  simp only [Bool.and_eq_true, decide_eq_true_eq] at h
  have h2 := h.2.2.2
  simp only [Bool.false_eq_true, if_false, Bool.and_eq_true, decide_eq_true_eq] at h2
  have h3 := List.all_eq_true.1 h2.2.2.1 f hf
  unfold fldB at h3
  rw [Bool.and_eq_true, decide_eq_true_eq] at h3
  exact h3.1
theorem tvF_wire {f : FT} (h : 1 ≤ f.kind ∧ f.kind ≤ 17) (k : Int) : tvF f k = decide (k = wireF f) := by
  unfold tvF wireF
  split
  · rfl
  · rw [show kwireE f.kind = 0 by unfold kwireE; rw [if_pos h], decide_eq_true rfl, Bool.true_and]
theorem takenEq {f : FT} (h : 1 ≤ f.kind ∧ f.kind ≤ 17) (k : Int) : takenD f k = takenF f k := by
  have hw : wireD f = wireF f := by
    unfold wireD wireF
    split
    · rfl
    · have : 0 ≤ kwire f.kind := by
        unfold kwire
        (repeat' split) <;> omega
      omega
  unfold takenD takenF
  rw [hw, tvF_wire h]
  by_cases h1 : wireF f = k
  · rw [if_pos h1, if_pos (by simp [h1])]
  · have h1' : ¬ k = wireF f := fun e => h1 e.symm
    rw [if_neg h1, if_neg (show ¬ (decide (k = wireF f) = true) by simp [h1'])]
    unfold trF
    by_cases h2 : rowsF f = true ∧ k = 2
    · rw [if_pos h2, if_pos (by simp [h2.1, h2.2])]
    · rw [if_neg h2, if_neg (by simpa using h2)]
end Go.Proofs.YtbiohlfcikdldaaDoor
