/-
  A symbol by its number, by its name: what the program answers.
  Symbol, Number: what the program and the document answer.
  Paths of messages within messages: how both Depths look at them.
  States: the types of fields that are messages, marked.
  Depths: the types that can stand at a depth, as sets of marks; the document's rounds.
-/
import Derived.Test.YtbiohlfcikdldaaDoorCNG
namespace Go.Proofs.YtbiohlfcikdldaaDoor
open Go.RowKit
set_option maxRecDepth 1000000
set_option linter.unusedVariables false
set_option linter.unusedSimpArgs false
set_option maxHeartbeats 1000000
def syZ : SY := ⟨[], 0⟩
def syN (n : Int) (s : SY) : Bool := decide (s.num = n)
def syS (nm : List Int) (s : SY) : Bool := decide (s.name = nm)
def symV (l : List TV) (idx : Int) (P : SY → Bool) : SY × Int := if isB l idx true = true then (match l[idx.toNat]? with | some x => (match x.t.ss.find? P with | some s => (s, 0) | none => (syZ, 20)) | none => (syZ, 18)) else (syZ, 18)
theorem symV_at {l : List TV} {k : Nat} (hk : k < l.length) {P : SY → Bool} (h : isB l (k : Int) true = true) : symV l (k : Int) P = (match l[k].t.ss.find? P with | some s => (s, 0) | none => (syZ, 20)) := by
  unfold symV
  rw [if_pos h, Int.toNat_natCast, List.getElem?_eq_getElem hk]
theorem typeAtOkE (w : World) (l : List TV) (ta : Option Addr) (tc : Nat) (h : TbR w (.slice ta l.length tc) l) (hk : ∀ x ∈ l, OkV x) (m : Int) (hm : w.cell? ⟨0, 0, none⟩ = some (.int .i64 m)) (k : Nat) (hkl : k < l.length) (hg : goodB l = true) (he : l[k].t.enum = true) : Calls Tryd.prog 31 #[.agg #[.slice ta l.length tc], .int .i64 (k : Int), .bool true] w fun e w' => e = .returned (.tuple #[.agg #[.string (strOfNums l[k].t.name), .bool true, l[k].f, l[k].o, l[k].s, l[k].r], .int .i64 0]) ∧ Below w.heap.size w w' := by
  obtain ⟨_, _, e, hn⟩ := rowS_sl h.row
  clear e
  have h63 : (l.length : Int) ≤ 9223372036854775807 := by omega
  have HTY := hid (h.ty _ (List.getElem_mem hkl))
  have HGC : Hid (∀ W, Below w.heap.size w W → Calls Tryd.prog 10 #[.agg #[.slice ta l.length tc]] W fun e w' => e = .returned (.bool true) ∧ Below W.heap.size W w') := hid fun W hW => by
    have := goodT W l ta tc (h.kept hW) hk m (cell_below hm hW)
    rw [hg] at this
    exact this
  obtain ⟨tb, tof, rfl, hbl, c0, c1, c2, c3, c4, c5⟩ := row6 h.row hkl
  rw [he] at c1
  have r2 : ((k : Int) < 0) = False := eq_false (by omega)
  have r4 : ((l.length : Int) ≤ (k : Int)) = False := eq_false (by omega)
  have r5 : (k : Int) < (l.length : Int) := by omega
  clear h hk hm hg he
  generalize l[k] = x at *
  obtain ⟨t, f, o, s, r⟩ := x
  obtain ⟨fa, fc, ef, -⟩ := rowS_sl HTY.out.f
  obtain ⟨oa, oc, eo, -⟩ := rowS_sl HTY.out.o
  obtain ⟨sa, sc, es, -⟩ := rowS_sl HTY.out.s
  obtain ⟨ra, rc, er, -⟩ := rowS_sl HTY.out.r
  dsimp only at ef eo es er
  subst ef eo es er
  dsimp only at c0 c1 c2 c3 c4 c5
  dsimp only
  go_enter Tryd.func31, Tryd.ntmps31
  go_wp2_with fail
  refine (HGC.out _ (by exact blBy)).mono ?_
  rintro e w1 ⟨rfl, hb1⟩
  have Ba : Blk w1 w.heap.size 24 #[.slice (some ⟨tb, tof, none⟩) l.length tc] := ((Blk.new _ _ _).kept (below_alloc _)).kept hb1
  have Br : Blk w1 (w.heap.size + 1) 62 #[.string ⟨#[]⟩, .bool false, .slice none 0 0, .slice none 0 0, .slice none 0 0, .slice none 0 0] := (Blk.newAt (by simp)).kept hb1
  replace hb1 : Hid (Below w.heap.size w w1) := hid (bl_then (by exact blBy) hb1)
  have d0 := cell_below c0 hb1.out
  have d1 := cell_below c1 hb1.out
  have d2 := cell_below c2 hb1.out
  have d3 := cell_below c3 hb1.out
  have d4 := cell_below c4 hb1.out
  have d5 := cell_below c5 hb1.out
  have hbl1 : tb < w1.heap.size := World.block_lt_of_cell? _ _ d0
  have hne : tb ≠ w.heap.size + 1 := by omega
  clear c0 c1 c2 c3 c4 c5
  have xa := Ba.cellF
  have za := Ba.lt
  have xr := Br.cellF
  have yr := Br.frz
  have zr := Br.lt
  go_wp2
  exact bodyPost_ret (v := .tuple #[.agg #[.string (strOfNums t.name), .bool true, .slice fa t.fs.length fc, .slice oa t.os.length oc, .slice sa t.ss.length sc, .slice ra t.rs.length rc], .int .i64 0]) (by simp [results, Tryd.results31, go_sem, xr, zr, yr]) rfl ⟨rfl, by have := hb1.out; exact blBy⟩
theorem symFn1 (s : SY) (w : World) (p : Nat) (n : Int) (hp : Blk w p 3 #[.int .i64 n]) : Calls Tryd.prog 35 #[.agg #[.string (strOfNums s.name), .int .i64 s.num], .pointer (some ⟨p, 0, none⟩)] w fun e w' => e = .returned (.bool (syN n s)) ∧ Below w.heap.size w w' := by
  have xp := hp.cellF
  have zp := hp.lt
  clear hp
  go_enter Tryd.func35, Tryd.ntmps35
  go_wp2
  go_ret
  exact ⟨ret_bool (by unfold syN; by_cases h : s.num = n <;> simp [h]), by exact blBy⟩
theorem numFn1 (s : SY) (w : World) (p : Nat) (nm : List Int) (hp : Blk w p 9 #[.string (strOfNums nm)]) (hx : TxA s.name) (hn : TxA nm) : Calls Tryd.prog 37 #[.agg #[.string (strOfNums s.name), .int .i64 s.num], .pointer (some ⟨p, 0, none⟩)] w fun e w' => e = .returned (.bool (syS nm s)) ∧ Below w.heap.size w w' := by
  have xp := hp.cellF
  have zp := hp.lt
  have HS := hid (str_eq hx.1 hn.1)
  clear hp
  go_enter Tryd.func37, Tryd.ntmps37
  go_wp2
  go_ret
  exact ⟨ret_bool (by have := HS.out; unfold syS; rw [← this]), by exact blBy⟩
theorem idxSyN (fs : List SY) (w : World) (a : Option Addr) (c p : Nat) (P : SY → Bool) (h : RowS w AnyZ 2 (.slice a fs.length c) fs.length (fs.flatMap cSY))
    (hc : ∀ f ∈ fs, ∀ (W : World), Below w.heap.size w W → Calls Tryd.prog 35 #[.agg #[.string (strOfNums f.name), .int .i64 f.num], .pointer (some ⟨p, 0, none⟩)] W fun e w' => e = .returned (.bool (P f)) ∧ Below W.heap.size W w') : Calls Tryd.prog 104 #[.slice a fs.length c, .func (.func 35) #[] #[.pointer (some ⟨p, 0, none⟩)]] w fun e w' => e = .returned (.int .i64 (fnd P fs 0)) ∧ Below w.heap.size w w' := by
  obtain ⟨_, _, e, hn⟩ := rowS_sl h
  clear e
  have h1 : (fs.length : Int) ≤ 9223372036854775807 := by omega
  have HR := hid h
  have HC := hid hc
  clear h hc
  go_enter Tryd.func104, Tryd.ntmps104
  go_wp2
  go_loopw [8] (fun r wr => ∃ j : Nat, r = .int .i64 j ∧ j ≤ fs.length ∧ Hid (fnd P fs 0 = fnd P (fs.drop j) j) ∧ Hid (Below w.heap.size w wr)) (fun r wr => fs.length - numAt wr r)
  case atStart => exact ⟨0, rfl, by omega, hid rfl, hid (Below.refl _ _)⟩
  case round =>
    obtain ⟨j, rfl, hj, hf, hb⟩ := hrel
    by_cases hlt : j < fs.length
    · have h2 : (j : Int) < (fs.length : Int) := by omega
      obtain ⟨b, o, rfl, hbl, c0, c1⟩ := rowY (HR.out.kept hb.out) hlt
      have HST := hid (fnd_at (p := P) hlt)
      have HCj := hid (HC.out _ (List.getElem_mem hlt))
      clear HC
      generalize fs[j] = f at *
      go_wp2_with fail
      refine (HCj.out wr hb.out).mono ?_
      rintro e w1 ⟨rfl, hb1⟩
      have HB1 := hid (bl_then hb.out hb1)
      clear hb1
      cases hq : P f with
      | true =>
        go_wp2
        go_ret
        exact ⟨ret_int (by rw [hf.out, HST.out, hq]; simp), HB1.out⟩
      | false =>
        go_wp2
        exact ⟨⟨j + 1, by simp, by omega, hid (by rw [hf.out, HST.out, hq]; simp), HB1⟩, by simp [numAt]; omega⟩
    · have h2 : ¬ (j : Int) < (fs.length : Int) := by omega
      have HE : Hid (fnd P fs 0 = -1) := hid (by rw [hf.out, List.drop_of_length_le (by omega)]; rfl)
      go_wp2
      go_ret
      exact ⟨ret_int (by rw [HE.out]), hb.out⟩
theorem idxSyS (fs : List SY) (w : World) (a : Option Addr) (c p : Nat) (P : SY → Bool) (h : RowS w AnyZ 2 (.slice a fs.length c) fs.length (fs.flatMap cSY))
    (hc : ∀ f ∈ fs, ∀ (W : World), Below w.heap.size w W → Calls Tryd.prog 37 #[.agg #[.string (strOfNums f.name), .int .i64 f.num], .pointer (some ⟨p, 0, none⟩)] W fun e w' => e = .returned (.bool (P f)) ∧ Below W.heap.size W w') : Calls Tryd.prog 104 #[.slice a fs.length c, .func (.func 37) #[] #[.pointer (some ⟨p, 0, none⟩)]] w fun e w' => e = .returned (.int .i64 (fnd P fs 0)) ∧ Below w.heap.size w w' := by
  obtain ⟨_, _, e, hn⟩ := rowS_sl h
  clear e
  have h1 : (fs.length : Int) ≤ 9223372036854775807 := by omega
  have HR := hid h
  have HC := hid hc
  clear h hc
  go_enter Tryd.func104, Tryd.ntmps104
  go_wp2
  go_loopw [8] (fun r wr => ∃ j : Nat, r = .int .i64 j ∧ j ≤ fs.length ∧ Hid (fnd P fs 0 = fnd P (fs.drop j) j) ∧ Hid (Below w.heap.size w wr)) (fun r wr => fs.length - numAt wr r)
  case atStart => exact ⟨0, rfl, by omega, hid rfl, hid (Below.refl _ _)⟩
  case round =>
    obtain ⟨j, rfl, hj, hf, hb⟩ := hrel
    by_cases hlt : j < fs.length
    · have h2 : (j : Int) < (fs.length : Int) := by omega
      obtain ⟨b, o, rfl, hbl, c0, c1⟩ := rowY (HR.out.kept hb.out) hlt
      have HST := hid (fnd_at (p := P) hlt)
      have HCj := hid (HC.out _ (List.getElem_mem hlt))
      clear HC
      generalize fs[j] = f at *
      go_wp2_with fail
      refine (HCj.out wr hb.out).mono ?_
      rintro e w1 ⟨rfl, hb1⟩
      have HB1 := hid (bl_then hb.out hb1)
      clear hb1
      cases hq : P f with
      | true =>
        go_wp2
        go_ret
        exact ⟨ret_int (by rw [hf.out, HST.out, hq]; simp), HB1.out⟩
      | false =>
        go_wp2
        exact ⟨⟨j + 1, by simp, by omega, hid (by rw [hf.out, HST.out, hq]; simp), HB1⟩, by simp [numAt]; omega⟩
    · have h2 : ¬ (j : Int) < (fs.length : Int) := by omega
      have HE : Hid (fnd P fs 0 = -1) := hid (by rw [hf.out, List.drop_of_length_le (by omega)]; rfl)
      go_wp2
      go_ret
      exact ⟨ret_int (by rw [HE.out]), hb.out⟩
/-- What firstOf answers. -/
def tSO (o : Option SY) : Value := match o with
  | some s => .tuple #[.agg #[.string (strOfNums s.name), .int .i64 s.num], .bool true]
  | none => .tuple #[.agg #[.string ⟨#[]⟩, .int .i64 0], .bool false]
theorem firstSO (w : World) (xs : List SY) (a : Option Addr) (c : Nat) (h : RowS w AnyZ 2 (.slice a xs.length c) xs.length (xs.flatMap cSY)) (fv : Value) (P : SY → Bool)
    (hidx : ∀ W, Below w.heap.size w W → Calls Tryd.prog 104 #[.slice a xs.length c, fv] W fun e w' => e = .returned (.int .i64 (fnd P xs 0)) ∧ Below W.heap.size W w') : Calls Tryd.prog 84 #[.slice a xs.length c, fv] w fun e w' => e = .returned (tSO (xs.find? P)) ∧ Below w.heap.size w w' := by
  obtain ⟨_, _, e1, l1⟩ := rowS_sl h
  clear e1
  have m1 : (xs.length : Int) ≤ 9223372036854775807 := by omega
  have HI := hid hidx
  rcases fnd_find P xs 0 with ⟨hq, hf⟩ | ⟨j, hj, hq, hf⟩
  · rw [fnd_ge P xs 0 hq] at HI
    rw [hf]
    clear h hidx hq hf
    go_enter Tryd.func84, Tryd.ntmps84
    go_wp2_with fail
    refine (HI.out _ (by first | exact Below.refl _ _ | exact blBy)).mono ?_
    rintro e w1 ⟨rfl, hb1⟩
    have hb : Hid (Below w.heap.size w w1) := hid (bl_then (by exact blBy) hb1)
    have Br : Blk w1 w.heap.size 56 #[.string ⟨#[]⟩, .int .i64 0] := (Blk.new _ _ _).kept hb1
    have xr := Br.cellF
    have yr := Br.frz
    have zr := Br.lt
    clear hb1
    go_wp2
    exact bodyPost_ret (v := .tuple #[.agg #[.string ⟨#[]⟩, .int .i64 0], .bool false]) (by simp [results, Tryd.results84, go_sem, xr, zr, yr]) rfl ⟨rfl, by have := hb.out; exact blBy⟩
  · rw [hq] at HI
    rw [hf]
    simp only [Nat.zero_add] at HI
    have HY := hid fun W (hW : Below w.heap.size w W) => rowY (h.kept hW) hj
    have r1 : ((j : Int) < 0) = False := eq_false (by omega)
    have r2 : (j : Int) < (xs.length : Int) := by omega
    clear h hidx hq hf
    generalize xs[j] = s at *
    go_enter Tryd.func84, Tryd.ntmps84
    go_wp2_with fail
    refine (HI.out _ (by first | exact Below.refl _ _ | exact blBy)).mono ?_
    rintro e w1 ⟨rfl, hb1⟩
    have hb : Hid (Below w.heap.size w w1) := hid (bl_then (by exact blBy) hb1)
    obtain ⟨b, o, rfl, hbl, c0, c1⟩ := HY.out _ hb.out
    have Br : Blk w1 w.heap.size 56 #[.string ⟨#[]⟩, .int .i64 0] := (Blk.new _ _ _).kept hb1
    have xr := Br.cellF
    have yr := Br.frz
    have zr := Br.lt
    clear hb1
    go_wp2
    exact bodyPost_ret (v := .tuple #[.agg #[.string (strOfNums s.name), .int .i64 s.num], .bool true]) (by simp [results, Tryd.results84, go_sem, xr, zr, yr]) rfl ⟨rfl, by have := hb.out; exact blBy⟩
/-- What fields.Symbol answers, whatever it is handed. -/
theorem fsymO (en : Bool) (W : World) (t : TT) (fa oa sa ra : Option Addr) (fc oc sc rc : Nat) (h : RowS W AnyZ 2 (.slice sa t.ss.length sc) t.ss.length (t.ss.flatMap cSY)) (fv : Value) (P : SY → Bool)
    (hidx : ∀ V, Below W.heap.size W V → Calls Tryd.prog 104 #[.slice sa t.ss.length sc, fv] V fun e w' => e = .returned (.int .i64 (fnd P t.ss 0)) ∧ Below V.heap.size V w') : Calls Tryd.prog 55 #[.agg #[.string (strOfNums t.name), .bool en, .slice fa t.fs.length fc, .slice oa t.os.length oc, .slice sa t.ss.length sc, .slice ra t.rs.length rc], fv] W fun e w' => e = .returned (tSO (t.ss.find? P)) ∧ Below W.heap.size W w' := by
  have HF := hid fun V (hV : Below W.heap.size W V) => firstSO V t.ss sa sc (h.kept hV) fv P (fun U hU => hidx U (below_trans hV hU))
  clear h hidx
  rcases hq : t.ss.find? P with _ | s
  · rw [hq] at HF
    dsimp only [tSO] at HF ⊢
    go_enter Tryd.func55, Tryd.ntmps55
    go_wp2_with fail
    refine (HF.out _ (by exact blBy)).mono ?_
    rintro e w1 ⟨rfl, hb1⟩
    have hb : Hid (Below W.heap.size W w1) := hid (bl_then (by exact blBy) hb1)
    have Br : Blk w1 (W.heap.size + 1) 56 #[.string ⟨#[]⟩, .int .i64 0] := (Blk.newAt (by simp)).kept hb1
    have xr := Br.cellF
    have yr := Br.frz
    have zr := Br.lt
    clear hb1
    go_wp2
    exact bodyPost_ret (v := .tuple #[.agg #[.string ⟨#[]⟩, .int .i64 0], .bool false]) (by simp [results, Tryd.results55, go_sem, xr, zr, yr]) rfl ⟨rfl, by have := hb.out; exact blBy⟩
  · rw [hq] at HF
    dsimp only [tSO] at HF ⊢
    go_enter Tryd.func55, Tryd.ntmps55
    go_wp2_with fail
    refine (HF.out _ (by exact blBy)).mono ?_
    rintro e w1 ⟨rfl, hb1⟩
    have hb : Hid (Below W.heap.size W w1) := hid (bl_then (by exact blBy) hb1)
    have Br : Blk w1 (W.heap.size + 1) 56 #[.string ⟨#[]⟩, .int .i64 0] := (Blk.newAt (by simp)).kept hb1
    have xr := Br.cellF
    have yr := Br.frz
    have zr := Br.lt
    clear hb1
    go_wp2
    exact bodyPost_ret (v := .tuple #[.agg #[.string (strOfNums s.name), .int .i64 s.num], .bool true]) (by simp [results, Tryd.results55, go_sem, xr, zr, yr]) rfl ⟨rfl, by have := hb.out; exact blBy⟩
theorem symbolOfN (w : World) (l : List TV) (ta : Option Addr) (tc : Nat) (h : TbR w (.slice ta l.length tc) l) (hk : ∀ x ∈ l, OkV x) (m : Int) (hm : w.cell? ⟨0, 0, none⟩ = some (.int .i64 m)) (idx : Int) (n : Int) (p : Nat) (hp : Blk w p 3 #[.int .i64 n]) : Calls Tryd.prog 34 #[.agg #[.slice ta l.length tc], .int .i64 idx, .func (.func 35) #[] #[.pointer (some ⟨p, 0, none⟩)]] w fun e w' => e = .returned (.tuple #[.agg #[.string (strOfNums (symV l idx (syN n)).1.name), .int .i64 (symV l idx (syN n)).1.num], .int .i64 (symV l idx (syN n)).2]) ∧ Below w.heap.size w w' := by
  cases q : isB l idx true with
  | false =>
    have HV : Hid (symV l idx (syN n) = (syZ, 18)) := hid (by unfold symV; rw [if_neg (by rw [q]; simp)])
    have HTA := hid fun W (hW : Below w.heap.size w W) => typeAtNo W l ta tc (h.kept hW) hk m (cell_below hm hW) idx true q
    clear h hk hm q hp
    rw [HV.out]
    go_enter Tryd.func34, Tryd.ntmps34
    go_wp2_with fail
    refine (HTA.out _ (by exact blBy)).mono ?_
    rintro e w1 ⟨rfl, hb1⟩
    have Br : Blk w1 (w.heap.size + 1) 56 #[.string ⟨#[]⟩, .int .i64 0] := (Blk.newAt (by simp)).kept hb1
    replace hb1 : Hid (Below w.heap.size w w1) := hid (bl_then (by exact blBy) hb1)
    have xr := Br.cellF
    have yr := Br.frz
    have zr := Br.lt
    go_wp2
    exact bodyPost_ret (v := .tuple #[.agg #[.string ⟨#[]⟩, .int .i64 0], .int .i64 18]) (by simp [results, Tryd.results34, go_sem, xr, zr, yr]) rfl ⟨rfl, by have := hb1.out; exact blBy⟩
  | true =>
  obtain ⟨k, hkl, rfl, hg, he⟩ := isB_at q
  have HV := hid (symV_at hkl (P := (syN n)) q)
  have HTA := hid fun W (hW : Below w.heap.size w W) => typeAtOkE W l ta tc (h.kept hW) hk m (cell_below hm hW) k hkl hg he
  have HTY := hid (h.ty _ (List.getElem_mem hkl))
  have HOK := hid (hk _ (List.getElem_mem hkl)).ok.ss
  have HB := hid hp
  clear h hk hm q hg he hp
  generalize symV l (k : Int) (syN n) = fv at *
  generalize l[k] = x at *
  obtain ⟨t, f, o, s, r⟩ := x
  obtain ⟨fa, fc, ef, -⟩ := rowS_sl HTY.out.f
  obtain ⟨oa, oc, eo, -⟩ := rowS_sl HTY.out.o
  obtain ⟨sa, sc, es, -⟩ := rowS_sl HTY.out.s
  obtain ⟨ra, rc, er, -⟩ := rowS_sl HTY.out.r
  dsimp only at ef eo es er
  subst ef eo es er
  dsimp only at HV HTA HOK
  go_enter Tryd.func34, Tryd.ntmps34
  go_wp2_with fail
  refine (HTA.out _ (by exact blBy)).mono ?_
  rintro e w1 ⟨rfl, hb1⟩
  have Br : Blk w1 (w.heap.size + 1) 56 #[.string ⟨#[]⟩, .int .i64 0] := (Blk.newAt (by simp)).kept hb1
  replace hb1 : Hid (Below w.heap.size w w1) := hid (bl_then (by exact blBy) hb1)
  have zr := Br.lt
  have HFS := hid (fsymO true (w1.alloc (.cells #[.string (strOfNums t.name), .bool true, .slice fa t.fs.length fc, .slice oa t.os.length oc, .slice sa t.ss.length sc, .slice ra t.rs.length rc] 62)) t fa oa sa ra fc oc sc rc ((HTY.out.kept (by have := hb1.out; exact blBy)).s) (.func (.func 35) #[] #[.pointer (some ⟨p, 0, none⟩)]) (syN n) (fun V hV => idxSyN t.ss V sa sc p (syN n) (((HTY.out.kept (by have := hb1.out; exact blBy)).s).kept hV) (fun s hs W hW => symFn1 s W _ n (((HB.out.kept (by have := hb1.out; exact blBy)).kept hV).kept hW))))
  go_wp2_with fail
  refine HFS.out.mono ?_
  rintro e w2 ⟨rfl, hb2⟩
  replace Br := (Br.kept (below_alloc _)).kept hb2
  replace hb2 : Hid (Below w.heap.size w w2) := hid (bl_then (by have := hb1.out; exact blBy) hb2)
  clear zr HFS
  have xr := Br.cellF
  have yr := Br.frz
  have zr := Br.lt
  rcases hq : t.ss.find? (syN n) with _ | s
  · rw [hq] at HV
    dsimp only [tSO]
    clear hq
    go_wp2
    exact bodyPost_ret (v := .tuple #[.agg #[.string ⟨#[]⟩, .int .i64 0], .int .i64 20]) (by simp [results, Tryd.results34, go_sem, xr, zr, yr]) rfl ⟨by rw [HV.out]; rfl, by have := hb2.out; exact blBy⟩
  · rw [hq] at HV
    dsimp only [tSO]
    clear hq
    go_wp2
    exact bodyPost_ret (v := .tuple #[.agg #[.string (strOfNums s.name), .int .i64 s.num], .int .i64 0]) (by simp [results, Tryd.results34, go_sem, xr, zr, yr]) rfl ⟨by rw [HV.out], by have := hb2.out; exact blBy⟩
theorem symbolOfS (w : World) (l : List TV) (ta : Option Addr) (tc : Nat) (h : TbR w (.slice ta l.length tc) l) (hk : ∀ x ∈ l, OkV x) (m : Int) (hm : w.cell? ⟨0, 0, none⟩ = some (.int .i64 m)) (idx : Int) (nm : List Int) (hn : TxA nm) (p : Nat) (hp : Blk w p 9 #[.string (strOfNums nm)]) : Calls Tryd.prog 34 #[.agg #[.slice ta l.length tc], .int .i64 idx, .func (.func 37) #[] #[.pointer (some ⟨p, 0, none⟩)]] w fun e w' => e = .returned (.tuple #[.agg #[.string (strOfNums (symV l idx (syS nm)).1.name), .int .i64 (symV l idx (syS nm)).1.num], .int .i64 (symV l idx (syS nm)).2]) ∧ Below w.heap.size w w' := by
  cases q : isB l idx true with
  | false =>
    have HV : Hid (symV l idx (syS nm) = (syZ, 18)) := hid (by unfold symV; rw [if_neg (by rw [q]; simp)])
    have HTA := hid fun W (hW : Below w.heap.size w W) => typeAtNo W l ta tc (h.kept hW) hk m (cell_below hm hW) idx true q
    clear h hk hm q hp
    rw [HV.out]
    go_enter Tryd.func34, Tryd.ntmps34
    go_wp2_with fail
    refine (HTA.out _ (by exact blBy)).mono ?_
    rintro e w1 ⟨rfl, hb1⟩
    have Br : Blk w1 (w.heap.size + 1) 56 #[.string ⟨#[]⟩, .int .i64 0] := (Blk.newAt (by simp)).kept hb1
    replace hb1 : Hid (Below w.heap.size w w1) := hid (bl_then (by exact blBy) hb1)
    have xr := Br.cellF
    have yr := Br.frz
    have zr := Br.lt
    go_wp2
    exact bodyPost_ret (v := .tuple #[.agg #[.string ⟨#[]⟩, .int .i64 0], .int .i64 18]) (by simp [results, Tryd.results34, go_sem, xr, zr, yr]) rfl ⟨rfl, by have := hb1.out; exact blBy⟩
  | true =>
  obtain ⟨k, hkl, rfl, hg, he⟩ := isB_at q
  have HV := hid (symV_at hkl (P := (syS nm)) q)
  have HTA := hid fun W (hW : Below w.heap.size w W) => typeAtOkE W l ta tc (h.kept hW) hk m (cell_below hm hW) k hkl hg he
  have HTY := hid (h.ty _ (List.getElem_mem hkl))
  have HOK := hid (hk _ (List.getElem_mem hkl)).ok.ss
  have HN := hid hn
  have HB := hid hp
  clear h hk hm q hg he hp hn
  generalize symV l (k : Int) (syS nm) = fv at *
  generalize l[k] = x at *
  obtain ⟨t, f, o, s, r⟩ := x
  obtain ⟨fa, fc, ef, -⟩ := rowS_sl HTY.out.f
  obtain ⟨oa, oc, eo, -⟩ := rowS_sl HTY.out.o
  obtain ⟨sa, sc, es, -⟩ := rowS_sl HTY.out.s
  obtain ⟨ra, rc, er, -⟩ := rowS_sl HTY.out.r
  dsimp only at ef eo es er
  subst ef eo es er
  dsimp only at HV HTA HOK
  go_enter Tryd.func34, Tryd.ntmps34
  go_wp2_with fail
  refine (HTA.out _ (by exact blBy)).mono ?_
  rintro e w1 ⟨rfl, hb1⟩
  have Br : Blk w1 (w.heap.size + 1) 56 #[.string ⟨#[]⟩, .int .i64 0] := (Blk.newAt (by simp)).kept hb1
  replace hb1 : Hid (Below w.heap.size w w1) := hid (bl_then (by exact blBy) hb1)
  have zr := Br.lt
  have HFS := hid (fsymO true (w1.alloc (.cells #[.string (strOfNums t.name), .bool true, .slice fa t.fs.length fc, .slice oa t.os.length oc, .slice sa t.ss.length sc, .slice ra t.rs.length rc] 62)) t fa oa sa ra fc oc sc rc ((HTY.out.kept (by have := hb1.out; exact blBy)).s) (.func (.func 37) #[] #[.pointer (some ⟨p, 0, none⟩)]) (syS nm) (fun V hV => idxSyS t.ss V sa sc p (syS nm) (((HTY.out.kept (by have := hb1.out; exact blBy)).s).kept hV) (fun s hs W hW => numFn1 s W _ nm (((HB.out.kept (by have := hb1.out; exact blBy)).kept hV).kept hW) (HOK.out s hs).1 HN.out)))
  go_wp2_with fail
  refine HFS.out.mono ?_
  rintro e w2 ⟨rfl, hb2⟩
  replace Br := (Br.kept (below_alloc _)).kept hb2
  replace hb2 : Hid (Below w.heap.size w w2) := hid (bl_then (by have := hb1.out; exact blBy) hb2)
  clear zr HFS
  have xr := Br.cellF
  have yr := Br.frz
  have zr := Br.lt
  rcases hq : t.ss.find? (syS nm) with _ | s
  · rw [hq] at HV
    dsimp only [tSO]
    clear hq
    go_wp2
    exact bodyPost_ret (v := .tuple #[.agg #[.string ⟨#[]⟩, .int .i64 0], .int .i64 20]) (by simp [results, Tryd.results34, go_sem, xr, zr, yr]) rfl ⟨by rw [HV.out]; rfl, by have := hb2.out; exact blBy⟩
  · rw [hq] at HV
    dsimp only [tSO]
    clear hq
    go_wp2
    exact bodyPost_ret (v := .tuple #[.agg #[.string (strOfNums s.name), .int .i64 s.num], .int .i64 0]) (by simp [results, Tryd.results34, go_sem, xr, zr, yr]) rfl ⟨by rw [HV.out], by have := hb2.out; exact blBy⟩
theorem symV_len {l : List TV} (hz : ∀ x ∈ l, ∀ s ∈ x.t.ss, s.name.length ≤ 4000000) (idx : Int) (P : SY → Bool) : (symV l idx P).1.name.length ≤ 4000000 := by
  unfold symV
  split
  · split
    · rename_i x hx
      split
      · rename_i s hs
        exact hz x (List.mem_of_getElem? hx) s (List.mem_of_find?_eq_some hs)
      · simp [syZ]
    · simp [syZ]
  · simp [syZ]
theorem symbolPT (w : World) (l : List TV) (ta : Option Addr) (tc : Nat) (h : TbR w (.slice ta l.length tc) l) (hk : ∀ x ∈ l, OkV x) (hz : ∀ x ∈ l, ∀ s ∈ x.t.ss, s.name.length ≤ 4000000) (m : Int) (hm : w.cell? ⟨0, 0, none⟩ = some (.int .i64 m)) (idx : Int) (n : Int) : Calls Tryd.prog 12 #[.agg #[.slice ta l.length tc], .int .i64 idx, .int .i64 n] w fun e w' => e = .returned (.tuple #[.string (strOfNums (symV l idx (syN n)).1.name), .int .i64 (symV l idx (syN n)).2]) ∧ Below w.heap.size w w' := by
  have HS := hid fun W (hW : Below w.heap.size w W) (p : Nat) (hp : Blk W p 3 #[.int .i64 n]) => symbolOfN W l ta tc (h.kept hW) hk m (cell_below hm hW) idx n p hp
  have HL := symV_len hz idx (syN n)
  clear h hk hz hm
  generalize symV l idx (syN n) = fv at *
  obtain ⟨s, ec⟩ := fv
  dsimp only at HS HL
  dsimp only
  go_enter Tryd.func12, Tryd.ntmps12
  go_wp2_with fail
  refine (HS.out _ (by exact blBy) _ (Blk.newAt (by simp))).mono ?_
  rintro e w1 ⟨rfl, hb1⟩
  replace hb1 : Hid (Below w.heap.size w w1) := hid (bl_then (by exact blBy) hb1)
  go_wp2_with fail
  refine (cloneS s.name _ HL).mono ?_
  rintro e w2 ⟨rfl, hb2⟩
  replace hb2 : Hid (Below w.heap.size w w2) := hid (bl_then (by have := hb1.out; exact blBy) hb2)
  go_wp2
  go_ret2
  exact ⟨rfl, by have := hb2.out; exact blBy⟩
theorem numberPT (w : World) (l : List TV) (ta : Option Addr) (tc : Nat) (h : TbR w (.slice ta l.length tc) l) (hk : ∀ x ∈ l, OkV x) (hz : ∀ x ∈ l, ∀ s ∈ x.t.ss, s.name.length ≤ 4000000) (m : Int) (hm : w.cell? ⟨0, 0, none⟩ = some (.int .i64 m)) (idx : Int) (nm : List Int) (hn : TxA nm) : Calls Tryd.prog 13 #[.agg #[.slice ta l.length tc], .int .i64 idx, .string (strOfNums nm)] w fun e w' => e = .returned (.tuple #[.int .i64 (symV l idx (syS nm)).1.num, .int .i64 (symV l idx (syS nm)).2]) ∧ Below w.heap.size w w' := by
  have HS := hid fun W (hW : Below w.heap.size w W) (p : Nat) (hp : Blk W p 9 #[.string (strOfNums nm)]) => symbolOfS W l ta tc (h.kept hW) hk m (cell_below hm hW) idx nm hn p hp
  have HL := symV_len hz idx (syS nm)
  clear h hk hz hm
  generalize symV l idx (syS nm) = fv at *
  obtain ⟨s, ec⟩ := fv
  dsimp only at HS HL
  dsimp only
  go_enter Tryd.func13, Tryd.ntmps13
  go_wp2_with fail
  refine (HS.out _ (by exact blBy) _ (Blk.newAt (by simp))).mono ?_
  rintro e w1 ⟨rfl, hb1⟩
  replace hb1 : Hid (Below w.heap.size w w1) := hid (bl_then (by exact blBy) hb1)
  go_wp2
  go_ret2
  exact ⟨rfl, by have := hb1.out; exact blBy⟩
theorem symbolDR (w : World) (l : List TV) (ta : Option Addr) (tc : Nat) (h : TbR w (.slice ta l.length tc) l) (k : Nat) (hk : k < l.length) (n : Int)  : Calls Tryd.prog 24 #[.agg #[.slice ta l.length tc], .int .i64 (k : Int), .int .i64 n] w fun e w' => e = .returned (.tuple #[.string (strOfNums ((l[k].t.ss.find? (syN n)).getD syZ).name), .bool (l[k].t.ss.find? (syN n)).isSome]) ∧ Below w.heap.size w w' := by
  obtain ⟨_, _, e, hn0⟩ := rowS_sl h.row
  clear e
  have h63 : (l.length : Int) ≤ 9223372036854775807 := by omega
  have r5 : (k : Int) < (l.length : Int) := by omega
  have HTY := hid (h.ty _ (List.getElem_mem hk))
  obtain ⟨tb, tof, rfl, hbl, -, -, -, -, c4, -⟩ := row6 h.row hk
  clear h
  generalize l[k] = x at *
  obtain ⟨t, f, o, s, r⟩ := x
  obtain ⟨sa, sc, es, hfl⟩ := rowS_sl HTY.out.s
  dsimp only at es hfl
  subst es
  have hf63 : (t.ss.length : Int) ≤ 9223372036854775807 := by omega
  dsimp only at c4
  dsimp only
  have HF := hid HTY.out.s
  dsimp only at HF
  clear HTY
  generalize hfv : t.ss.find? (syN n) = fv
  have HFV := hid hfv
  clear hfv
  go_enter Tryd.func24, Tryd.ntmps24
  go_wp2
  clear c4
  go_loopw [9] (fun r wr => ∃ j : Nat, r = .int .i64 j ∧ j ≤ t.ss.length ∧ Hid ((t.ss.drop j).find? (syN n) = fv) ∧ Hid (Below w.heap.size w wr)) (fun r wr => t.ss.length - numAt wr r)
  case atStart => exact ⟨0, rfl, by omega, HFV, hid (by exact blBy)⟩
  case round =>
    clear HFV
    obtain ⟨j, rfl, hj, HFV, hb⟩ := hrel
    by_cases hlt : j < t.ss.length
    · have h2 : (j : Int) < (t.ss.length : Int) := by omega
      obtain ⟨fb, fo, rfl, hbf, c0, c1⟩ := rowY (HF.out.kept hb.out) hlt
      have HST : Hid ((t.ss.drop j).find? (syN n) = match (syN n) t.ss[j] with | true => some t.ss[j] | false => (t.ss.drop (j + 1)).find? (syN n)) := hid (by rw [List.drop_eq_getElem_cons hlt, List.find?_cons]; first | rfl | (split <;> rfl) | (split <;> simp_all))
      rw [HST.out] at HFV
      clear HST
      generalize t.ss[j] = s at *
      by_cases hq : s.num = n
      · have kq : (s.num == n) = true := by simpa using hq
        rw [show (syN n) s = true from decide_eq_true hq] at HFV
        have HE : Hid (fv = some s) := hid HFV.out.symm
        replace hq := hid hq
        go_wp2
        go_ret2
        exact ⟨by rw [HE.out]; rfl, by have := hb.out; exact blBy⟩
      · have kq : (s.num == n) = false := by simpa using hq
        rw [show (syN n) s = false from decide_eq_false hq] at HFV
        replace hq := hid hq
        go_wp2
        exact ⟨⟨j + 1, by simp, by omega, HFV, hb⟩, by simp [numAt]; omega⟩
    · have h2 : ¬ (j : Int) < (t.ss.length : Int) := by omega
      have HE : Hid (fv = none) := hid (by rw [← HFV.out, List.drop_of_length_le (by omega)]; rfl)
      go_wp2
      go_ret2
      exact ⟨by rw [HE.out]; rfl, by have := hb.out; exact blBy⟩
theorem numberDR (w : World) (l : List TV) (ta : Option Addr) (tc : Nat) (h : TbR w (.slice ta l.length tc) l) (k : Nat) (hk : k < l.length) (nm : List Int) (hn : TxA nm) (hx : ∀ s ∈ l[k].t.ss, TxA s.name) : Calls Tryd.prog 25 #[.agg #[.slice ta l.length tc], .int .i64 (k : Int), .string (strOfNums nm)] w fun e w' => e = .returned (.tuple #[.int .i64 ((l[k].t.ss.find? (syS nm)).getD syZ).num, .bool (l[k].t.ss.find? (syS nm)).isSome]) ∧ Below w.heap.size w w' := by
  obtain ⟨_, _, e, hn0⟩ := rowS_sl h.row
  clear e
  have h63 : (l.length : Int) ≤ 9223372036854775807 := by omega
  have r5 : (k : Int) < (l.length : Int) := by omega
  have HTY := hid (h.ty _ (List.getElem_mem hk))
  obtain ⟨tb, tof, rfl, hbl, -, -, -, -, c4, -⟩ := row6 h.row hk
  clear h
  generalize l[k] = x at *
  obtain ⟨t, f, o, s, r⟩ := x
  obtain ⟨sa, sc, es, hfl⟩ := rowS_sl HTY.out.s
  dsimp only at es hfl
  subst es
  have hf63 : (t.ss.length : Int) ≤ 9223372036854775807 := by omega
  dsimp only at c4 hx
  dsimp only
  have HF := hid HTY.out.s
  dsimp only at HF
  clear HTY
  generalize hfv : t.ss.find? (syS nm) = fv
  have HFV := hid hfv
  clear hfv
  go_enter Tryd.func25, Tryd.ntmps25
  go_wp2
  clear c4
  go_loopw [9] (fun r wr => ∃ j : Nat, r = .int .i64 j ∧ j ≤ t.ss.length ∧ Hid ((t.ss.drop j).find? (syS nm) = fv) ∧ Hid (Below w.heap.size w wr)) (fun r wr => t.ss.length - numAt wr r)
  case atStart => exact ⟨0, rfl, by omega, HFV, hid (by exact blBy)⟩
  case round =>
    clear HFV
    obtain ⟨j, rfl, hj, HFV, hb⟩ := hrel
    by_cases hlt : j < t.ss.length
    · have h2 : (j : Int) < (t.ss.length : Int) := by omega
      obtain ⟨fb, fo, rfl, hbf, c0, c1⟩ := rowY (HF.out.kept hb.out) hlt
      have HST : Hid ((t.ss.drop j).find? (syS nm) = match (syS nm) t.ss[j] with | true => some t.ss[j] | false => (t.ss.drop (j + 1)).find? (syS nm)) := hid (by rw [List.drop_eq_getElem_cons hlt, List.find?_cons]; first | rfl | (split <;> rfl) | (split <;> simp_all))
      rw [HST.out] at HFV
      clear HST
      have hs := str_eq (hx _ (List.getElem_mem hlt)).1 hn.1
      generalize t.ss[j] = s at *
      by_cases hq : s.name = nm
      · rw [decide_eq_true hq] at hs
        rw [show (syS nm) s = true from decide_eq_true hq] at HFV
        have HE : Hid (fv = some s) := hid HFV.out.symm
        replace hq := hid hq
        go_wp2
        go_ret2
        exact ⟨by rw [HE.out]; rfl, by have := hb.out; exact blBy⟩
      · rw [decide_eq_false hq] at hs
        rw [show (syS nm) s = false from decide_eq_false hq] at HFV
        replace hq := hid hq
        go_wp2
        exact ⟨⟨j + 1, by simp, by omega, HFV, hb⟩, by simp [numAt]; omega⟩
    · have h2 : ¬ (j : Int) < (t.ss.length : Int) := by omega
      have HE : Hid (fv = none) := hid (by rw [← HFV.out, List.drop_of_length_le (by omega)]; rfl)
      go_wp2
      go_ret2
      exact ⟨by rw [HE.out]; rfl, by have := hb.out; exact blBy⟩
/-- There is a way of k steps from i. -/
def Way (g : Nat → List Nat) : Nat → Nat → Prop
  | 0, _ => True
  | k + 1, i => ∃ j ∈ g i, Way g k j
/-- .. of k steps from i to j. -/
def Goes (g : Nat → List Nat) : Nat → Nat → Nat → Prop
  | 0, i, j => i = j
  | k + 1, i, j => ∃ m, Goes g k i m ∧ j ∈ g m
theorem goes_left (g : Nat → List Nat) : ∀ (k i j : Nat), Goes g (k + 1) i j ↔ ∃ m ∈ g i, Goes g k m j
  | 0, i, j => by
    constructor
    · rintro ⟨m, e, h⟩
      have e : i = m := e
      subst e
      exact ⟨j, h, rfl⟩
    · rintro ⟨m, h, e⟩
      have e : m = j := e
      subst e
      exact ⟨i, rfl, h⟩
  | k + 1, i, j => by
    constructor
    · rintro ⟨m, h, hj⟩
      obtain ⟨p, hp, hg⟩ := (goes_left g k i m).1 h
      exact ⟨p, hp, m, hg, hj⟩
    · rintro ⟨p, hp, m, hg, hj⟩
      exact ⟨m, (goes_left g k i m).2 ⟨p, hp, hg⟩, hj⟩
theorem way_goes (g : Nat → List Nat) : ∀ (k i : Nat), Way g k i ↔ ∃ j, Goes g k i j
  | 0, i => ⟨fun _ => ⟨i, rfl⟩, fun _ => trivial⟩
  | k + 1, i => by
    constructor
    · rintro ⟨m, hm, h⟩
      obtain ⟨j, hj⟩ := (way_goes g k m).1 h
      exact ⟨j, (goes_left g k i j).2 ⟨m, hm, hj⟩⟩
    · rintro ⟨j, h⟩
      obtain ⟨m, hm, hg⟩ := (goes_left g k i j).1 h
      exact ⟨m, hm, (way_goes g k m).2 ⟨j, hg⟩⟩
theorem way_down (g : Nat → List Nat) : ∀ (k i : Nat), Way g (k + 1) i → Way g k i
  | 0, _, _ => trivial
  | k + 1, i, ⟨m, hm, h⟩ => ⟨m, hm, way_down g k m h⟩
theorem way_le (g : Nat → List Nat) {k n i : Nat} (h : k ≤ n) (hw : Way g n i) : Way g k i := by
  induction n with
  | zero => rw [Nat.le_zero.1 h]; exact hw
  | succ n ih =>
    by_cases e : k = n + 1
    · subst e; exact hw
    · exact ih (by omega) (way_down g n i hw)
/-- The document's rounds. -/
def dep (g : Nat → List Nat) : Nat → Nat → Nat
  | 0, _ => 1
  | r + 1, i => (g i).foldl (fun a j => max a (dep g r j + 1)) 1
theorem foldl_max (f : Nat → Nat) : ∀ (l : List Nat) (a k : Nat), k < l.foldl (fun a j => max a (f j)) a ↔ k < a ∨ ∃ j ∈ l, k < f j
  | [], a, k => by simp
  | x :: r, a, k => by
    rw [List.foldl_cons, foldl_max f r]
    simp only [List.mem_cons, exists_eq_or_imp]
    rw [show k < max a (f x) ↔ k < a ∨ k < f x by omega, or_assoc]
theorem dep_way (g : Nat → List Nat) : ∀ (r k i : Nat), k < dep g r i ↔ k ≤ r ∧ Way g k i
  | 0, k, i => by
    rw [dep]
    constructor
    · intro h
      have e : k = 0 := by omega
      subst e
      exact ⟨Nat.le_refl _, trivial⟩
    · rintro ⟨h, _⟩; omega
  | r + 1, k, i => by
    rw [dep, foldl_max]
    cases k with
    | zero => exact ⟨fun _ => ⟨by omega, trivial⟩, fun _ => .inl (by omega)⟩
    | succ k =>
      constructor
      · rintro (h | ⟨j, hj, h⟩)
        · omega
        · have := (dep_way g r k j).1 (by omega)
          exact ⟨by omega, j, hj, this.2⟩
      · rintro ⟨h, j, hj, hw⟩
        exact .inr ⟨j, hj, by have := (dep_way g r k j).2 ⟨by omega, hw⟩; omega⟩
/-- What both answer: the first number of steps that no way has, if it is at most n; else 0. -/
def Deep (g : Nat → List Nat) (n i d : Nat) : Prop := (d = 0 ∧ Way g n i) ∨ (d ≤ n ∧ ¬ Way g d i ∧ ∀ k, k < d → Way g k i)
theorem deep_one {g : Nat → List Nat} {n i d e : Nat} (h : Deep g n i d) (h' : Deep g n i e) : d = e := by
  rcases h with ⟨rfl, h⟩ | ⟨h1, h2, h3⟩ <;> rcases h' with ⟨rfl, h'⟩ | ⟨h1', h2', h3'⟩
  · rfl
  · exact absurd (way_le g h1' h) h2'
  · exact absurd (way_le g h1 h') h2
  · rcases Nat.lt_trichotomy d e with q | q | q
    · exact absurd (h3' d q) h2
    · exact q
    · exact absurd (h3 e q) h2'
theorem dep_deep (g : Nat → List Nat) (n i : Nat) : Deep g n i (if n < dep g (n + 1) i then 0 else dep g (n + 1) i) := by
  by_cases h : n < dep g (n + 1) i
  · rw [if_pos h]
    exact .inl ⟨rfl, ((dep_way g (n + 1) n i).1 h).2⟩
  · rw [if_neg h]
    refine .inr ⟨by omega, fun hw => ?_, fun k hk => ((dep_way g (n + 1) k i).1 hk).2⟩
    have := (dep_way g (n + 1) (dep g (n + 1) i) i).2 ⟨by omega, hw⟩
    omega
def markF (bs : List Bool) (f : FT) : List Bool := if f.kind = 17 then bs.set f.ref.toNat true else bs
def bsV (bs : List Bool) : Array Value := (bs.map Value.bool).toArray
theorem markF_len (bs : List Bool) (f : FT) : (markF bs f).length = bs.length := by unfold markF; split <;> simp
theorem marks_len : ∀ (fs : List FT) (bs : List Bool), (fs.foldl markF bs).length = bs.length
  | [], bs => rfl
  | f :: r, bs => by rw [List.foldl_cons, marks_len r, markF_len]
theorem bsV_set (bs : List Bool) (k : Nat) : (bsV bs).setIfInBounds k (.bool true) = bsV (bs.set k true) := by
  unfold bsV
  rw [List.setIfInBounds_toArray, List.map_set]
theorem bsV_get {bs : List Bool} {k : Nat} (h : k < bs.length) : (bsV bs)[k]? = some (.bool bs[k]) := by
  unfold bsV
  simp [h]
theorem addT (fs : List FT) (w : World) (a : Option Addr) (c p : Nat) (bs : List Bool) (T : TypeId) (hT : T = 77) (h : RowS w (fun b => b ≠ p) 7 (.slice a fs.length c) fs.length (fs.flatMap cFT)) (hp : Blk w p T (bsV bs)) (hl : bs.length = 128) (hr : ∀ f ∈ fs, f.kind = 17 → 0 ≤ f.ref ∧ f.ref < 128) : Calls Tryd.prog 38 #[.pointer (some ⟨p, 0, none⟩), .slice a fs.length c] w fun e w' => e = .returned (.tuple #[]) ∧ Blk w' p T (bsV (fs.foldl markF bs)) ∧ Keep (· ≠ p) w w' := by
  obtain ⟨_, _, e0, hn⟩ := rowS_sl h
  clear e0
  have h1 : (fs.length : Int) ≤ 9223372036854775807 := by omega
  have HB : Hid (∀ wr, Keep (· ≠ p) w wr → ∀ j (hj : j < fs.length), ∃ b o, a = some ⟨b, o, none⟩ ∧ b ≠ p ∧ b < wr.heap.size ∧ wr.cell? ⟨b, o + j * 7, none⟩ = some (.string (strOfNums fs[j].name)) ∧ wr.cell? ⟨b, o + j * 7 + 1, none⟩ = some (.int .i64 fs[j].num) ∧ wr.cell? ⟨b, o + j * 7 + 2, none⟩ = some (.int .i64 fs[j].kind) ∧ wr.cell? ⟨b, o + j * 7 + 3, none⟩ = some (.int .i64 fs[j].ref) ∧ wr.cell? ⟨b, o + j * 7 + 4, none⟩ = some (.int .i64 fs[j].lab) ∧ wr.cell? ⟨b, o + j * 7 + 5, none⟩ = some (.int .i64 fs[j].one) ∧ wr.cell? ⟨b, o + j * 7 + 6, none⟩ = some (.int .i64 fs[j].key)) := hid fun wr hK j hj => by
    have h' := h.keep hK (fun k hk => hk)
    obtain ⟨b, o, e, hc⟩ := rowAt (g := cFT) (fun _ => rfl) h' (i := j) (x := fs[j]) (by simp [hj])
    obtain ⟨_, _, e2, hv⟩ := h'
    cases e2
    rcases hv.cells with ⟨h0, _⟩ | ⟨b2, o2, e3, hz, _⟩
    · omega
    · rw [e] at e3
      cases e3
      exact ⟨b, o, e, hz, World.block_lt_of_cell? _ _ (hc 0 _ rfl), hc 0 _ rfl, hc 1 _ rfl, hc 2 _ rfl, hc 3 _ rfl, hc 4 _ rfl, hc 5 _ rfl, hc 6 _ rfl⟩
  have HR := hid hr
  have HP := hid hp
  have HL := hid hl
  clear h hr hp hl hT
  go_enter Tryd.func38, Tryd.ntmps38
  go_wp2
  go_loopw [8] (fun r wr => ∃ j : Nat, r = .int .i64 j ∧ j ≤ fs.length ∧ Hid (Blk wr p T (bsV ((fs.take j).foldl markF bs))) ∧ Hid (Keep (· ≠ p) w wr)) (fun r wr => fs.length - numAt wr r)
  case atStart => exact ⟨0, rfl, by omega, HP, hid (Keep.refl _ _)⟩
  case round =>
    clear HP
    obtain ⟨j, rfl, hj, HP, hK⟩ := hrel
    by_cases hlt : j < fs.length
    · have h2 : (j : Int) < (fs.length : Int) := by omega
      obtain ⟨fb, fo, rfl, hne, hbf, c0, c1, c2, c3, c4, c5, c6⟩ := HB.out wr hK.out j hlt
      have HTK : Hid ((fs.take (j + 1)).foldl markF bs = markF ((fs.take j).foldl markF bs) fs[j]) := hid (by rw [List.take_succ_eq_append_getElem hlt, List.foldl_append]; rfl)
      have HRj := hid (HR.out _ (List.getElem_mem hlt))
      have HLj : Hid (((fs.take j).foldl markF bs).length = 128) := hid (by rw [marks_len]; exact HL.out)
      generalize (fs.take j).foldl markF bs = cs at *
      generalize fs[j] = f at *
      have zp := HP.out.lt
      by_cases hk : f.kind = 17
      · have kq : (f.kind == 17) = true := by simpa using hk
        obtain ⟨r1, r2⟩ := HRj.out hk
        have HM : Hid (markF cs f = cs.set f.ref.toNat true) := hid (by unfold markF; rw [if_pos hk])
        obtain ⟨k, hkr⟩ := Int.eq_ofNat_of_zero_le r1
        rw [hkr, Int.toNat_natCast] at HM
        rw [hkr] at c3
        have hk128 : k < 128 := by omega
        have k3 : (k : Int) < 128 := by omega
        have cp := HP.out.cell k _ (bsV_get (show k < cs.length by rw [HLj.out]; exact hk128))
        have yp := HP.out.frozen k
        replace hk := hid hk
        clear r1 r2 hkr
        generalize f.ref = fr at *
        go_wp2
        have BP := HP.out.kept (below_alloc (w := wr) (.cells #[.string (strOfNums f.name), .int .i64 f.num, .int .i64 f.kind, .int .i64 (k : Int), .int .i64 f.lab, .int .i64 f.one, .int .i64 f.key] 39))
        have Bf : Blk (wr.alloc (.cells #[.string (strOfNums f.name), .int .i64 f.num, .int .i64 f.kind, .int .i64 (k : Int), .int .i64 f.lab, .int .i64 f.one, .int .i64 f.key] 39)) wr.heap.size 39 #[.string (strOfNums f.name), .int .i64 f.num, .int .i64 f.kind, .int .i64 (k : Int), .int .i64 f.lab, .int .i64 f.one, .int .i64 f.key] := Blk.new _ _ _
        have hK1 : Hid (Keep (· ≠ p) w (wr.alloc (.cells #[.string (strOfNums f.name), .int .i64 f.num, .int .i64 f.kind, .int .i64 (k : Int), .int .i64 f.lab, .int .i64 f.one, .int .i64 f.key] 39))) := hid (hK.out.trans (Keep.ofBelow (below_alloc _)))
        have hfp : p < wr.heap.size := zp
        clear cp yp zp HP hK c0 c1 c2 c3 c4 c5 c6 hbf
        have cp := BP.cell k _ (bsV_get (show k < cs.length by rw [HLj.out]; exact hk128))
        have yp := BP.frozen k
        have zp := BP.lt
        have HBP := hid BP
        generalize (wr.alloc (.cells #[.string (strOfNums f.name), .int .i64 f.num, .int .i64 f.kind, .int .i64 (k : Int), .int .i64 f.lab, .int .i64 f.one, .int .i64 f.key] 39)) = W at *
        have xf := Bf.cellF
        have zf := Bf.lt
        generalize wr.heap.size = fp at *
        clear BP Bf
        go_region
        go_wp2
        exact ⟨⟨j + 1, by simp, by omega, hid (by rw [HTK.out, HM.out, ← bsV_set]; first | exact (HBP.out.kept (below_drew1 _)).set k _ | exact (HBP.out.set k _).kept (below_drew1 _)), hid (by first | exact (hK1.out.trans (Keep.ofBelow (below_drew1 _))).trans (Keep.setCell _ _ _ (by simp)) | exact (hK1.out.trans (Keep.setCell _ _ _ (by simp))).trans (Keep.ofBelow (below_drew1 _)))⟩, by simp [numAt]; omega⟩
      · have kq : (f.kind == 17) = false := by simpa using hk
        have HM : Hid (markF cs f = cs) := hid (by unfold markF; rw [if_neg hk])
        replace hk := hid hk
        go_wp2
        exact ⟨⟨j + 1, by simp, by omega, hid ((HP.out.kept (below_alloc _)).is (by rw [HTK.out, HM.out])), hid (hK.out.trans (Keep.ofBelow (below_alloc _)))⟩, by simp [numAt]; omega⟩
    · have h2 : ¬ (j : Int) < (fs.length : Int) := by omega
      have e1 : fs.take j = fs := List.take_of_length_le (by omega)
      rw [e1] at HP
      go_wp2
      exact bodyPost_end (v := .tuple #[]) (by simp [results, Tryd.results38, go_sem]) rfl ⟨rfl, HP.out, hK.out⟩
def fsOf (l : List TV) (i : Nat) : List FT := match l[i]? with | some x => x.t.fs | none => []
/-- The types of a type's fields that are messages. -/
def gOf (l : List TV) (i : Nat) : List Nat := ((fsOf l i).filter (fun f => decide (f.kind = 17))).map (fun f => f.ref.toNat)
theorem fsOf_at {l : List TV} {i : Nat} (h : i < l.length) : fsOf l i = l[i].t.fs := by
  unfold fsOf
  rw [List.getElem?_eq_getElem h]
theorem fsOf_none {l : List TV} {i : Nat} (h : l.length ≤ i) : fsOf l i = [] := by
  unfold fsOf
  rw [List.getElem?_eq_none h]
theorem good_len {l : List TV} (hg : goodB l = true) : l.length ≤ 128 := by
  unfold goodB at hg
  rw [Bool.and_eq_true, decide_eq_true_eq] at hg
  exact hg.1
theorem good_ref {l : List TV} (hg : goodB l = true) {k : Nat} (hk : k < l.length) {f : FT} (hf : f ∈ l[k].t.fs) (h17 : f.kind = 17) : 0 ≤ f.ref ∧ f.ref.toNat < l.length := by
  have h := good_at hg hk
  unfold stepB typB at h
  simp only [Bool.and_eq_true] at h
  have h2 := h.2.2.2
  split at h2
  · rw [Bool.and_eq_true, decide_eq_true_eq] at h2
    have h3 : l[k].t.fs.length = 0 := by omega
    rw [List.eq_nil_of_length_eq_zero h3] at hf
    exact absurd hf (by simp)
  · unfold msgB at h2
    simp only [Bool.and_eq_true] at h2
    have h3 := List.all_eq_true.1 h2.2.2.1 f hf
    unfold fldB at h3
    simp only [Bool.and_eq_true] at h3
    have h4 := h3.2.1
    unfold refB at h4
    rw [if_pos (.inr h17)] at h4
    split at h4
    · rename_i x hx
      rw [Bool.and_eq_true, decide_eq_true_eq] at h4
      exact ⟨h4.1, (List.getElem?_eq_some_iff.1 hx).1⟩
    · simp at h4
theorem gOf_lt {l : List TV} (hg : goodB l = true) {i j : Nat} (h : j ∈ gOf l i) : i < l.length ∧ j < l.length := by
  unfold gOf at h
  by_cases hi : i < l.length
  · rw [fsOf_at hi] at h
    obtain ⟨f, hf, e⟩ := List.mem_map.1 h
    obtain ⟨h1, h2⟩ := List.mem_filter.1 hf
    have := (good_ref hg hi h1 (by simpa using h2)).2
    exact ⟨hi, by rw [← e]; exact this⟩
  · rw [fsOf_none (by omega)] at h
    simp at h
theorem mem_gOf {l : List TV} {i j : Nat} : j ∈ gOf l i ↔ ∃ f ∈ fsOf l i, f.kind = 17 ∧ f.ref.toNat = j := by
  unfold gOf
  simp only [List.mem_map, List.mem_filter, decide_eq_true_eq]
  constructor
  · rintro ⟨f, ⟨h1, h2⟩, h3⟩; exact ⟨f, h1, h2, h3⟩
  · rintro ⟨f, h1, h2, h3⟩; exact ⟨f, ⟨h1, h2⟩, h3⟩
theorem mark_get (bs : List Bool) (f : FT) (j : Nat) : (markF bs f)[j]? = some true ↔ bs[j]? = some true ∨ (j < bs.length ∧ f.kind = 17 ∧ f.ref.toNat = j) := by
  unfold markF
  split
  · rename_i h
    by_cases e : f.ref.toNat = j
    · subst e
      by_cases hj : f.ref.toNat < bs.length
      · rw [List.getElem?_set_self hj]
        exact ⟨fun _ => .inr ⟨hj, h, rfl⟩, fun _ => rfl⟩
      · rw [List.getElem?_eq_none (by simp; omega), List.getElem?_eq_none (by omega)]
        constructor
        · intro q; cases q
        · rintro (q | ⟨q, _⟩)
          · cases q
          · exact absurd q hj
    · rw [List.getElem?_set_ne e]
      constructor
      · exact .inl
      · rintro (q | ⟨_, _, q⟩)
        · exact q
        · exact absurd q e
  · rename_i h
    constructor
    · exact .inl
    · rintro (q | ⟨_, q, _⟩)
      · exact q
      · exact absurd q h
theorem marks_get : ∀ (fs : List FT) (bs : List Bool) (j : Nat), (fs.foldl markF bs)[j]? = some true ↔ bs[j]? = some true ∨ (j < bs.length ∧ ∃ f ∈ fs, f.kind = 17 ∧ f.ref.toNat = j)
  | [], bs, j => by simp
  | f :: r, bs, j => by
    rw [List.foldl_cons, marks_get r, mark_get, markF_len]
    constructor
    · rintro ((h | ⟨h1, h2, h3⟩) | ⟨h1, g, h2, h3, h4⟩)
      · exact .inl h
      · exact .inr ⟨h1, f, List.mem_cons_self, h2, h3⟩
      · exact .inr ⟨h1, g, List.mem_cons_of_mem _ h2, h3, h4⟩
    · rintro (h | ⟨h1, g, h2, h3, h4⟩)
      · exact .inl (.inl h)
      · rcases List.mem_cons.1 h2 with rfl | h2
        · exact .inl (.inr ⟨h1, h3, h4⟩)
        · exact .inr ⟨h1, g, h2, h3, h4⟩
def noB : List Bool := List.replicate 128 false
def stp (l : List TV) (hs bs : List Bool) (k : Nat) : List Bool := if hs[k]? = some true then (fsOf l k).foldl markF bs else bs
def lvl (l : List TV) (hs : List Bool) (i : Nat) : List Bool := (List.range i).foldl (stp l hs) noB
theorem lvl_succ (l : List TV) (hs : List Bool) (i : Nat) : lvl l hs (i + 1) = stp l hs (lvl l hs i) i := by
  unfold lvl
  rw [List.range_succ, List.foldl_append]
  rfl
theorem stp_len (l : List TV) (hs bs : List Bool) (k : Nat) : (stp l hs bs k).length = bs.length := by
  unfold stp
  split
  · exact marks_len _ _
  · rfl
theorem lvl_len (l : List TV) (hs : List Bool) : ∀ i, (lvl l hs i).length = 128
  | 0 => by simp [lvl, noB]
  | i + 1 => by rw [lvl_succ, stp_len, lvl_len l hs i]
theorem noB_get (j : Nat) : ¬ noB[j]? = some true := by
  unfold noB
  intro h
  obtain ⟨h1, h2⟩ := List.getElem?_eq_some_iff.1 h
  rw [List.getElem_replicate] at h2
  cases h2
theorem lvl_get (l : List TV) (hs : List Bool) (j : Nat) : ∀ i, (lvl l hs i)[j]? = some true ↔ j < 128 ∧ ∃ k, k < i ∧ hs[k]? = some true ∧ j ∈ gOf l k
  | 0 => by
    constructor
    · intro h; exact absurd h (noB_get j)
    · rintro ⟨_, k, hk, _⟩; omega
  | i + 1 => by
    rw [lvl_succ]
    unfold stp
    split
    · rename_i h
      rw [marks_get, lvl_get l hs j i, lvl_len]
      constructor
      · rintro (⟨h1, k, h2, h3, h4⟩ | ⟨h1, h2⟩)
        · exact ⟨h1, k, by omega, h3, h4⟩
        · exact ⟨h1, i, by omega, h, mem_gOf.2 h2⟩
      · rintro ⟨h1, k, h2, h3, h4⟩
        by_cases e : k = i
        · subst e; exact .inr ⟨h1, mem_gOf.1 h4⟩
        · exact .inl ⟨h1, k, by omega, h3, h4⟩
    · rename_i h
      rw [lvl_get l hs j i]
      constructor
      · rintro ⟨h1, k, h2, h3, h4⟩
        exact ⟨h1, k, by omega, h3, h4⟩
      · rintro ⟨h1, k, h2, h3, h4⟩
        refine ⟨h1, k, ?_, h3, h4⟩
        rcases Nat.lt_succ_iff_lt_or_eq.1 h2 with q | rfl
        · exact q
        · exact absurd h3 h
/-- The marks of a depth. -/
structure MkAt (l : List TV) (d idx : Nat) (hs : List Bool) : Prop where
  len : hs.length = 128
  get : ∀ j, hs[j]? = some true ↔ Goes (gOf l) d idx j
theorem mk_zero {l : List TV} {idx : Nat} (h : idx < 128) : MkAt l 0 idx (noB.set idx true) := by
  refine ⟨by simp [noB], fun j => ?_⟩
  by_cases e : idx = j
  · subst e
    rw [List.getElem?_set_self (by simpa [noB] using h)]
    exact ⟨fun _ => rfl, fun _ => rfl⟩
  · rw [List.getElem?_set_ne e]
    constructor
    · intro q; exact absurd q (noB_get j)
    · intro q; exact absurd q e
theorem mk_step {l : List TV} (hg : goodB l = true) {d idx : Nat} {hs : List Bool} (h : MkAt l d idx hs) : MkAt l (d + 1) idx (lvl l hs l.length) := by
  refine ⟨lvl_len _ _ _, fun j => ?_⟩
  rw [lvl_get]
  constructor
  · rintro ⟨_, k, _, h3, h4⟩
    exact ⟨k, (h.get k).1 h3, h4⟩
  · rintro ⟨k, h1, h2⟩
    have := gOf_lt hg h2
    exact ⟨by have := good_len hg; omega, k, this.1, (h.get k).2 h1, h2⟩
theorem mk_none {l : List TV} {d idx : Nat} (h : MkAt l d idx noB) : ¬ Way (gOf l) d idx := by
  rw [way_goes]
  rintro ⟨j, hj⟩
  exact noB_get j ((h.get j).2 hj)
theorem mk_some {l : List TV} {d idx : Nat} {hs : List Bool} (h : MkAt l d idx hs) (hne : hs ≠ noB) : Way (gOf l) d idx := by
  rw [way_goes]
  apply Classical.byContradiction
  intro hno
  apply hne
  apply List.ext_getElem
  · rw [h.len]; simp [noB]
  · intro j h1 h2
    have : hs[j] ≠ true := by
      intro e
      exact hno ⟨j, (h.get j).1 (by rw [List.getElem?_eq_getElem h1, e])⟩
    have e2 : noB[j] = false := by
      cases q : noB[j] with
      | false => rfl
      | true => exact absurd (by rw [List.getElem?_eq_getElem h2, q]) (noB_get j)
    rw [e2]
    simpa using this
/-- A field more, in the document's round. -/
def nxF (dv : Nat → Nat) (a : Nat) (f : FT) : Nat := if f.kind = 17 then max a (dv f.ref.toNat + 1) else a
theorem nx_fold (dv : Nat → Nat) : ∀ (fs : List FT) (a : Nat), fs.foldl (nxF dv) a = ((fs.filter (fun f => decide (f.kind = 17))).map (fun f => f.ref.toNat)).foldl (fun a j => max a (dv j + 1)) a
  | [], a => rfl
  | f :: r, a => by
    rw [List.foldl_cons, nx_fold dv r, List.filter_cons]
    unfold nxF
    by_cases h : f.kind = 17
    · rw [if_pos h, if_pos (by simpa using h), List.map_cons, List.foldl_cons]
    · rw [if_neg h, if_neg (by simpa using h)]
theorem dep_nx (l : List TV) (r i : Nat) : dep (gOf l) (r + 1) i = (fsOf l i).foldl (nxF (dep (gOf l) r)) 1 := by
  rw [nx_fold]
  rfl
theorem dep_le (g : Nat → List Nat) (r i : Nat) : dep g r i ≤ r + 1 := by
  apply Nat.le_of_not_lt
  intro h
  have := ((dep_way g r (r + 1) i).1 h).1
  omega
theorem nx_le (dv : Nat → Nat) (b : Nat) (h : ∀ i, dv i ≤ b) : ∀ (fs : List FT) (a : Nat), a ≤ b + 1 → fs.foldl (nxF dv) a ≤ b + 1
  | [], a, ha => ha
  | f :: r, a, ha => by
    rw [List.foldl_cons]
    apply nx_le dv b h r
    unfold nxF
    split
    · have := h f.ref.toNat; omega
    · exact ha
end Go.Proofs.YtbiohlfcikdldaaDoor
