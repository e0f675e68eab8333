/-
  An array of marks: loaded, compared, cleared, stored whole.
  Depths: what the program answers.
  Depths: what the document answers.
  Is, Field, Named, Wire, Takes: what the document answers.
-/
import Derived.Test.YtbiohlfcikdldaaDoorCOA
import Derived.ChangeKeysEq
import Derived.Laws.Tables
import Derived.Lib.SliceRun
import Derived.Deep.MidRow
import Derived.Laws.MakeOwn
import Derived.Test.YtbiohlfcikdldaaDoorCNG
namespace Go.Proofs.YtbiohlfcikdldaaDoor
open Go.RowKit
set_option maxRecDepth 1000000
set_option linter.unusedVariables false
set_option linter.unusedSimpArgs false
set_option maxHeartbeats 1000000
theorem bsV_toList (bs : List Bool) : (bsV bs).toList = bs.map Value.bool := by simp [bsV]
theorem bs_items (hs ks : List Bool) (h1 : hs.length = 128) (h2 : ks.length = 128) (W : World) : ∀ (is : List Nat), (∀ i ∈ is, i < 128) → (Op.eqItems 9999 4 1 (bsV hs) (bsV ks) is).run Tryd.prog W = .ok (is.all fun i => hs[i]? == ks[i]?) W
  | [], _ => by simp [Op.eqItems]
  | i :: is, h => by
    have hi := h i List.mem_cons_self
    have ih := bs_items hs ks h1 h2 W is (fun j hj => h j (List.mem_cons_of_mem _ hj))
    have e1 : (part 4 (bsV hs) (i * 1)).run Tryd.prog W = .ok (.bool (hs[i]'(by omega))) W := by
      rw [Nat.mul_one]
      have := bsV_get (bs := hs) (k := i) (by omega)
      simp [part, go_sem, this]
    have e2 : (part 4 (bsV ks) (i * 1)).run Tryd.prog W = .ok (.bool (ks[i]'(by omega))) W := by
      rw [Nat.mul_one]
      have := bsV_get (bs := ks) (k := i) (by omega)
      simp [part, go_sem, this]
    have e3 : (Op.equalIn 9999 4 (.bool (hs[i]'(by omega))) (.bool (ks[i]'(by omega)))).run Tryd.prog W = .ok (hs[i]'(by omega) == ks[i]'(by omega)) W := by
      exact run_equalIn_bool W 9998 4 _ _ (by kernel_rfl)
    rw [Op.eqItems]
    simp only [Sem.run_bind, e1, e2, e3, Result.andThen_ok, List.all_cons]
    rw [List.getElem?_eq_getElem (show i < hs.length by omega), List.getElem?_eq_getElem (show i < ks.length by omega)]
    generalize hs[i]'(by omega) = a
    generalize ks[i]'(by omega) = b
    cases a <;> cases b <;> simp [ih]
theorem bs_all (hs ks : List Bool) (h1 : hs.length = 128) (h2 : ks.length = 128) : ((List.range 128).all fun i => hs[i]? == ks[i]?) = decide (hs = ks) := by
  by_cases h : hs = ks
  · subst h; simp
  · rw [decide_eq_false h]
    rw [Bool.eq_false_iff]
    intro q
    apply h
    rw [List.all_eq_true] at q
    apply List.ext_getElem?
    intro i
    by_cases hi : i < 128
    · have := q i (List.mem_range.2 hi)
      simpa using this
    · rw [List.getElem?_eq_none (by omega), List.getElem?_eq_none (by omega)]
theorem Tryd.info4 : (Tryd.prog.info? 4).map (fun i => (i.zero, i.size, i.bytes)) = some (some (.bool false), 1, 1) := by kernel_rfl
theorem bs_eql (hs ks : List Bool) (h1 : hs.length = 128) (h2 : ks.length = 128) (W : World) : (Op.equalIn 10000 77 (.agg (bsV hs)) (.agg (bsV ks))).run Tryd.prog W = .ok (decide (hs = ks)) W := by
  have hu : Tryd.prog.underlying 77 = some (.array 128 4) := by kernel_rfl
  obtain ⟨i, hi, -⟩ := info_parts Tryd.info4
  rw [run_equalIn_array W 9999 (bsV hs) (bsV ks) hu hi, show Tryd.prog.cellsOf 4 = 1 by kernel_rfl, bs_items hs ks h1 h2 W _ (fun i hi => List.mem_range.1 hi), bs_all hs ks h1 h2]
theorem keep_setCells {b : Nat} : ∀ (vs : List Value) (o : Nat) (w : World), Keep (· ≠ b) w (w.setCells b o vs)
  | [], _, w => Keep.refl _ _
  | v :: r, o, w => (Keep.setCell w ⟨b, o, none⟩ v (by simp)).trans (keep_setCells r (o + 1) _)
theorem blk_setCells {b : Nat} {T : TypeId} : ∀ (vs : List Value) (o : Nat) (w : World) (cs : Array Value), Blk w b T cs → ∃ cs', Blk (w.setCells b o vs) b T cs' ∧ cs'.size = cs.size
  | [], _, w, cs, h => ⟨cs, h, rfl⟩
  | v :: r, o, w, cs, h => by
    obtain ⟨cs', h1, h2⟩ := blk_setCells r (o + 1) (w.setCell ⟨b, o, none⟩ v) _ (h.set o v)
    exact ⟨cs', h1, by rw [h2]; simp⟩
theorem bs_clear {w : World} {p : Nat} {T : TypeId} {bs : List Bool} (h : Blk w p T (bsV bs)) (hl : bs.length = 128) (ty : TypeId) : ∃ w', (Builtin.clear_ #[78] ty #[.slice (some ⟨p, 0, none⟩) 128 128]).run Tryd.prog w = .ok (.tuple #[]) w' ∧ Blk w' p T (bsV noB) ∧ Keep (· ≠ p) w w' := by
  have hc : ∀ j, j < 128 → (w.cell? ⟨p, 0 + j, none⟩).isSome = true := fun j hj => by
    rw [Nat.zero_add, h.cell j _ (bsV_get (by omega))]; rfl
  refine ⟨_, Go.Lib.run_clear_slice w 78 4 ty (.bool false) (by kernel_rfl) (fun w => by obtain ⟨i, hi, hz, -⟩ := info_parts Tryd.info4; simp [zeroValue, typeInfo, hi, hz, go_sem]) rfl rfl p 0 128 128 (by omega) hc (fun j _ => h.frozen _), ?_, keep_setCells _ _ _⟩
  obtain ⟨cs', h1, h2⟩ := blk_setCells (b := p) (T := T) (List.replicate 128 (.bool false)) 0 w _ h
  refine h1.is (Array.ext_getElem? fun j => ?_)
  have hs : cs'.size = 128 := by rw [h2]; simp [bsV, hl]
  by_cases hj : j < 128
  · have e1 := World.cell?_setCells_in p (List.replicate 128 (.bool false)) 0 w (by simpa using hc) j (by simpa using hj)
    rw [Nat.zero_add, h1.cellF] at e1
    rw [e1]
    simp [bsV, noB, hj]
  · rw [Array.getElem?_eq_none (by omega), Array.getElem?_eq_none (by simp [bsV, noB]; omega)]
theorem row_old {w : World} {k : Nat} {v : Value} {n : Nat} {fl : List Value} (hk : 0 < k) (h : RowS w AnyZ k v n fl) : RowS w (fun b => b < w.heap.size) k v n fl := by
  obtain ⟨a, c, e, h⟩ := h
  refine ⟨a, c, e, h.length, h.le, h.max, ?_⟩
  rcases h.cells with h0 | ⟨b, off, rfl, _, hc⟩
  · exact .inl h0
  · by_cases hn : n = 0
    · exact .inl ⟨hn, fun q => by cases q⟩
    · have hlt : 0 < fl.length := by rw [h.length]; exact Nat.mul_pos (by omega) hk
      exact .inr ⟨b, off, rfl, World.block_lt_of_cell? _ _ (hc 0 _ (List.getElem?_eq_getElem hlt)), hc⟩
theorem Tryd.sizeS : (Tryd.prog.info? 77).map (·.size) = some 128 := by kernel_rfl
theorem bs_loadAt {w : World} {p : Nat} {T : TypeId} {bs : List Bool} (h : Blk w p T (bsV bs)) (hl : bs.length = 128) : (Instr.loadAt 77 (.pointer (some ⟨p, 0, none⟩))).run Tryd.prog w = .ok (.agg (bsV bs)) w :=
  run_loadAt_mid w p 0 77 (bs.map Value.bool) (.array 128 4) (fun j v hv => by
    rw [Nat.zero_add]
    exact h.cell j v (by unfold bsV; simpa using hv)) (by kernel_rfl) rfl (by rw [Tryd.sizeS]; simp [hl])
theorem bs_storeAt {w : World} {p : Nat} {T : TypeId} {bs : List Bool} (h : Blk w p T (bsV bs)) (hl : bs.length = 128) (cs : List Bool) (hc : cs.length = 128) : ∃ w', (Instr.storeAt 77 (.pointer (some ⟨p, 0, none⟩)) (.agg (bsV cs))).run Tryd.prog w = .ok () w' ∧ Blk w' p T (bsV cs) ∧ Keep (· ≠ p) w w' := by
  have hz : (bsV cs).size = 128 := by simp [bsV, hc]
  refine ⟨_, run_storeAt_mid w p 0 77 (bsV cs) (fun j hj => ⟨by rw [Nat.zero_add, h.cell j _ (bsV_get (by omega))]; rfl, h.frozen _⟩) (by rw [Tryd.sizeS, hz]) (Array.all_eq_true_iff_forall_mem.2 fun v hv => by
    have : v ∈ (bsV cs).toList := by simpa using hv
    rw [bsV_toList] at this
    obtain ⟨b, _, rfl⟩ := List.mem_map.1 this
    rfl), ?_, keep_setCells _ _ _⟩
  obtain ⟨cs', h1, h2⟩ := blk_setCells (b := p) (T := T) (bsV cs).toList 0 w _ h
  refine h1.is (Array.ext_getElem? fun j => ?_)
  have hs : cs'.size = 128 := by rw [h2]; simp [bsV, hl]
  by_cases hj : j < 128
  · have e1 := World.cell?_setCells_in p (bsV cs).toList 0 w (fun i hi => by
      have hi' : i < 128 := by simpa [hz] using hi
      rw [Nat.zero_add, h.cell i _ (bsV_get (by omega))]; rfl) j (by simpa [hz] using hj)
    rw [Nat.zero_add, h1.cellF] at e1
    rw [e1]
    simp [hz, hj]
  · rw [Array.getElem?_eq_none (by omega), Array.getElem?_eq_none (by omega)]
theorem wpList_bs_load {ops : Array Oper} {rest : List Oper} {op : Oper} {a : Act} {w : World} {Q : Exit → Act → World → Prop} (hgd : op.guard = none) (x : Operand) (ho : op.op = .load 77 x) {p : Nat} {T : TypeId} {bs : List Bool} (hx : a.eval x = .pointer (some ⟨p, 0, none⟩)) (h : Blk w p T (bsV bs)) (hl : bs.length = 128) (hn : wpList Tryd.prog ops Q rest (a.put op.dst (.agg (bsV bs))) w) : wpList Tryd.prog ops Q (op :: rest) a w :=
  wpList_plain hgd fun _ hK => by
    unfold Oper.wp execOp
    simp only [ho, hx, bs_loadAt h hl, Sem.run_bind, Sem.run_pure, Result.andThen_ok]
    exact hK _ _ hn
theorem wpList_bs_store {ops : Array Oper} {rest : List Oper} {op : Oper} {a : Act} {w w' : World} {Q : Exit → Act → World → Prop} (hgd : op.guard = none) (x y : Operand) (ho : op.op = .store 77 x y) {p : Nat} {cs : List Bool} (hx : a.eval x = .pointer (some ⟨p, 0, none⟩)) (hy : a.eval y = .agg (bsV cs)) (h : (Instr.storeAt 77 (.pointer (some ⟨p, 0, none⟩)) (.agg (bsV cs))).run Tryd.prog w = .ok () w') (hn : wpList Tryd.prog ops Q rest (a.put op.dst undef) w') : wpList Tryd.prog ops Q (op :: rest) a w :=
  wpList_plain hgd fun _ hK => by
    unfold Oper.wp execOp
    simp only [ho, hx, hy, h, Sem.run_bind, Sem.run_pure, Result.andThen_ok]
    exact hK _ _ hn
set_option maxHeartbeats 2000000
/-- What both answer. -/
def depD (l : List TV) (k : Nat) : Nat := if l.length < dep (gOf l) (l.length + 1) k then 0 else dep (gOf l) (l.length + 1) k
theorem depD_deep (l : List TV) (k : Nat) : Deep (gOf l) l.length k (depD l k) := dep_deep _ _ _
theorem zero_noB : Tryd.zeroCells77 = bsV noB := by kernel_rfl
theorem depthsNo (w : World) (l : List TV) (ta : Option Addr) (tc : Nat) (h : TbR w (.slice ta l.length tc) l) (hk : ∀ x ∈ l, OkV x) (m : Int) (hm : w.cell? ⟨0, 0, none⟩ = some (.int .i64 m)) (idx : Int) (q : isB l idx false = false) : Calls Tryd.prog 14 #[.agg #[.slice ta l.length tc], .int .i64 idx] w fun e w' => e = .returned (.tuple #[.int .i64 0, .int .i64 18]) ∧ Below w.heap.size w w' := by
  have HTA := hid fun W (hW : Below w.heap.size w W) => typeAtNo W l ta tc (h.kept hW) hk m (cell_below hm hW) idx false q
  clear h hk hm q
  go_enter Tryd.func14, Tryd.ntmps14
  go_wp2_with fail
  refine (HTA.out _ (by exact blBy)).mono ?_
  rintro e w1 ⟨rfl, hb1⟩
  replace hb1 : Hid (Below w.heap.size w w1) := hid (bl_then (by exact blBy) hb1)
  go_wp2
  go_ret2
  exact ⟨rfl, by have := hb1.out; exact blBy⟩
theorem depthsOk (w : World) (l : List TV) (ta : Option Addr) (tc : Nat) (h : TbR w (.slice ta l.length tc) l) (hk : ∀ x ∈ l, OkV x) (m : Int) (hm : w.cell? ⟨0, 0, none⟩ = some (.int .i64 m)) (k : Nat) (hkl : k < l.length) (hg : goodB l = true) (he : l[k].t.enum = false) : Calls Tryd.prog 14 #[.agg #[.slice ta l.length tc], .int .i64 (k : Int)] w fun e w' => e = .returned (.tuple #[.int .i64 (depD l k), .int .i64 0]) ∧ Below w.heap.size w w' := by
  have HTA := hid fun W (hW : Below w.heap.size w W) => typeAtOk W l ta tc (h.kept hW) hk m (cell_below hm hW) k hkl hg he
  have HTY := hid (h.ty _ (List.getElem_mem hkl))
  have HL := hid (good_len hg)
  have HG := hid hg
  have HT := hid h
  have HKL := hid hkl
  have h128 : (k : Int) < 128 := by have := HL.out; omega
  have hn : (l.length : Int) ≤ 128 := by have := HL.out; omega
  have n0 : k < 128 := by omega
  clear h hk hm hg
  have HX : Hid (∀ d, Deep (gOf l) l.length k d → d = depD l k) := hid fun d hd => deep_one hd (depD_deep l k)
  generalize depD l k = res at *
  generalize hxe : l[k] = x at *
  clear hxe
  obtain ⟨t, f, o, s, r⟩ := x
  obtain ⟨fa, fc, ef, -⟩ := rowS_sl HTY.out.f
  obtain ⟨oa, oc, eo, -⟩ := rowS_sl HTY.out.o
  obtain ⟨sa, sc, es, -⟩ := rowS_sl HTY.out.s
  obtain ⟨ra, rc, er, -⟩ := rowS_sl HTY.out.r
  dsimp only at ef eo es er
  subst ef eo es er
  dsimp only at HTA he
  clear HTY he
  go_enter Tryd.func14, Tryd.ntmps14
  go_wp2_with fail
  refine (HTA.out _ (by exact blBy)).mono ?_
  rintro e w1 ⟨rfl, hb1⟩
  have Ba : Blk w1 w.heap.size 24 #[.slice ta l.length tc] := (Blk.new _ _ _).kept hb1
  replace hb1 : Hid (Below w.heap.size w w1) := hid (bl_then (by exact blBy) hb1)
  clear hkl HTA
  have zaa := Ba.lt
  go_upto_region 5 with fail
  have Bh : Blk (((w1.alloc (.cells #[.string (strOfNums t.name), .bool false, .slice fa t.fs.length fc, .slice oa t.os.length oc, .slice sa t.ss.length sc, .slice ra t.rs.length rc] 62)).alloc (.cells Tryd.zeroCells77 77)).alloc (.cells Tryd.zeroCells77 77)) (w1.heap.size + 1) 77 (bsV noB) := ((Blk.newAt (by simp)).kept (below_alloc _)).is zero_noB
  have Bb : Blk (((w1.alloc (.cells #[.string (strOfNums t.name), .bool false, .slice fa t.fs.length fc, .slice oa t.os.length oc, .slice sa t.ss.length sc, .slice ra t.rs.length rc] 62)).alloc (.cells Tryd.zeroCells77 77)).alloc (.cells Tryd.zeroCells77 77)) (w1.heap.size + 1 + 1) 77 (bsV noB) := (Blk.newAt (by simp)).is zero_noB
  replace Ba := ((Ba.kept (below_alloc (.cells #[.string (strOfNums t.name), .bool false, .slice fa t.fs.length fc, .slice oa t.os.length oc, .slice sa t.ss.length sc, .slice ra t.rs.length rc] 62))).kept (below_alloc (.cells Tryd.zeroCells77 77))).kept (below_alloc (.cells Tryd.zeroCells77 77))
  have HS : Hid (w.heap.size < w1.heap.size) := hid zaa
  replace hb1 : Hid (Below w.heap.size w (((w1.alloc (.cells #[.string (strOfNums t.name), .bool false, .slice fa t.fs.length fc, .slice oa t.os.length oc, .slice sa t.ss.length sc, .slice ra t.rs.length rc] 62)).alloc (.cells Tryd.zeroCells77 77)).alloc (.cells Tryd.zeroCells77 77))) := hid (by have := hb1.out; exact blBy)
  generalize (((w1.alloc (.cells #[.string (strOfNums t.name), .bool false, .slice fa t.fs.length fc, .slice oa t.os.length oc, .slice sa t.ss.length sc, .slice ra t.rs.length rc] 62)).alloc (.cells Tryd.zeroCells77 77)).alloc (.cells Tryd.zeroCells77 77)) = W at *
  have hph : w.heap.size < w1.heap.size + 1 := by have := HS.out; omega
  clear HS zaa
  generalize hpe : w1.heap.size + 1 = ph at *
  clear hpe
  have hab : w.heap.size ≠ ph := by omega
  have hac : w.heap.size ≠ ph + 1 := by omega
  have ch := Bh.cell k _ (bsV_get (show k < noB.length by simp [noB]; omega))
  have yh := Bh.frozen k
  have zh := Bh.lt
  go_upto_region 6 with fail
  replace Ba := Ba.other (a := ⟨ph, k, none⟩) hab (.bool true)
  replace Bb := Bb.other (a := ⟨ph, k, none⟩) (show ph + 1 ≠ ph by omega) (.bool true)
  replace Bh := (Bh.set k (.bool true)).is (bsV_set noB k)
  replace hb1 : Hid (Below w.heap.size w (W.setCell ⟨ph, k, none⟩ (.bool true))) := hid (hb1.out.trans ((Keep.setCell (f := fun b => b ≠ ph) W ⟨ph, k, none⟩ (.bool true) (by simp)).below hb1.out.size (fun b hb => by omega)))
  clear ch yh zh
  generalize W.setCell ⟨ph, k, none⟩ (.bool true) = W2 at *
  have HBh := hid Bh
  have HBb := hid Bb
  have HBa := hid Ba
  have xa := Ba.cellF
  have za := Ba.lt
  clear Ba Bb Bh
  have n1 : (l.length : Int) + 1 ≤ 9223372036854775807 := by omega
  have n2 : -9223372036854775808 ≤ (l.length : Int) + 1 := by omega
  go_wp2
  go_loopw [28] (fun r wr => ∃ (d : Nat) (hs bs : List Bool), r = .int .i64 (d : Int) ∧ d ≤ l.length + 1 ∧ Hid (MkAt l d k hs) ∧ Hid (∀ j, j < d → Way (gOf l) j k) ∧ Hid (bs.length = 128) ∧ Hid (Blk wr ph 77 (bsV hs)) ∧ Hid (Blk wr (ph + 1) 77 (bsV bs)) ∧ Hid (Blk wr w.heap.size 24 #[.slice ta l.length tc]) ∧ Hid (Below w.heap.size w wr)) (fun r wr => l.length + 1 - numAt wr r)
  case atStart => exact ⟨0, noB.set k true, noB, rfl, by omega, hid (mk_zero n0), hid (fun j hj => by omega), hid (by simp [noB]), HBh, HBb, HBa, hb1⟩
  case round =>
    clear HBh HBb HBa hb1 xa za
    obtain ⟨d, hs, bs, rfl, hd, HMK, HWY, HLB, HBh, HBb, HBa, hb⟩ := hrel
    by_cases hlt : d < l.length + 1
    · have h2 : (d : Int) < (l.length : Int) + 1 := by omega
      have HEQ := bs_eql hs noB HMK.out.len (by simp [noB]) wr
      rw [← zero_noB] at HEQ
      go_upto_region 9 with fail
      refine wp_region_lit ?_
      refine wpList_bs_load rfl (.tmp 8) rfl rfl HBh.out HMK.out.len ?_
      by_cases hz : hs = noB
      · rw [decide_eq_true hz] at HEQ
        have HR : Hid (d = res) := hid (HX.out d (.inr ⟨by omega, mk_none (by rw [← hz]; exact HMK.out), HWY.out⟩))
        replace hz := hid hz
        go_wp2
        go_ret2
        cases HR.out
        exact ⟨rfl, hb.out⟩
      · rw [decide_eq_false hz] at HEQ
        have HWn : Hid (∀ j, j < d + 1 → Way (gOf l) j k) := hid (fun j hj => by
          by_cases e : j = d
          · subst e; exact mk_some HMK.out hz
          · exact HWY.out j (by omega))
        replace hz := hid hz
        obtain ⟨wc, HCL, Bb, hKc⟩ := bs_clear HBb.out HLB.out 0
        have HKc := hid hKc
        replace HBb := hid Bb
        replace HBh := hid (HBh.out.keep hKc (by omega))
        replace HBa := hid (HBa.out.keep hKc (by omega))
        have hbc : Hid (Below w.heap.size w wc) := hid (hb.out.trans (hKc.below hb.out.size (fun b hb => by omega)))
        clear Bb hKc
        go_upto_region 12 with fail
        clear HCL HEQ HKc hb HLB
        have xa := HBa.out.cellF
        have za := HBa.out.lt
        have hN := HBh.out.lt
        go_wp2
        go_loopw [39] (fun r wr => ∃ i : Nat, r = .int .i64 (i : Int) ∧ i ≤ l.length ∧ Hid (Blk wr ph 77 (bsV hs)) ∧ Hid (Blk wr (ph + 1) 77 (bsV (lvl l hs i))) ∧ Hid (Blk wr w.heap.size 24 #[.slice ta l.length tc]) ∧ Hid (Below w.heap.size w wr)) (fun r wr => l.length - numAt wr r)
        case atStart => exact ⟨0, rfl, by omega, HBh, HBb, HBa, hbc⟩
        case round =>
          clear HBh HBb HBa hbc xa za hN
          obtain ⟨i, rfl, hi, HBh, HBb, HBa, hbi⟩ := hrel
          by_cases hil : i < l.length
          · have h3 : (i : Int) < (l.length : Int) := by omega
            have i128 : i < 128 := by omega
            have i4 : (i : Int) < 128 := by omega
            have HTY := hid ((HT.out.ty _ (List.getElem_mem hil)))
            obtain ⟨tb, tof, hta, hbl, c0, c1, c2, c3, c4, c5⟩ := row6 HT.out.row hil
            subst hta
            have HRF := hid (fun f hf h17 => good_ref HG.out hil (f := f) hf h17)
            have HLV := hid (lvl_succ l hs i)
            have HLL := hid (lvl_len l hs i)
            have HST : Hid (stp l hs (lvl l hs i) i = if hs[i]? = some true then l[i].t.fs.foldl markF (lvl l hs i) else lvl l hs i) := hid (by unfold stp; rw [fsOf_at hil])
            have hll : hs.length = 128 := HMK.out.len
            have zx0 : ph + 1 < wr.heap.size := HBb.out.lt
            obtain ⟨mb, hmb⟩ : ∃ mb, hs[i]? = some mb := ⟨_, List.getElem?_eq_getElem (show i < hs.length by omega)⟩
            have HGT : Hid ((bsV hs)[i]? = some (.bool mb)) := hid (by unfold bsV; simp [hmb])
            rw [hmb] at HST
            clear hll hmb
            generalize l[i] = x at *
            obtain ⟨fa2, fc2, ef, -⟩ := rowS_sl HTY.out.f
            obtain ⟨oa2, oc2, eo, -⟩ := rowS_sl HTY.out.o
            obtain ⟨sa2, sc2, es, -⟩ := rowS_sl HTY.out.s
            obtain ⟨ra2, rc2, er, -⟩ := rowS_sl HTY.out.r
            have HRW : Hid (RowS w (fun b => b < w.heap.size) 7 (.slice fa2 x.t.fs.length fc2) x.t.fs.length (x.t.fs.flatMap cFT)) := hid (by rw [← ef]; exact row_old (by omega) HTY.out.f)
            rw [ef] at c2
            rw [eo] at c3
            rw [es] at c4
            rw [er] at c5
            clear ef eo es er HTY
            generalize lvl l hs i = bs2 at *
            replace c0 := cell_below c0 hbi.out
            replace c1 := cell_below c1 hbi.out
            replace c2 := cell_below c2 hbi.out
            replace c3 := cell_below c3 hbi.out
            replace c4 := cell_below c4 hbi.out
            replace c5 := cell_below c5 hbi.out
            replace hbl : tb < wr.heap.size := World.block_lt_of_cell? _ _ c0
            go_upto_region 15 with fail
            have BX : Blk (wr.alloc (.cells #[.string (strOfNums x.t.name), .bool x.t.enum, .slice fa2 x.t.fs.length fc2, .slice oa2 x.t.os.length oc2, .slice sa2 x.t.ss.length sc2, .slice ra2 x.t.rs.length rc2] 62)) wr.heap.size 62 #[.string (strOfNums x.t.name), .bool x.t.enum, .slice fa2 x.t.fs.length fc2, .slice oa2 x.t.os.length oc2, .slice sa2 x.t.ss.length sc2, .slice ra2 x.t.rs.length rc2] := Blk.new _ _ _
            have hK3 : Hid (Keep (fun _ => True) wr (wr.alloc (.cells #[.string (strOfNums x.t.name), .bool x.t.enum, .slice fa2 x.t.fs.length fc2, .slice oa2 x.t.os.length oc2, .slice sa2 x.t.ss.length sc2, .slice ra2 x.t.rs.length rc2] 62))) := hid (Keep.ofBelow (below_alloc _))
            have hbx : Hid (Below w.heap.size w (wr.alloc (.cells #[.string (strOfNums x.t.name), .bool x.t.enum, .slice fa2 x.t.fs.length fc2, .slice oa2 x.t.os.length oc2, .slice sa2 x.t.ss.length sc2, .slice ra2 x.t.rs.length rc2] 62))) := hid (by have := hbi.out; exact blBy)
            replace HBh := hid (HBh.out.keep hK3.out trivial)
            replace HBb := hid (HBb.out.keep hK3.out trivial)
            replace HBa := hid (HBa.out.keep hK3.out trivial)
            clear c0 c1 c2 c3 c4 c5 hbl hK3 hbi
            generalize wr.alloc (.cells #[.string (strOfNums x.t.name), .bool x.t.enum, .slice fa2 x.t.fs.length fc2, .slice oa2 x.t.os.length oc2, .slice sa2 x.t.ss.length sc2, .slice ra2 x.t.rs.length rc2] 62) = W3 at *
            generalize wr.heap.size = px at *
            have xh := HBh.out.cellF
            have yh : (bsV hs)[i]? = some (.bool mb) := HGT.out
            have zh := HBh.out.lt
            have xx := BX.cellF
            have zx := BX.lt
            cases mb with
            | false =>
              rw [if_neg (by simp)] at HST
              go_wp2
              exact ⟨⟨i + 1, by simp, by omega, HBh, hid (by rw [HLV.out, HST.out]; exact HBb.out), HBa, hbx⟩, by simp [numAt]; omega⟩
            | true =>
              rw [if_pos rfl] at HST
              go_wp2_with fail
              refine (addT x.t.fs _ fa2 fc2 (ph + 1) bs2 _ rfl ((HRW.out.keep (f := fun b => b ≠ ph + 1) (Keep.ofBelow hbx.out) (fun b hb => by omega)).weak (fun b hb => by omega)) HBb.out HLL.out (fun f hf h17 => by have := HRF.out f hf h17; omega)).mono ?_
              rintro e w4 ⟨rfl, Bb4, hK4⟩
              have Bh4 := HBh.out.keep hK4 (by omega)
              have Ba4 := HBa.out.keep hK4 (by omega)
              have hb4 : Hid (Below w.heap.size w w4) := hid (hbx.out.trans (hK4.below hbx.out.size (fun b hb => by omega)))
              have HB4 := hid Bb4
              replace Bh4 := hid Bh4
              replace Ba4 := hid Ba4
              clear Bb4 hK4 xh yh zh xx zx
              go_wp2
              exact ⟨⟨i + 1, by simp, by omega, Bh4, hid (by rw [HLV.out, HST.out]; exact HB4.out), Ba4, hb4⟩, by simp [numAt]; omega⟩
          · have h3 : ¬ (i : Int) < (l.length : Int) := by omega
            have ei : i = l.length := by omega
            rw [ei] at HBb
            clear ei
            have HLL := hid (lvl_len l hs l.length)
            have HNX := hid (mk_step HG.out HMK.out)
            generalize lvl l hs l.length = bs3 at *
            go_upto_region 18 with fail
            refine wp_region_lit ?_
            refine wpList_bs_load rfl (.tmp 9) rfl rfl HBb.out HLL.out ?_
            obtain ⟨w5, HSA, Bh5, hK5⟩ := bs_storeAt HBh.out HMK.out.len bs3 HLL.out
            refine wpList_bs_store rfl (.tmp 8) (.tmp 51) rfl rfl rfl HSA ?_
            have Bb5 := hid (HBb.out.keep hK5 (by omega))
            have Ba5 := hid (HBa.out.keep hK5 (by omega))
            have hb5 : Hid (Below w.heap.size w w5) := hid (hbi.out.trans (hK5.below hbi.out.size (fun b hb => by omega)))
            have HB5 := hid Bh5
            clear Bh5 hK5 HSA
            go_wp2
            exact ⟨⟨d + 1, bs3, bs3, by simp, by omega, HNX, HWn, HLL, HB5, Bb5, Ba5, hb5⟩, by simp [numAt]; omega⟩
    · have h2 : ¬ (d : Int) < (l.length : Int) + 1 := by omega
      have HR : Hid (0 = res) := hid (HX.out 0 (.inl ⟨rfl, HWY.out _ (by omega)⟩))
      go_wp2
      go_ret2
      exact ⟨by rw [← HR.out]; rfl, hb.out⟩
def natV (xs : List Nat) : Array Value := (xs.map fun (n : Nat) => Value.int .i64 (n : Int)).toArray
theorem natV_get {xs : List Nat} {k a : Nat} (h : xs[k]? = some a) : (natV xs)[k]? = some (.int .i64 (a : Int)) := by
  unfold natV
  simp [h]
theorem natV_set (xs : List Nat) (k a : Nat) : (natV xs).setIfInBounds k (.int .i64 (a : Int)) = natV (xs.set k a) := by
  unfold natV
  rw [List.setIfInBounds_toArray, List.map_set]
theorem Tryd.info3 : (Tryd.prog.info? 3).map (fun i => (i.zero, i.size, i.bytes)) = some (some (.int .i64 0), 1, 8) := by kernel_rfl
theorem mk_ints (n : Nat) (hn : n ≤ 1000) (W : World) : (Instr.makeSlice 84 (.int .i64 (n : Int)) (.int .i64 (n : Int))).run Tryd.prog W = .ok (.slice (some ⟨W.heap.size, 0, none⟩) n n) (W.alloc (.cells (natV (List.replicate n 0)) 3)) := by
  obtain ⟨i, hi, hz0, hz1, hz2⟩ := info_parts Tryd.info3
  have := run_makeSlice (P := Tryd.prog) W 84 3 i (.int .i64 0) Tryd.underlying84 hi hz0 .i64 .i64 (n : Int) (n : Int) (by omega) (by omega) (by rw [hz1]; omega) (by rw [hz2]; omega) (by omega)
  rw [this]
  have e : madeCells (Value.int .i64 0).cells ((n : Int).toNat * i.size) = natV (List.replicate n 0) := by
    rw [hz1, Int.toNat_natCast, Nat.mul_one]
    unfold natV madeCells
    apply Array.ext_getElem?
    intro j
    by_cases hj : j < n <;> simp [hj, Value.cells, Nat.mod_one]
  rw [e]
  simp
theorem set_get_eq {xs : List Nat} {k a : Nat} (h : k < xs.length) : (xs.set k a)[k]? = some a := List.getElem?_set_self h
theorem set_get_ne {xs : List Nat} {k a j : Nat} (h : k ≠ j) : (xs.set k a)[j]? = xs[j]? := List.getElem?_set_ne h
theorem depthsDR (w : World) (l : List TV) (ta : Option Addr) (tc : Nat) (h : TbR w (.slice ta l.length tc) l) (k : Nat) (hkl : k < l.length) (hg : goodB l = true) : Calls Tryd.prog 23 #[.agg #[.slice ta l.length tc], .int .i64 (k : Int)] w fun e w' => e = .returned (.int .i64 (depD l k)) ∧ Below w.heap.size w w' := by
  have HL := hid (good_len hg)
  have HG := hid hg
  have HT := hid h
  have HKL := hid hkl
  have hn : (l.length : Int) ≤ 128 := by have := HL.out; omega
  have HX : Hid (depD l k = if l.length < dep (gOf l) (l.length + 1) k then 0 else dep (gOf l) (l.length + 1) k) := hid rfl
  generalize depD l k = res at *
  have HMI := mk_ints l.length (by omega)
  clear h hg
  go_enter Tryd.func23, Tryd.ntmps23
  go_upto_region 2 with fail
  have Ba : Blk ((w.alloc (.cells #[.slice ta l.length tc] 24)).alloc (.cells (natV (List.replicate l.length 0)) 3)) w.heap.size 24 #[.slice ta l.length tc] := (Blk.new _ _ _).kept (below_alloc _)
  have Bd : Blk ((w.alloc (.cells #[.slice ta l.length tc] 24)).alloc (.cells (natV (List.replicate l.length 0)) 3)) (w.heap.size + 1) 3 (natV (List.replicate l.length 0)) := Blk.newAt (by simp)
  have hb : Hid (Below w.heap.size w ((w.alloc (.cells #[.slice ta l.length tc] 24)).alloc (.cells (natV (List.replicate l.length 0)) 3))) := hid (by exact blBy)
  generalize ((w.alloc (.cells #[.slice ta l.length tc] 24)).alloc (.cells (natV (List.replicate l.length 0)) 3)) = W1 at *
  have hpd : w.heap.size < w.heap.size + 1 := by omega
  generalize hpe : w.heap.size + 1 = pd at *
  clear hpe
  have HBa := hid Ba
  have HBd := hid Bd
  clear Ba Bd
  go_wp2
  go_loopw [6] (fun s6 wr => ∃ (i : Nat) (xs : List Nat), s6 = .int .i64 (i : Int) ∧ i ≤ l.length ∧ Hid (xs.length = l.length) ∧ Hid (∀ j, j < i → xs[j]? = some 1) ∧ Hid (Blk wr pd 3 (natV xs)) ∧ Hid (Blk wr w.heap.size 24 #[.slice ta l.length tc]) ∧ Hid (Below w.heap.size w wr)) (fun s6 wr => l.length - numAt wr s6)
  case atStart => exact ⟨0, List.replicate l.length 0, rfl, by omega, hid (by simp), hid (fun j hj => by omega), HBd, HBa, hb⟩
  case round =>
    clear HBd HBa hb
    obtain ⟨i, xs, rfl, hi, HXL, HX1, HBd, HBa, hb⟩ := hrel
    by_cases hlt : i < l.length
    · have h2 : (i : Int) < (l.length : Int) := by omega
      obtain ⟨a0, ha0⟩ : ∃ a0, xs[i]? = some a0 := ⟨_, List.getElem?_eq_getElem (show i < xs.length by rw [HXL.out]; exact hlt)⟩
      have cd := HBd.out.cell i _ (natV_get ha0)
      have yd := HBd.out.frozen i
      have zd := HBd.out.lt
      clear ha0
      go_wp2
      exact ⟨⟨i + 1, xs.set i 1, by simp, by omega, hid (by simp [HXL.out]), hid (fun j hj => by
        by_cases e : i = j
        · subst e; exact set_get_eq (by rw [HXL.out]; exact hlt)
        · rw [set_get_ne e]; exact HX1.out j (by omega)), hid ((HBd.out.set i _).is (natV_set xs i 1)), hid (HBa.out.other (a := ⟨pd, i, none⟩) (by simp; omega) _), hid (hb.out.trans ((Keep.setCell (f := fun b => b ≠ pd) wr ⟨pd, i, none⟩ _ (by simp)).below hb.out.size (fun b hb => by omega)))⟩, by simp [numAt]; omega⟩
    · have h2 : ¬ (i : Int) < (l.length : Int) := by omega
      have HDV : Hid (∀ j, j < l.length → xs[j]? = some (dep (gOf l) 0 j)) := hid (fun j hj => by rw [HX1.out j (by omega)]; rfl)
      clear HX1
      go_wp2
      go_loopw [5, 7] (fun s5 s7 wr => ∃ (r p : Nat) (xs : List Nat), s5 = .slice (some ⟨p, 0, none⟩) l.length l.length ∧ s7 = .int .i64 (r : Int) ∧ r ≤ l.length + 1 ∧ w.heap.size < p ∧ Hid (xs.length = l.length) ∧ Hid (∀ j, j < l.length → xs[j]? = some (dep (gOf l) r j)) ∧ Hid (Blk wr p 3 (natV xs)) ∧ Hid (Blk wr w.heap.size 24 #[.slice ta l.length tc]) ∧ Hid (Below w.heap.size w wr)) (fun s5 s7 wr => l.length + 1 - numAt wr s7)
      case atStart => exact ⟨0, pd, xs, rfl, rfl, by omega, hpd, HXL, HDV, HBd, HBa, hb⟩
      case round =>
        clear HXL HDV HBd HBa hb hpd h2 hlt hi
        obtain ⟨r, p, xs, rfl, rfl, hr, hpp, HXL, HDV, HBd, HBa, hb⟩ := hrel
        by_cases hlt : r ≤ l.length
        · have h2 : (r : Int) ≤ (l.length : Int) := by omega
          have zd := HBd.out.lt
          go_upto_region 10 with fail
          have Bq : Blk (wr.alloc (.cells (natV (List.replicate l.length 0)) 3)) wr.heap.size 3 (natV (List.replicate l.length 0)) := Blk.new _ _ _
          replace HBd := hid (HBd.out.kept (below_alloc (.cells (natV (List.replicate l.length 0)) 3)))
          replace HBa := hid (HBa.out.kept (below_alloc (.cells (natV (List.replicate l.length 0)) 3)))
          replace hb : Hid (Below w.heap.size w (wr.alloc (.cells (natV (List.replicate l.length 0)) 3))) := hid (by have := hb.out; exact blBy)
          generalize wr.alloc (.cells (natV (List.replicate l.length 0)) 3) = W3 at *
          generalize wr.heap.size = q at *
          have HBq := hid Bq
          clear Bq HMI
          go_wp2
          go_loopw [9] (fun s9 wr => ∃ (i : Nat) (ys : List Nat), s9 = .int .i64 (i : Int) ∧ i ≤ l.length ∧ Hid (ys.length = l.length) ∧ Hid (∀ j, j < i → ys[j]? = some (dep (gOf l) (r + 1) j)) ∧ Hid (Blk wr q 3 (natV ys)) ∧ Hid (Blk wr p 3 (natV xs)) ∧ Hid (Blk wr w.heap.size 24 #[.slice ta l.length tc]) ∧ Hid (Below w.heap.size w wr)) (fun s9 wr => l.length - numAt wr s9)
          case atStart => exact ⟨0, List.replicate l.length 0, rfl, by omega, hid (by simp), hid (fun j hj => by omega), HBq, HBd, HBa, hb⟩
          case round =>
            clear HBq HBd HBa hb
            obtain ⟨i, ys, rfl, hi, HYL, HYV, HBq, HBd, HBa, hb⟩ := hrel
            by_cases hil : i < l.length
            · have h3 : (i : Int) < (l.length : Int) := by omega
              obtain ⟨a0, ha0⟩ : ∃ a0, ys[i]? = some a0 := ⟨_, List.getElem?_eq_getElem (show i < ys.length by rw [HYL.out]; exact hil)⟩
              have cq := HBq.out.cell i _ (natV_get ha0)
              have yq := HBq.out.frozen i
              have zq := HBq.out.lt
              clear ha0
              go_upto_region 14 with fail
              have HB1 := hid ((HBq.out.set i (.int .i64 1)).is (natV_set ys i 1))
              replace HBd := hid (HBd.out.other (a := ⟨q, i, none⟩) (show p ≠ q by omega) (.int .i64 1))
              replace HBa := hid (HBa.out.other (a := ⟨q, i, none⟩) (show w.heap.size ≠ q by omega) (.int .i64 1))
              replace hb : Hid (Below w.heap.size w (wr.setCell ⟨q, i, none⟩ (.int .i64 1))) := hid (hb.out.trans ((Keep.setCell (f := fun b => b ≠ q) wr ⟨q, i, none⟩ (.int .i64 1) (by simp)).below hb.out.size (fun b hb => by omega)))
              have HY2 : Hid ((ys.set i 1).length = l.length) := hid (by simp [HYL.out])
              have HV2 : Hid (∀ j, j < i → (ys.set i 1)[j]? = some (dep (gOf l) (r + 1) j)) := hid (fun j hj => by rw [set_get_ne (by omega)]; exact HYV.out j hj)
              have HI2 : Hid ((ys.set i 1)[i]? = some 1) := hid (set_get_eq (by rw [HYL.out]; exact hil))
              clear cq yq zq HBq HYL HYV
              generalize wr.setCell ⟨q, i, none⟩ (.int .i64 1) = W4 at *
              generalize ys.set i 1 = zs at *
              have HTY := hid (HT.out.ty _ (List.getElem_mem hil))
              obtain ⟨tb, tof, hta, hbl, -, -, c2, -, -, -⟩ := row6 HT.out.row hil
              subst hta
              replace c2 := cell_below c2 hb.out
              replace hbl : tb < W4.heap.size := World.block_lt_of_cell? _ _ c2
              have HRF := hid (fun f hf h17 => good_ref HG.out hil (f := f) hf h17)
              have HDN : Hid (dep (gOf l) (r + 1) i = (l[i].t.fs).foldl (nxF (dep (gOf l) r)) 1) := hid (by rw [dep_nx, fsOf_at hil])
              generalize l[i] = x at *
              obtain ⟨fa2, fc2, ef, hfl⟩ := rowS_sl HTY.out.f
              have HRW : Hid (RowS w AnyZ 7 (.slice fa2 x.t.fs.length fc2) x.t.fs.length (x.t.fs.flatMap cFT)) := hid (by rw [← ef]; exact HTY.out.f)
              rw [ef] at c2
              clear ef HTY
              have hf63 : (x.t.fs.length : Int) ≤ 9223372036854775807 := by omega
              have xa := HBa.out.cellF
              have za := HBa.out.lt
              go_wp2
              clear xa za c2 hbl
              go_loopw [11] (fun s11 wr => ∃ (j : Nat) (ys : List Nat), s11 = .int .i64 (j : Int) ∧ j ≤ x.t.fs.length ∧ Hid (ys.length = l.length) ∧ Hid (∀ j, j < i → ys[j]? = some (dep (gOf l) (r + 1) j)) ∧ Hid (ys[i]? = some ((x.t.fs.take j).foldl (nxF (dep (gOf l) r)) 1)) ∧ Hid (Blk wr q 3 (natV ys)) ∧ Hid (Blk wr p 3 (natV xs)) ∧ Hid (Blk wr w.heap.size 24 #[.slice (some ⟨tb, tof, none⟩) l.length tc]) ∧ Hid (Below w.heap.size w wr)) (fun s11 wr => x.t.fs.length - numAt wr s11)
              case atStart => exact ⟨0, zs, rfl, by omega, HY2, HV2, HI2, HB1, HBd, HBa, hb⟩
              case round =>
                clear HY2 HV2 HI2 HB1 HBd HBa hb
                obtain ⟨j, vs, rfl, hj, HYL, HYV, HYI, HBq, HBd, HBa, hb⟩ := hrel
                by_cases hjl : j < x.t.fs.length
                · have h4 : (j : Int) < (x.t.fs.length : Int) := by omega
                  obtain ⟨fb, fo, rfl, hbf, c0, c1, c2, c3, c4, c5, c6⟩ := row7 HRW.out hjl
                  clear c0 c1 c4 c5 c6
                  have HTK : Hid ((x.t.fs.take (j + 1)).foldl (nxF (dep (gOf l) r)) 1 = nxF (dep (gOf l) r) ((x.t.fs.take j).foldl (nxF (dep (gOf l) r)) 1) x.t.fs[j]) := hid (by rw [List.take_succ_eq_append_getElem hjl, List.foldl_append]; rfl)
                  have HBD : Hid ((x.t.fs.take j).foldl (nxF (dep (gOf l) r)) 1 ≤ r + 2) := hid (nx_le (dep (gOf l) r) (r + 1) (fun k => dep_le _ _ _) _ _ (by omega))
                  have HRj := hid (HRF.out _ (List.getElem_mem hjl))
                  generalize (x.t.fs.take j).foldl (nxF (dep (gOf l) r)) 1 = av at *
                  replace c2 := cell_below c2 hb.out
                  replace c3 := cell_below c3 hb.out
                  have hbq : fb < wr.heap.size := World.block_lt_of_cell? _ _ c2
                  have fne : fb ≠ q := by omega
                  generalize x.t.fs[j] = f at *
                  by_cases hk : f.kind = 17
                  · have kq : (f.kind == 17) = true := by simpa using hk
                    obtain ⟨r1, r2⟩ := HRj.out hk
                    obtain ⟨kr, hkr⟩ := Int.eq_ofNat_of_zero_le r1
                    have HNX : Hid (nxF (dep (gOf l) r) av f = max av (dep (gOf l) r kr + 1)) := hid (by unfold nxF; rw [if_pos hk, hkr, Int.toNat_natCast])
                    rw [hkr, Int.toNat_natCast] at r2
                    rw [hkr] at c3
                    have k3 : (kr : Int) < (l.length : Int) := by omega
                    have HDL := dep_le (gOf l) r kr
                    have cp := HBd.out.cell kr _ (natV_get (HDV.out kr r2))
                    have cq := HBq.out.cell i _ (natV_get HYI.out)
                    have yq := HBq.out.frozen i
                    have zq := HBq.out.lt
                    have zp := HBd.out.lt
                    replace hk := hid hk
                    clear r1 hkr
                    generalize f.ref = fr at *
                    generalize dep (gOf l) r kr = dv at *
                    have s1 : (dv : Int) + 1 ≤ 9223372036854775807 := by omega
                    have s2 : -9223372036854775808 ≤ (dv : Int) + 1 := by omega
                    go_wp2
                    go_region
                    go_wp2
                    have HMX : Hid (Value.int .i64 (max (av : Int) ((dv : Int) + 1)) = .int .i64 ((max av (dv + 1) : Nat) : Int)) := hid (by congr 1; omega)
                    have hKs : Keep (· ≠ q) wr (wr.setCell ⟨q, i, none⟩ (.int .i64 (max (av : Int) ((dv : Int) + 1)))).drew := (Keep.setCell _ _ _ (by simp)).trans (Keep.ofBelow (below_drew1 _))
                    have HBq2 : Blk (wr.setCell ⟨q, i, none⟩ (.int .i64 (max (av : Int) ((dv : Int) + 1)))).drew q 3 (natV (vs.set i (max av (dv + 1)))) := ((HBq.out.set i (.int .i64 (max (av : Int) ((dv : Int) + 1)))).kept (below_drew1 _)).is (by rw [HMX.out]; exact natV_set vs i _)
                    exact ⟨⟨j + 1, vs.set i (max av (dv + 1)), by simp, by omega, hid (by simp [HYL.out]), hid (fun k hk => by rw [set_get_ne (by omega)]; exact HYV.out k hk), hid (by rw [HTK.out, HNX.out]; exact set_get_eq (by rw [HYL.out]; exact hil)), hid HBq2, hid (HBd.out.keep hKs (by omega)), hid (HBa.out.keep hKs (by omega)), hid (hb.out.trans (hKs.below hb.out.size (fun b hb => by omega)))⟩, by simp [numAt]; omega⟩
                  · have kq : (f.kind == 17) = false := by simpa using hk
                    have HNX : Hid (nxF (dep (gOf l) r) av f = av) := hid (by unfold nxF; rw [if_neg hk])
                    replace hk := hid hk
                    go_wp2
                    exact ⟨⟨j + 1, vs, by simp, by omega, HYL, HYV, hid (by rw [HTK.out, HNX.out]; exact HYI.out), HBq, HBd, HBa, hb⟩, by simp [numAt]; omega⟩
                · have h4 : ¬ (j : Int) < (x.t.fs.length : Int) := by omega
                  have e1 : x.t.fs.take j = x.t.fs := List.take_of_length_le (by omega)
                  rw [e1, ← HDN.out] at HYI
                  clear e1
                  go_wp2
                  exact ⟨⟨i + 1, vs, by simp, by omega, HYL, hid (fun k hk => by
                    by_cases e : k = i
                    · subst e; exact HYI.out
                    · exact HYV.out k (by omega)), HBq, HBd, HBa, hb⟩, by simp [numAt]; omega⟩
            · have h3 : ¬ (i : Int) < (l.length : Int) := by omega
              go_wp2
              exact ⟨⟨r + 1, q, ys, by simp, by simp, by omega, by omega, HYL, hid (fun j hj => HYV.out j (by omega)), HBq, HBa, hb⟩, by simp [numAt]; omega⟩
        · have h2 : ¬ (r : Int) ≤ (l.length : Int) := by omega
          have er : r = l.length + 1 := by omega
          have HVK := hid (HDV.out k HKL.out)
          rw [er] at HVK
          have k3 : (k : Int) < (l.length : Int) := by have := HKL.out; omega
          have HDL := dep_le (gOf l) (l.length + 1) k
          have cp := HBd.out.cell k _ (natV_get HVK.out)
          have zp := HBd.out.lt
          have xa := HBa.out.cellF
          have za := HBa.out.lt
          clear er HVK HDV
          generalize dep (gOf l) (l.length + 1) k = dv at *
          by_cases hgt : l.length < dv
          · rw [if_pos hgt] at HX
            have kg : ((l.length : Int) < (dv : Int)) = True := eq_true (by omega)
            have kg2 : (l.length < dv) = True := eq_true hgt
            clear hgt
            go_wp2
            go_region
            go_wp2
            go_ret
            exact ⟨by rw [HX.out]; rfl, by have := hb.out; exact blBy⟩
          · rw [if_neg hgt] at HX
            have kg : ((l.length : Int) < (dv : Int)) = False := eq_false (by omega)
            have kg2 : (l.length < dv) = False := eq_false hgt
            clear hgt
            go_wp2
            go_region
            go_wp2
            go_ret
            exact ⟨by rw [HX.out]; rfl, by have := hb.out; exact blBy⟩
set_option maxHeartbeats 1000000
theorem isR (w : World) (l : List TV) (ta : Option Addr) (tc : Nat) (h : TbR w (.slice ta l.length tc) l) (hk : ∀ x ∈ l, OkV x) (hz : ∀ x ∈ l, x.t.name.length < 4000000) (idx : Int) : Calls Tryd.prog 19 #[.agg #[.slice ta l.length tc], .int .i64 idx] w fun e w' => e = .returned (.bool (isB l idx false)) ∧ Below w.heap.size w w' := by
  obtain ⟨_, _, e, hn⟩ := rowS_sl h.row
  clear e
  have h63 : (l.length : Int) ≤ 9223372036854775807 := by omega
  have HX : Hid (isB l idx false = (goodB l && (decide (0 ≤ idx) && (match l[idx.toNat]? with | some x => x.t.enum == false | none => false)))) := hid rfl
  have HGC : Hid (∀ W, Below w.heap.size w W → Calls Tryd.prog 15 #[.agg #[.slice ta l.length tc]] W fun e w' => e = .returned (.bool (goodB l)) ∧ Below W.heap.size W w') := hid fun W hW => by
    have := goodR W l ta tc (h.kept hW) hk hz
    rw [goodEq l hk] at this
    exact this
  clear hk hz
  generalize isB l idx false = res at *
  cases q : goodB l with
  | false =>
    rw [q] at HGC HX
    clear h
    go_enter Tryd.func19, Tryd.ntmps19
    go_wp2_with fail
    refine (HGC.out _ (by exact blBy)).mono ?_
    rintro e w1 ⟨rfl, hb1⟩
    have Ba : Blk w1 w.heap.size 24 #[.slice ta l.length tc] := (Blk.new _ _ _).kept hb1
    replace hb1 : Hid (Below w.heap.size w w1) := hid (bl_then (by exact blBy) hb1)
    have xa := Ba.cellF
    have za := Ba.lt
    go_wp2
    go_ret
    exact ⟨ret_bool (HX.out.symm), hb1.out⟩
  | true =>
  rw [q, Bool.true_and] at HX
  rw [q] at HGC
  by_cases r1 : 0 ≤ idx
  case neg =>
    have r2 : (0 ≤ idx) = False := eq_false r1
    rw [decide_eq_false r1, Bool.false_and] at HX
    clear h r1
    go_enter Tryd.func19, Tryd.ntmps19
    go_wp2_with fail
    refine (HGC.out _ (by exact blBy)).mono ?_
    rintro e w1 ⟨rfl, hb1⟩
    have Ba : Blk w1 w.heap.size 24 #[.slice ta l.length tc] := (Blk.new _ _ _).kept hb1
    replace hb1 : Hid (Below w.heap.size w w1) := hid (bl_then (by exact blBy) hb1)
    have xa := Ba.cellF
    have za := Ba.lt
    go_wp2
    go_ret
    exact ⟨ret_bool (HX.out.symm), hb1.out⟩
  obtain ⟨k, rfl⟩ := Int.eq_ofNat_of_zero_le r1
  rw [decide_eq_true r1, Bool.true_and, Int.toNat_natCast] at HX
  have r2 : (0 ≤ (k : Int)) = True := eq_true r1
  by_cases r3 : k < l.length
  case neg =>
    have r4 : ((k : Int) < (l.length : Int)) = False := eq_false (by omega)
    rw [List.getElem?_eq_none (by omega)] at HX
    clear h r1 r3
    go_enter Tryd.func19, Tryd.ntmps19
    go_wp2_with fail
    refine (HGC.out _ (by exact blBy)).mono ?_
    rintro e w1 ⟨rfl, hb1⟩
    have Ba : Blk w1 w.heap.size 24 #[.slice ta l.length tc] := (Blk.new _ _ _).kept hb1
    replace hb1 : Hid (Below w.heap.size w w1) := hid (bl_then (by exact blBy) hb1)
    have xa := Ba.cellF
    have za := Ba.lt
    go_wp2
    go_ret
    exact ⟨ret_bool (HX.out.symm), hb1.out⟩
  have r4 : ((k : Int) < (l.length : Int)) = True := eq_true (by omega)
  have r5 : (k : Int) < (l.length : Int) := by omega
  obtain ⟨tb, tof, rfl, hbl, -, c1, -⟩ := row6 h.row r3
  rw [List.getElem?_eq_getElem r3] at HX
  dsimp only at HX
  clear h r1
  generalize l[k].t.enum = en at *
  clear r3
  go_enter Tryd.func19, Tryd.ntmps19
  go_wp2_with fail
  refine (HGC.out _ (by exact blBy)).mono ?_
  rintro e w1 ⟨rfl, hb1⟩
  have Ba : Blk w1 w.heap.size 24 #[.slice (some ⟨tb, tof, none⟩) l.length tc] := (Blk.new _ _ _).kept hb1
  replace hb1 : Hid (Below w.heap.size w w1) := hid (bl_then (by exact blBy) hb1)
  have d1 := cell_below c1 hb1.out
  have hbl1 : tb < w1.heap.size := World.block_lt_of_cell? _ _ d1
  clear c1
  have xa := Ba.cellF
  have za := Ba.lt
  go_wp2
  go_ret
  exact ⟨ret_bool (by rw [HX.out]; cases en <;> rfl), hb1.out⟩
end Go.Proofs.YtbiohlfcikdldaaDoor
