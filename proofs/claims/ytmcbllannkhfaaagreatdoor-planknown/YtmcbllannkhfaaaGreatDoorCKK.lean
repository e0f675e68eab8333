/-
  Rows, sorted.
  An enum's rows.
  A type's block.
  LowerType.
  Steps and rows compared.
  Blocks that are the same: the document's question.
-/
import Derived.Test.YtmcbllannkhfaaaGreatDoorCTY
import Derived.Test.YtmcbllannkhfaaaGreatDoorShelf
import Derived.Test.YtmcbllannkhfaaaGreatDoorShelfS
import Derived.Sort.OwnSortedInts
import Derived.Test.YtmcbllannkhfaaaGreatDoorCKF
import Derived.Laws.StructEq
namespace Go.Proofs.YtmcbllannkhfaaaGreatDoor
open Go.RowKit
set_option maxRecDepth 1000000
set_option linter.unusedVariables false
set_option linter.unusedSimpArgs false
set_option maxHeartbeats 1000000
theorem Tryz.infoPL : (Tryz.prog.info? 41).map (fun i => (i.zero, i.size, i.bytes)) = some (some (.agg #[.int .i64 0, .int .i64 0]), 2, 16) := by kernel_rfl
theorem appendPL (base : Nat) (v : Value) (l : List LN) (y : LN) (w : World) (h : w.ownsRow base 41 2 v l.length (l.flatMap cLN)) (hb : base ≤ w.heap.size) (hn : l.length ≤ 4000000) :
    ∃ a c w', Hid ((Builtin.append_ #[23, 23] 23 #[v, .slice (some ⟨w.heap.size, 0, none⟩) 1 1]).run Tryz.prog (w.alloc (.cells #[.int .i64 y.tag, .int .i64 y.pl] 41)) = .ok (.slice a (l.length + 1) c) w') ∧ Hid (w'.ownsRow base 41 2 (.slice a (l.length + 1) c) (l ++ [y]).length ((l ++ [y]).flatMap cLN)) ∧ Hid (Grow w w' v (.slice a (l.length + 1) c)) := by
  obtain ⟨v', w', h1, h2, h3⟩ := append_st 41 23 2 16 (.agg #[.int .i64 0, .int .i64 0]) Tryz.underlying23 Tryz.infoPL rfl (by decide) (by decide) base v l.length (l.flatMap cLN) w #[.int .i64 y.tag, .int .i64 y.pl] rfl (fun u hu => by simp at hu; rcases hu with rfl | rfl <;> rfl) h hb hn
  obtain ⟨a, c, rfl⟩ := own_shape h2
  exact ⟨a, c, w', hid h1, hid (by rw [List.flatMap_append, List.length_append]; exact h2), hid h3⟩
theorem cLN_len (x : LN) : (cLN x).length = 2 := rfl
theorem flatK_list [Inhabited LN] (d : Array LN) : (Go.Sort.flatK cLN 2 d).toList = d.toList.flatMap cLN := by
  apply List.ext_getElem?
  intro t
  by_cases ht : t < d.size * 2
  · have h1 : t / 2 < d.toList.length := by rw [Array.length_toList]; omega
    have h2 := flatM_get (g := cLN) cLN_len d.toList (t / 2) (t % 2) (d.toList[t / 2]) (cLN d.toList[t / 2])[t % 2]! (List.getElem?_eq_getElem h1) (by
      have : t % 2 = 0 ∨ t % 2 = 1 := by omega
      rcases this with e | e <;> rw [e] <;> rfl)
    rw [show t / 2 * 2 + t % 2 = t by omega] at h2
    rw [h2, Array.getElem?_toList, Array.getElem?_eq_getElem (by simpa using ht)]
    congr 1
    have h3 := Go.Sort.get_flatK cLN 2 d t ht
    rw [getElem!_pos _ t (by simpa using ht)] at h3
    rw [h3, getElem!_pos d (t / 2) (by rw [Array.length_toList] at h1; exact h1)]
    rfl
  · rw [List.getElem?_eq_none (by simp; omega), List.getElem?_eq_none (by rw [flatM_len cLN_len]; simp; omega)]
theorem rowCmpT (x y : LN) (W : World) : Calls Tryz.prog 68 #[.agg #[.int .i64 x.tag, .int .i64 x.pl], .agg #[.int .i64 y.tag, .int .i64 y.pl]] W fun e w' => e = .returned (.int .i64 (Lib.compareInt x.tag y.tag)) ∧ ∃ q os', w' = Go.Sort.grow (W.drewN q) os' := by
  have hcon := fun W' => Tryz.cmp_Compare_int x.tag y.tag W'
  generalize Lib.compareInt x.tag y.tag = r at hcon ⊢
  go_enter Tryz.func68, Tryz.ntmps68
  go_wp2_with (go_at_call 69; refine (hcon _).mono ?_; rintro e w' ⟨rfl, rfl⟩)
  go_ret
  exact ⟨rfl, 0, _, by rw [Go.Sort.alloc_eq_grow, Go.Sort.alloc_eq_grow, Go.Sort.grow_grow]; rfl⟩
theorem ltLn (x y : LN) : Go.Proofs.ltOf (fun x y : LN => Lib.compareInt x.tag y.tag) x y = decide (x.tag < y.tag) := by
  unfold Go.Proofs.ltOf Lib.compareInt
  by_cases h1 : x.tag < y.tag
  · simp [h1]
  · by_cases h2 : y.tag < x.tag <;> simp [h1, h2]
theorem swoLn : Go.Sort.SWO (Go.Proofs.ltOf fun x y : LN => Lib.compareInt x.tag y.tag) where
  irrefl x := by rw [ltLn]; simp
  trans x y z h1 h2 := by rw [ltLn] at *; simp at *; omega
  ntrans x y z h1 h2 := by rw [ltLn] at *; simp at *; omega
theorem cfR (args : Array Value) (W : World) : (callFunc 68 args).run Tryz.prog W = .ok (.enter 68 args) W := Go.Proofs.enters_of Tryz.func68 (by kernel_rfl) rfl args W
theorem sortT [Inhabited LN] (w : World) (base g cap : Nat) (ls : List LN) (h : w.ownsRow base 41 2 (.slice (some ⟨g, 0, none⟩) ls.length cap) ls.length (ls.flatMap cLN)) (hn : ls.length ≤ 4000000) : Calls Tryz.prog 67 #[.slice (some ⟨g, 0, none⟩) ls.length cap, .func (.func 68) #[] #[]] w fun e w' => e = .returned (.tuple #[]) ∧ ∃ ls' : List LN, Hid (ls'.Perm ls ∧ ls'.Pairwise (fun a b => a.tag ≤ b.tag)) ∧ Hid (w'.ownsRow base 41 2 (.slice (some ⟨g, 0, none⟩) ls.length cap) ls.length (ls'.flatMap cLN)) ∧ Hid (Keep (· ≠ g) w w') := by
  rcases h.2 with ⟨e, _⟩ | ⟨g', cap', cur, e, hbg, hgg, hnc, hcm, hcs, htk⟩
  · cases e
  cases e
  have hfl := h.1
  have hH : Go.Sort.HoldsK cLN 2 w g 0 ls.toArray := by
    intro j hj
    have hj' : j < ls.length * 2 := by simpa using hj
    refine ⟨?_, by simp [World.frozen?, hgg]⟩
    have e1 : (Go.Sort.flatK cLN 2 ls.toArray)[j]? = (ls.flatMap cLN)[j]? := by rw [← Array.getElem?_toList, flatK_list]
    have e2 : (ls.flatMap cLN)[j]? = cur.toList[j]? := by rw [← htk, List.getElem?_take_of_lt hj']
    rw [getElem!_pos _ j hj]
    rw [Array.getElem?_eq_getElem hj] at e1
    simp only [World.cell?, hgg, Nat.zero_add, Option.isSome_none, Bool.false_eq_true, if_false, id]
    rw [← Array.getElem?_toList, ← e2, ← e1]
  have hcon := Go.Proofs.AnyQ.slices_SortFunc Tryz.sortLn 2 Tryz.isAgg41 Tryz.sizeOf41 cLN cLN_len (fun x v hv => by simp [cLN] at hv; rcases hv with rfl | rfl <;> rfl) (fun x y => Lib.compareInt x.tag y.tag) swoLn 68 #[] g 0 cap ls.toArray w cfR (fun _ _ _ _ x y => rowCmpT x y _) hH (Array.getElem?_eq_some_iff.1 hgg).1 (by simp; omega)
  have hsz : ls.toArray.size = ls.length := by simp
  rw [hsz] at hcon
  refine hcon.mono ?_
  rintro e w' ⟨rfl, d', n, os, hp, hs, rfl⟩
  have hd : d'.size = ls.length := by have := hp.1; simpa using this
  refine ⟨rfl, d'.toList, hid ⟨?_, ?_⟩, hid ⟨?_, .inr ⟨g, cap, Go.Sort.putCells id 0 (Go.Sort.flatK cLN 2 d') cur, rfl, hbg, ?_, hnc, hcm, by simp [Go.Sort.putCells, hcs], ?_⟩⟩, hid ?_⟩
  · have := hp.2.2
    rw [Array.extract_eq_self_of_le (by omega), Array.extract_eq_self_of_le (by simp)] at this
    simpa using this
  · rw [List.pairwise_iff_getElem]
    intro i j hi hj hij
    have := hs i j (by omega) hij (by rw [Array.length_toList] at hj; omega)
    rw [ltLn, getElem!_pos d' i (by rw [Array.length_toList] at hi; exact hi), getElem!_pos d' j (by rw [Array.length_toList] at hj; exact hj)] at this
    simp at this
    simpa using this
  · rw [flatM_len cLN_len]; simp [hd]
  · have hg : g < w.heap.size := (Array.getElem?_eq_some_iff.1 hgg).1
    unfold Go.Proofs.sortWorldK Go.Sort.putRowK
    rw [Go.Sort.heap_grow_old _ _ (by simpa using hg)]
    simp [Go.Sort.putRow, Go.Sort.mapBlock, Go.Sort.ahead, Array.getElem?_modify, hgg, Go.Sort.onCells]
  · apply List.ext_getElem?
    intro j
    by_cases hj : j < ls.length * 2
    · rw [List.getElem?_take_of_lt hj, Array.getElem?_toList, ← flatK_list, Array.getElem?_toList]
      have h1 : j < cur.size := by omega
      have h2 : j < (Go.Sort.flatK cLN 2 d').size := by simp [hd]; omega
      rw [Array.getElem?_eq_getElem h2]
      simp [Go.Sort.putCells, h1, hd, hj]
    · rw [List.getElem?_take_eq_none (by omega), List.getElem?_eq_none (by rw [flatM_len cLN_len]; simp [hd]; omega)]
  · unfold Go.Proofs.sortWorldK Go.Sort.putRowK
    refine ⟨rfl, rfl, rfl, by simp, fun k hk hne => ?_⟩
    rw [Go.Sort.heap_grow_old _ _ (by simpa using hk)]
    simp [Go.Sort.putRow, Go.Sort.mapBlock, Go.Sort.ahead, Array.getElem?_modify]
    intro e
    exact absurd e.symm hne
def rowsL (ss : List SY) : List LN := (ss.map (fun s => (⟨s.num, 0⟩ : LN))).mergeSort (fun a b => decide (a.tag ≤ b.tag))
theorem rowsL_perm (ss : List SY) : (rowsL ss).Perm (ss.map (fun s => (⟨s.num, 0⟩ : LN))) := List.mergeSort_perm _ _
theorem rowsL_sort (ss : List SY) : (rowsL ss).Pairwise (fun a b => a.tag ≤ b.tag) := by
  have := List.pairwise_mergeSort (le := fun a b : LN => decide (a.tag ≤ b.tag)) (fun a b c h1 h2 => by simp at *; omega) (fun a b => by simp; omega) (ss.map (fun s => (⟨s.num, 0⟩ : LN)))
  exact this.imp (fun h => by simpa using h)
theorem rowsL_eq (ss : List SY) (l : List LN) (h1 : l.Perm (ss.map (fun s => (⟨s.num, 0⟩ : LN)))) (h2 : l.Pairwise (fun a b => a.tag ≤ b.tag)) : l = rowsL ss := by
  have z : ∀ x ∈ ss.map (fun s => (⟨s.num, 0⟩ : LN)), x.pl = 0 := by
    intro x hx
    simp at hx
    obtain ⟨_, _, rfl⟩ := hx
    rfl
  refine List.Perm.eq_of_pairwise (le := fun a b : LN => a.tag ≤ b.tag) (fun a b ha hb q1 q2 => ?_) h2 (rowsL_sort ss) (h1.trans (rowsL_perm ss).symm)
  have := z a (h1.mem_iff.1 ha)
  have := z b ((rowsL_perm ss).mem_iff.1 hb)
  cases a
  cases b
  simp at *
  omega
theorem rowsOfT (w : World) (ss : List SY) (sa : Option Addr) (sc : Nat) (hs : RowS w (· < w.heap.size) 2 (.slice sa ss.length sc) ss.length (ss.flatMap cSY)) (h0 : 0 < ss.length) (hn : ss.length ≤ 128) : Calls Tryz.prog 42 #[.slice sa ss.length sc] w fun e w' => ∃ a c, e = .returned (.slice a (rowsL ss).length c) ∧ w'.ownsRow w.heap.size 41 2 (.slice a (rowsL ss).length c) (rowsL ss).length ((rowsL ss).flatMap cLN) ∧ Below w.heap.size w w' := by
  have HR := hid hs
  clear hs
  go_enter Tryz.func42, Tryz.ntmps42
  go_wp2_with fail
  have h63 : (ss.length : Int) ≤ 9223372036854775807 := by omega
  go_loopw [3, 8] (fun o r wr => ∃ (j : Nat) (oa : Option Addr) (oc : Nat), r = .int .i64 j ∧ o = .slice oa j oc ∧ j ≤ ss.length ∧ Hid (wr.ownsRow w.heap.size 41 2 (.slice oa j oc) j (((ss.take j).map (fun s => (⟨s.num, 0⟩ : LN))).flatMap cLN)) ∧ Hid (Below w.heap.size w wr)) (fun o r wr => ss.length - numAt wr r)
  case atStart => exact ⟨0, none, 0, rfl, rfl, by omega, hid (World.ownsRow_nil _ _ _ _), hid (Below.refl _ _)⟩
  case round =>
    obtain ⟨j, oa, oc, rfl, rfl, hj, HO, hb⟩ := hrel
    by_cases hlt : j < ss.length
    · have h2 : (j : Int) < (ss.length : Int) := by omega
      obtain ⟨fb, fo, rfl, hc⟩ := rowAt (g := cSY) (fun _ => rfl) (HR.out.keep (f := fun _ => True) (Keep.ofBelow hb.out) (fun _ _ => trivial)) (i := j) (x := ss[j]) (by simp [hlt])
      have c0 := hc 0 _ rfl
      have c1 := hc 1 _ rfl
      clear hc
      simp only [Nat.add_zero] at c0
      have hfb : fb < wr.heap.size := World.block_lt_of_cell? _ _ c0
      have HTK : Hid ((ss.take (j + 1)).map (fun s => (⟨s.num, 0⟩ : LN)) = (ss.take j).map (fun s => (⟨s.num, 0⟩ : LN)) ++ [⟨ss[j].num, 0⟩]) := hid (by rw [List.take_succ_eq_append_getElem hlt, List.map_append]; rfl)
      have HLJ : Hid (((ss.take j).map (fun s => (⟨s.num, 0⟩ : LN))).length = j) := hid (by rw [List.length_map, List.length_take]; omega)
      generalize ss[j] = x at *
      generalize (ss.take j).map (fun s => (⟨s.num, 0⟩ : LN)) = ls at *
      have hlj := HLJ.out
      have HO1 : (wr.alloc (.cells #[.string (strOfNums x.name), .int .i64 x.num] 61)).ownsRow w.heap.size 41 2 (.slice oa j oc) ls.length (ls.flatMap cLN) := by
        rw [hlj]
        exact own_kept HO.out (below_alloc _)
      obtain ⟨la, lc, x1, HRUN, HV2, HG1⟩ := appendPL w.heap.size _ ls ⟨x.num, 0⟩ _ HO1 (by have := hb.out.size; simp; omega) (by omega)
      rw [hlj] at HRUN HV2 HG1
      have hsz : (wr.alloc (.cells #[.string (strOfNums x.name), .int .i64 x.num] 61)).heap.size = wr.heap.size + 1 := by simp
      rw [hsz] at HRUN
      clear hsz
      have HB1 : Hid (Below w.heap.size w x1) := hid (Below.trans (by have := hb.out; exact blBy) (grow_bel HG1.out HO1 (Nat.le_refl _) (by have := hb.out.size; simp; omega)))
      clear HO1 hlj
      go_wp2_with (first | (at_builtin; refine wpList_append_ran rfl _ _ 23 23 rfl rfl _ _ (.slice la (j + 1) lc) x1 rfl rfl HRUN.out ?_))
      exact ⟨⟨j + 1, la, lc, by simp, rfl, by omega, hid (by rw [HTK.out]; have := HV2.out; rw [List.length_append, HLJ.out] at this; exact this), HB1⟩, by simp [numAt]; omega⟩
    · have h2 : ¬ (j : Int) < (ss.length : Int) := by omega
      have ej : j = ss.length := by omega
      subst ej
      have e1 : ss.take ss.length = ss := List.take_length
      rw [e1] at HO
      have HLJ : Hid ((ss.map (fun s => (⟨s.num, 0⟩ : LN))).length = ss.length) := hid (by rw [List.length_map])
      have HRL : Hid ((rowsL ss).length = ss.length) := hid (by rw [(rowsL_perm ss).length_eq, List.length_map])
      obtain ⟨g, eg⟩ : ∃ g, oa = some ⟨g, 0, none⟩ := by
        rcases HO.out.2 with ⟨e, q⟩ | ⟨g, cap, cur, e, _⟩
        · omega
        · cases e
          exact ⟨g, rfl⟩
      subst eg
      have inh : Inhabited LN := ⟨⟨0, 0⟩⟩
      have HSO := sortT wr w.heap.size g oc (ss.map (fun s => (⟨s.num, 0⟩ : LN))) (by rw [HLJ.out]; exact HO.out) (by rw [HLJ.out]; omega)
      rw [HLJ.out] at HSO
      have HG : Hid (w.heap.size ≤ g) := hid (own_type HO.out rfl).1
      go_wp2_with fail
      refine HSO.mono ?_
      rintro e w2 ⟨rfl, ls', hp, ho2, hk2⟩
      have e3 := rowsL_eq ss ls' hp.out.1 hp.out.2
      subst e3
      have HB2 : Hid (Below w.heap.size w w2) := hid (hb.out.trans (hk2.out.below hb.out.size (fun k hk e => by have := HG.out; omega)))
      go_wp2
      go_ret
      exact ⟨some ⟨g, 0, none⟩, oc, by rw [HRL.out]; rfl, by rw [HRL.out]; exact ho2.out, HB2.out⟩
structure BK where
  dec : List IN
  enc : List IN
  rows : List LN
/-- A block of one's own. -/
structure BkO (w : World) (base : Nat) (k : BK) (d e r : Value) : Prop where
  hd : w.ownsRow base 57 5 d k.dec.length (k.dec.flatMap cIN)
  he : w.ownsRow base 57 5 e k.enc.length (k.enc.flatMap cIN)
  hr : w.ownsRow base 41 2 r k.rows.length (k.rows.flatMap cLN)
  ap : ∀ b, d.ownBlock = some b → e.ownBlock ≠ some b
theorem BkO.kept {w w' : World} {base : Nat} {k : BK} {d e r : Value} (h : BkO w base k d e r) (g : Below w.heap.size w w') : BkO w' base k d e r := ⟨own_kept h.hd g, own_kept h.he g, own_kept h.hr g, h.ap⟩
theorem BkO.mono {w : World} {base base' : Nat} {k : BK} {d e r : Value} (h : BkO w base k d e r) (g : base' ≤ base) : BkO w base' k d e r := ⟨own_mono h.hd g, own_mono h.he g, own_mono h.hr g, h.ap⟩
def loBK (t : TT) : BK := if t.enum = true then ⟨[], [], rowsL t.ss⟩ else ⟨decL t.fs, encL t.fs, []⟩
def BlkA (w : World) (k : BK) (e : Ending) (w' : World) : Prop := ∃ da dc ea ec ra rc, e = .returned (.agg #[.slice da k.dec.length dc, .slice ea k.enc.length ec, .slice ra k.rows.length rc]) ∧ BkO w' w.heap.size k (.slice da k.dec.length dc) (.slice ea k.enc.length ec) (.slice ra k.rows.length rc) ∧ Below w.heap.size w w'
theorem rowOldP {w : World} {Z : Nat → Prop} {k : Nat} {v : Value} {n : Nat} {fl : List Value} (hk : 0 < k) (h : RowS w Z k v n fl) : RowS w (fun b => b < w.heap.size) k v n fl := by
  obtain ⟨a, c, e, h⟩ := h
  refine ⟨a, c, e, h.length, h.le, h.max, ?_⟩
  rcases h.cells with h0 | ⟨b, off, rfl, hz, hc⟩
  · exact .inl h0
  · by_cases hn : n = 0
    · exact .inl ⟨hn, fun q => by cases q⟩
    · have hlt : 0 < fl.length := by rw [h.length]; exact Nat.mul_pos (by omega) hk
      exact .inr ⟨b, off, rfl, World.block_lt_of_cell? _ _ (hc 0 _ (List.getElem?_eq_getElem hlt)), hc⟩
theorem goodP_at {l : List TV} (hg : goodB l = true) {k : Nat} (hk : k < l.length) : stepB l k l[k].t = true := by
  unfold goodB at hg
  rw [Bool.and_eq_true] at hg
  have : ∀ (r : List TV) (i j : Nat), goodA l r i = true → (hj : j < r.length) → stepB l (i + j) r[j].t = true := by
    intro r
    induction r with
    | nil => intro i j _ hj; simp at hj
    | cons x r ih =>
      intro i j h hj
      rw [goodA, Bool.and_eq_true] at h
      cases j with
      | zero => exact h.1
      | succ j =>
        have := ih (i + 1) j h.2 (by simpa using hj)
        rw [show i + (j + 1) = i + 1 + j by omega]
        exact this
  have := this l 0 k hg.2 hk
  rw [Nat.zero_add] at this
  exact this
theorem goodP_len {l : List TV} (hg : goodB l = true) : l.length ≤ 128 := by
  unfold goodB at hg
  rw [Bool.and_eq_true, decide_eq_true_eq] at hg
  exact hg.1
theorem riseP_max : ∀ (fs : List FT) (z : Int), riseA fs z = true → z ≤ 536870911 ∧ ∀ f ∈ fs, f.num ≤ 536870911
  | [], z, h => ⟨by simpa [riseA] using h, by simp⟩
  | f :: r, z, h => by
    rw [riseA] at h
    by_cases hq : f.num ≤ z
    · rw [if_pos hq] at h; cases h
    · rw [if_neg hq] at h
      obtain ⟨h1, h2⟩ := riseP_max r f.num h
      refine ⟨by omega, fun g hg => ?_⟩
      rcases List.mem_cons.1 hg with rfl | hg
      · exact h1
      · exact h2 g hg
theorem fldP {l : List TV} {n : Nat} {f : FT} (h : fldB l n f = true) (hl : l.length ≤ 128) : (1 ≤ f.kind ∧ f.kind ≤ 17) ∧ (0 ≤ f.ref ∧ f.ref < 128) ∧ (0 ≤ f.lab ∧ f.lab ≤ 5) := by
  unfold fldB at h
  simp only [Bool.and_eq_true, decide_eq_true_eq] at h
  refine ⟨h.1, ?_, ?_⟩
  · have h2 := h.2.1
    unfold refB at h2
    by_cases hk : f.kind = 16 ∨ f.kind = 17
    · rw [if_pos hk] at h2
      cases hq : l[f.ref.toNat]? with
      | none => rw [hq] at h2; cases h2
      | some x =>
        rw [hq] at h2
        simp only [Bool.and_eq_true, decide_eq_true_eq] at h2
        have := (List.getElem?_eq_some_iff.1 hq).1
        omega
    · rw [if_neg hk, decide_eq_true_eq] at h2
      omega
  · have h3 := h.2.2.1
    unfold labB at h3
    by_cases h0 : f.lab = 0
    · omega
    · rw [if_neg h0] at h3
      by_cases h4 : f.lab = 3
      · omega
      · rw [if_neg h4, decide_eq_true_eq] at h3
        omega
theorem goodP_msg {l : List TV} (hg : goodB l = true) {k : Nat} (hk : k < l.length) (he : l[k].t.enum = false) : l[k].t.fs.length ≤ 128 ∧ Rise l[k].t.fs ∧ ∀ f ∈ l[k].t.fs, FOk f := by
  have h := goodP_at hg hk
  have hl := goodP_len hg
  unfold stepB typB msgB at h
  rw [he] at h
  simp only [Bool.and_eq_true, decide_eq_true_eq] at h
  have h2 := h.2.2.2
  simp only [Bool.false_eq_true, if_false, Bool.and_eq_true, decide_eq_true_eq, List.all_eq_true] at h2
  have hr := rise_all _ 0 h2.2.2.2.1
  have hm := riseP_max _ 0 h2.2.2.2.1
  refine ⟨h2.2.1.1, hr.2, fun f hf => ?_⟩
  obtain ⟨a, b, c⟩ := fldP (h2.2.2.1 f hf) hl
  exact ⟨⟨by have := hr.1 f hf; omega, hm.2 f hf⟩, a, c, b⟩
theorem goodP_enum {l : List TV} (hg : goodB l = true) {k : Nat} (hk : k < l.length) (he : l[k].t.enum = true) : 0 < l[k].t.ss.length ∧ l[k].t.ss.length ≤ 128 := by
  have h := goodP_at hg hk
  unfold stepB typB at h
  rw [he] at h
  simp only [Bool.and_eq_true, if_true] at h
  have h2 := h.2.2.2.2
  cases hs : l[k].t.ss with
  | nil => rw [hs] at h2; cases h2
  | cons s r =>
    rw [hs] at h2
    unfold symB at h2
    simp only [Bool.and_eq_true, decide_eq_true_eq] at h2
    exact ⟨by simp, h2.1⟩
theorem cellO3 {w : World} {b i g j1 j2 j3 : Nat} {v u1 u2 u3 : Value} (h : w.cell? ⟨b, i, none⟩ = some v) (hne : b ≠ g) : (((w.setCell ⟨g, j1, none⟩ u1).setCell ⟨g, j2, none⟩ u2).setCell ⟨g, j3, none⟩ u3).cell? ⟨b, i, none⟩ = some v := cellOth (cellOth (cellOth h hne) hne) hne
theorem own_set {w : World} {base e size n : Nat} {v u : Value} {fl : List Value} (h : w.ownsRow base e size v n fl) {q i : Nat} (hq : q < base) : (w.setCell ⟨q, i, none⟩ u).ownsRow base e size v n fl :=
  own_keep (f := (· ≠ q)) h (fun k hk e => by have := (own_type h hk).1; omega) (Keep.setCell _ _ _ (fun h => h rfl))
theorem blockOfE (w : World) (t : TT) (fa oa sa ra : Option Addr) (fc oc sc rc : Nat) (he : t.enum = true) (hs : RowS w AnyZ 2 (.slice sa t.ss.length sc) t.ss.length (t.ss.flatMap cSY)) (h0 : 0 < t.ss.length ∧ t.ss.length ≤ 128) : Calls Tryz.prog 22 #[.agg #[.string (strOfNums t.name), .bool true, .slice fa t.fs.length fc, .slice oa t.os.length oc, .slice sa t.ss.length sc, .slice ra t.rs.length rc]] w (BlkA w (loBK t)) := by
  have HX : Hid (loBK t = ⟨[], [], rowsL t.ss⟩) := hid (by unfold loBK; rw [if_pos he])
  have HRO : Hid (∀ W, Below w.heap.size w W → Calls Tryz.prog 42 #[.slice sa t.ss.length sc] W fun e w' => ∃ a c, e = .returned (.slice a (rowsL t.ss).length c) ∧ w'.ownsRow W.heap.size 41 2 (.slice a (rowsL t.ss).length c) (rowsL t.ss).length ((rowsL t.ss).flatMap cLN) ∧ Below W.heap.size W w') := hid fun W hW => rowsOfT W t.ss sa sc (rowOldP (by decide) (hs.kept hW)) h0.1 h0.2
  clear hs h0 he
  go_enter Tryz.func22, Tryz.ntmps22
  go_wp2_with fail
  refine (HRO.out _ (by exact blBy)).mono ?_
  rintro e w1 ⟨a1, c1, rfl, ho, hb1⟩
  have HO := hid ho
  have Br : Blk w1 (w.heap.size + 1) 25 #[.slice none 0 0, .slice none 0 0, .slice none 0 0] := (Blk.newAt (by simp)).kept hb1
  replace hb1 : Hid (Below w.heap.size w w1) := hid (bl_then (by exact blBy) hb1)
  have xr := Br.cellF
  have yr := Br.frz
  have zr := Br.lt
  clear ho
  go_wp2
  refine bodyPost_ret (v := .agg #[.slice none 0 0, .slice none 0 0, .slice a1 (rowsL t.ss).length c1]) (by simp [results, Tryz.results22, go_sem, xr, zr, yr]) rfl ?_
  rw [HX.out]
  refine ⟨none, 0, none, 0, a1, c1, rfl, ⟨World.ownsRow_nil _ _ _ _, World.ownsRow_nil _ _ _ _, own_mono (own_set (own_set (own_set HO.out (by simp)) (by simp)) (by simp)) (by simp; omega), fun b hb => by simp [Value.ownBlock] at hb⟩, by have := hb1.out; exact blBy⟩
theorem blockOfM (w : World) (t : TT) (fa oa sa ra : Option Addr) (fc oc sc rc : Nat) (he : t.enum = false) (hs : RowS w AnyZ 7 (.slice fa t.fs.length fc) t.fs.length (t.fs.flatMap cFT)) (hf : ∀ f ∈ t.fs, FOk f) (hl : t.fs.length ≤ 128) : Calls Tryz.prog 22 #[.agg #[.string (strOfNums t.name), .bool false, .slice fa t.fs.length fc, .slice oa t.os.length oc, .slice sa t.ss.length sc, .slice ra t.rs.length rc]] w (BlkA w (loBK t)) := by
  have HX : Hid (loBK t = ⟨decL t.fs, encL t.fs, []⟩) := hid (by unfold loBK; rw [if_neg (by rw [he]; simp)])
  have HD : Hid (∀ W, Below w.heap.size w W → Calls Tryz.prog 43 #[.agg #[.string (strOfNums t.name), .bool false, .slice fa t.fs.length fc, .slice oa t.os.length oc, .slice sa t.ss.length sc, .slice ra t.rs.length rc]] W (StepsR W (decL t.fs))) := hid fun W hW => decOfT W t.fs t.name false fa oa sa ra fc t.os.length oc t.ss.length sc t.rs.length rc (rowOldP (by decide) (hs.kept hW)) hf hl
  have HE : Hid (∀ W, Below w.heap.size w W → Calls Tryz.prog 44 #[.agg #[.string (strOfNums t.name), .bool false, .slice fa t.fs.length fc, .slice oa t.os.length oc, .slice sa t.ss.length sc, .slice ra t.rs.length rc]] W (StepsR W (encL t.fs))) := hid fun W hW => encOfT W t.fs t.name false fa oa sa ra fc t.os.length oc t.ss.length sc t.rs.length rc (rowOldP (by decide) (hs.kept hW)) hf hl
  clear hs hl he hf
  have Bx : Hid (Blk ((w.alloc (.cells #[.string (strOfNums t.name), .bool false, .slice fa t.fs.length fc, .slice oa t.os.length oc, .slice sa t.ss.length sc, .slice ra t.rs.length rc] 53)).alloc (.cells #[.slice none 0 0, .slice none 0 0, .slice none 0 0] 25)) w.heap.size 53 #[.string (strOfNums t.name), .bool false, .slice fa t.fs.length fc, .slice oa t.os.length oc, .slice sa t.ss.length sc, .slice ra t.rs.length rc]) := hid ((Blk.new _ _ _).kept (below_alloc _))
  have Br : Hid (Blk ((w.alloc (.cells #[.string (strOfNums t.name), .bool false, .slice fa t.fs.length fc, .slice oa t.os.length oc, .slice sa t.ss.length sc, .slice ra t.rs.length rc] 53)).alloc (.cells #[.slice none 0 0, .slice none 0 0, .slice none 0 0] 25)) (w.heap.size + 1) 25 #[.slice none 0 0, .slice none 0 0, .slice none 0 0]) := hid (Blk.newAt (by simp))
  have HB : Hid (Below w.heap.size w ((w.alloc (.cells #[.string (strOfNums t.name), .bool false, .slice fa t.fs.length fc, .slice oa t.os.length oc, .slice sa t.ss.length sc, .slice ra t.rs.length rc] 53)).alloc (.cells #[.slice none 0 0, .slice none 0 0, .slice none 0 0] 25))) := hid (by exact blBy)
  go_enter Tryz.func22, Tryz.ntmps22
  go_wp2_with fail
  have hsz : ((w.alloc (.cells #[.string (strOfNums t.name), .bool false, .slice fa t.fs.length fc, .slice oa t.os.length oc, .slice sa t.ss.length sc, .slice ra t.rs.length rc] 53)).alloc (.cells #[.slice none 0 0, .slice none 0 0, .slice none 0 0] 25)).heap.size = w.heap.size + 2 := by simp
  generalize (w.alloc (.cells #[.string (strOfNums t.name), .bool false, .slice fa t.fs.length fc, .slice oa t.os.length oc, .slice sa t.ss.length sc, .slice ra t.rs.length rc] 53)).alloc (.cells #[.slice none 0 0, .slice none 0 0, .slice none 0 0] 25) = W0 at *
  replace hsz := hid hsz
  have e0 := Bx.out.cell 0 _ rfl
  have e1 := Bx.out.cell 1 _ rfl
  have e2 := Bx.out.cell 2 _ rfl
  have e3 := Bx.out.cell 3 _ rfl
  have e4 := Bx.out.cell 4 _ rfl
  have e5 := Bx.out.cell 5 _ rfl
  simp only [List.getElem_toArray, List.getElem_cons_succ, List.getElem_cons_zero] at e0 e1 e2 e3 e4 e5
  have xr := Br.out.cellF
  have yr := Br.out.frz
  have zr := Br.out.lt
  have hne : w.heap.size ≠ w.heap.size + 1 := by omega
  go_region_held3 (fun W => W.cell? ⟨w.heap.size, 0, none⟩ = some (.string (strOfNums t.name)) ∧ W.cell? ⟨w.heap.size, 1, none⟩ = some (.bool false) ∧ W.cell? ⟨w.heap.size, 2, none⟩ = some (.slice fa t.fs.length fc) ∧ W.cell? ⟨w.heap.size, 3, none⟩ = some (.slice oa t.os.length oc) ∧ W.cell? ⟨w.heap.size, 4, none⟩ = some (.slice sa t.ss.length sc) ∧ W.cell? ⟨w.heap.size, 5, none⟩ = some (.slice ra t.rs.length rc)) (first | exact ⟨e0, e1, e2, e3, e4, e5⟩ | exact ⟨cellO3 e0 hne, cellO3 e1 hne, cellO3 e2 hne, cellO3 e3 hne, cellO3 e4 hne, cellO3 e5 hne⟩) (first | (go_at_call 43; refine (HD.out _ (below_trans HB.out (by first | exact Below.refl _ _ | exact below_drew1 _ | exact below_drewN _ _))).mono ?_; rintro e w1 ⟨da, dc, rfl, ho, hbx⟩; have HOd : Hid (w1.ownsRow (w.heap.size + 2) 57 5 (.slice da (decL t.fs).length dc) (decL t.fs).length ((decL t.fs).flatMap cIN)) := hid (own_mono ho (Nat.le_of_eq hsz.out.symm)); clear ho; replace e0 := cell_below e0 (below_trans (by first | exact Below.refl _ _ | exact below_drew1 _ | exact below_drewN _ _) hbx); replace e1 := cell_below e1 (below_trans (by first | exact Below.refl _ _ | exact below_drew1 _ | exact below_drewN _ _) hbx); replace e2 := cell_below e2 (below_trans (by first | exact Below.refl _ _ | exact below_drew1 _ | exact below_drewN _ _) hbx); replace e3 := cell_below e3 (below_trans (by first | exact Below.refl _ _ | exact below_drew1 _ | exact below_drewN _ _) hbx); replace e4 := cell_below e4 (below_trans (by first | exact Below.refl _ _ | exact below_drew1 _ | exact below_drewN _ _) hbx); replace e5 := cell_below e5 (below_trans (by first | exact Below.refl _ _ | exact below_drew1 _ | exact below_drewN _ _) hbx); replace Br := hid (Br.out.kept (below_trans (by first | exact Below.refl _ _ | exact below_drew1 _ | exact below_drewN _ _) hbx)); replace xr := Br.out.cellF; replace yr := Br.out.frz; replace zr := Br.out.lt; replace HB := hid (below_trans HB.out (below_trans (by first | exact Below.refl _ _ | exact below_drew1 _ | exact below_drewN _ _) hbx)); clear hbx) | (go_at_call 44; refine (HE.out _ (below_trans HB.out (by first | exact Below.refl _ _ | exact below_drew1 _ | exact below_drewN _ _))).mono ?_; rintro e w2 ⟨ea, ec, rfl, ho, hbx⟩; have HAP : Hid (∀ b, (Value.slice da (decL t.fs).length dc).ownBlock = some b → (Value.slice ea (encL t.fs).length ec).ownBlock ≠ some b) := hid (fun b q1 q2 => Nat.lt_irrefl _ (Nat.lt_of_lt_of_le (own_type HOd.out q1).2.1 (own_type ho q2).1)); have HOe : Hid (w2.ownsRow w1.heap.size 57 5 (.slice ea (encL t.fs).length ec) (encL t.fs).length ((encL t.fs).flatMap cIN)) := hid ho; have hw1 : Hid (w.heap.size + 1 < w1.heap.size) := hid zr; clear ho; replace HOd := hid (own_kept HOd.out (below_trans (by first | exact Below.refl _ _ | exact below_drew1 _ | exact below_drewN _ _) hbx)); replace e0 := cell_below e0 (below_trans (by first | exact Below.refl _ _ | exact below_drew1 _ | exact below_drewN _ _) hbx); replace e1 := cell_below e1 (below_trans (by first | exact Below.refl _ _ | exact below_drew1 _ | exact below_drewN _ _) hbx); replace e2 := cell_below e2 (below_trans (by first | exact Below.refl _ _ | exact below_drew1 _ | exact below_drewN _ _) hbx); replace e3 := cell_below e3 (below_trans (by first | exact Below.refl _ _ | exact below_drew1 _ | exact below_drewN _ _) hbx); replace e4 := cell_below e4 (below_trans (by first | exact Below.refl _ _ | exact below_drew1 _ | exact below_drewN _ _) hbx); replace e5 := cell_below e5 (below_trans (by first | exact Below.refl _ _ | exact below_drew1 _ | exact below_drewN _ _) hbx); replace Br := hid (Br.out.kept (below_trans (by first | exact Below.refl _ _ | exact below_drew1 _ | exact below_drewN _ _) hbx)); replace xr := Br.out.cellF; replace yr := Br.out.frz; replace zr := Br.out.lt; replace HB := hid (below_trans HB.out (below_trans (by first | exact Below.refl _ _ | exact below_drew1 _ | exact below_drewN _ _) hbx)); clear hbx))
  go_wp2
  refine bodyPost_ret (v := .agg #[.slice da (decL t.fs).length dc, .slice ea (encL t.fs).length ec, .slice none 0 0]) (by simp [results, Tryz.results22, go_sem, xr, zr, yr]) rfl ?_
  rw [HX.out]
  refine ⟨da, dc, ea, ec, none, 0, rfl, ⟨own_mono (own_set (own_set (own_set HOd.out (by omega)) (by omega)) (by omega)) (by omega), own_mono (own_set (own_set (own_set HOe.out hw1.out) hw1.out) hw1.out) (by have := hw1.out; omega), World.ownsRow_nil _ _ _ _, HAP.out⟩, by have := HB.out; exact blBy⟩
/-- What LowerType answers: a block and an error. -/
def LowA (w : World) (k : BK) (er : Int) (e : Ending) (w' : World) : Prop := ∃ da dc ea ec ra rc, e = .returned (.tuple #[.agg #[.slice da k.dec.length dc, .slice ea k.enc.length ec, .slice ra k.rows.length rc], .int .i64 er]) ∧ BkO w' w.heap.size k (.slice da k.dec.length dc) (.slice ea k.enc.length ec) (.slice ra k.rows.length rc) ∧ Below w.heap.size w w'
def bkZ : BK := ⟨[], [], []⟩
theorem bkZ_own (w : World) (base : Nat) : BkO w base bkZ (.slice none 0 0) (.slice none 0 0) (.slice none 0 0) := ⟨World.ownsRow_nil _ _ _ _, World.ownsRow_nil _ _ _ _, World.ownsRow_nil _ _ _ _, fun b hb => by simp [Value.ownBlock] at hb⟩
def lowBK (l : List TV) (i : Int) : BK := if goodB l = true ∧ 0 ≤ i then (match l[i.toNat]? with | some x => loBK x.t | none => bkZ) else bkZ
def lowE (l : List TV) (i : Int) : Int := if goodB l = true ∧ 0 ≤ i ∧ i < l.length then 0 else 18
theorem lowBK_at {l : List TV} {k : Nat} (hg : goodB l = true) (hk : k < l.length) : lowBK l (k : Int) = loBK l[k].t := by
  unfold lowBK
  rw [if_pos ⟨hg, by omega⟩]
  simp [hk]
theorem lowBK_no {l : List TV} {i : Int} (h : ¬ (goodB l = true ∧ 0 ≤ i ∧ i < l.length)) : lowBK l i = bkZ := by
  unfold lowBK
  split
  · rename_i hq
    have q2 : ¬ i < (l.length : Int) := fun q => h ⟨hq.1, hq.2, q⟩
    rw [List.getElem?_eq_none (by omega)]
  · rfl
theorem lowE_ok {l : List TV} {i : Int} (h : goodB l = true ∧ 0 ≤ i ∧ i < l.length) : lowE l i = 0 := by unfold lowE; rw [if_pos h]
theorem lowE_no {l : List TV} {i : Int} (h : ¬ (goodB l = true ∧ 0 ≤ i ∧ i < l.length)) : lowE l i = 18 := by unfold lowE; rw [if_neg h]
theorem blockOfT (W : World) (l : List TV) (k : Nat) (hg : goodB l = true) (hk : k < l.length) (t : TT) (et : l[k].t = t) (fa oa sa ra : Option Addr) (fc oc sc rc : Nat) (h : TyR W ⟨t, .slice fa t.fs.length fc, .slice oa t.os.length oc, .slice sa t.ss.length sc, .slice ra t.rs.length rc⟩) : Calls Tryz.prog 22 #[.agg #[.string (strOfNums t.name), .bool t.enum, .slice fa t.fs.length fc, .slice oa t.os.length oc, .slice sa t.ss.length sc, .slice ra t.rs.length rc]] W (BlkA W (loBK t)) := by
  cases he : t.enum with
  | true => exact blockOfE W t fa oa sa ra fc oc sc rc he h.s (by have := goodP_enum hg hk (by rw [et]; exact he); rw [et] at this; exact this)
  | false =>
    have := goodP_msg hg hk (by rw [et]; exact he)
    rw [et] at this
    exact blockOfM W t fa oa sa ra fc oc sc rc he h.f this.2.2 this.1
theorem lowerTypeT (w : World) (l : List TV) (ta : Option Addr) (tc : Nat) (h : TbR w (.slice ta l.length tc) l) (hk : ∀ x ∈ l, OkV x) (m : Int) (hm : w.cell? ⟨0, 0, none⟩ = some (.int .i64 m)) (i : Int) : Calls Tryz.prog 9 #[.agg #[.slice ta l.length tc], .int .i64 i] w (LowA w (lowBK l i) (lowE l i)) := by
  obtain ⟨_, _, e, hn⟩ := rowS_sl h.row
  clear e
  have h63 : (l.length : Int) ≤ 9223372036854775807 := by omega
  have HGC : Hid (∀ W, Below w.heap.size w W → Calls Tryz.prog 21 #[.agg #[.slice ta l.length tc]] W fun e w' => e = .returned (.bool (goodB l)) ∧ Below W.heap.size W w') := hid fun W hW => goodT W l ta tc (h.kept hW) hk m (cell_below hm hW)
  by_cases hok : goodB l = true ∧ 0 ≤ i ∧ i < l.length
  case neg =>
    have HX : Hid (lowBK l i = bkZ ∧ lowE l i = 18) := hid ⟨lowBK_no hok, lowE_no hok⟩
    rw [HX.out.1, HX.out.2]
    have main : goodB l = false ∨ (goodB l = true ∧ i < 0) ∨ (goodB l = true ∧ ¬ i < 0 ∧ (l.length : Int) ≤ i) := by
      cases hg : goodB l with
      | false => exact .inl rfl
      | true =>
        refine .inr ?_
        rcases Int.lt_or_le i 0 with q | q
        · exact .inl ⟨rfl, q⟩
        · exact .inr ⟨rfl, by omega, by
            rcases Int.lt_or_le i l.length with q2 | q2
            · exact absurd ⟨hg, q, q2⟩ hok
            · exact q2⟩
    clear hok h hk hm
    rcases main with hg | ⟨hg, hi⟩ | ⟨hg, hi, hi2⟩
    · rw [hg] at HGC
      go_enter Tryz.func9, Tryz.ntmps9
      go_wp2_with fail
      refine (HGC.out _ (by exact blBy)).mono ?_
      rintro e w1 ⟨rfl, hb1⟩
      have Ba : Blk w1 w.heap.size 31 #[.slice ta l.length tc] := ((Blk.new _ _ _).kept (below_alloc _)).kept hb1
      have Br : Blk w1 (w.heap.size + 1) 25 #[.slice none 0 0, .slice none 0 0, .slice none 0 0] := (Blk.newAt (by simp)).kept hb1
      replace hb1 : Hid (Below w.heap.size w w1) := hid (bl_then (by exact blBy) hb1)
      have xa := Ba.cellF
      have za := Ba.lt
      have xr := Br.cellF
      have yr := Br.frz
      have zr := Br.lt
      go_wp2
      refine bodyPost_ret (v := .tuple #[.agg #[.slice none 0 0, .slice none 0 0, .slice none 0 0], .int .i64 18]) (by simp [results, Tryz.results9, go_sem, xr, zr, yr]) rfl ?_
      exact ⟨none, 0, none, 0, none, 0, rfl, bkZ_own _ _, by have := hb1.out; exact blBy⟩
    · rw [hg] at HGC
      have r1 : (i < 0) = True := eq_true hi
      go_enter Tryz.func9, Tryz.ntmps9
      go_wp2_with fail
      refine (HGC.out _ (by exact blBy)).mono ?_
      rintro e w1 ⟨rfl, hb1⟩
      have Ba : Blk w1 w.heap.size 31 #[.slice ta l.length tc] := ((Blk.new _ _ _).kept (below_alloc _)).kept hb1
      have Br : Blk w1 (w.heap.size + 1) 25 #[.slice none 0 0, .slice none 0 0, .slice none 0 0] := (Blk.newAt (by simp)).kept hb1
      replace hb1 : Hid (Below w.heap.size w w1) := hid (bl_then (by exact blBy) hb1)
      have xa := Ba.cellF
      have za := Ba.lt
      have xr := Br.cellF
      have yr := Br.frz
      have zr := Br.lt
      go_wp2
      refine bodyPost_ret (v := .tuple #[.agg #[.slice none 0 0, .slice none 0 0, .slice none 0 0], .int .i64 18]) (by simp [results, Tryz.results9, go_sem, xr, zr, yr]) rfl ?_
      exact ⟨none, 0, none, 0, none, 0, rfl, bkZ_own _ _, by have := hb1.out; exact blBy⟩
    · rw [hg] at HGC
      have r1 : (i < 0) = False := eq_false hi
      have r2 : ((l.length : Int) ≤ i) = True := eq_true hi2
      go_enter Tryz.func9, Tryz.ntmps9
      go_wp2_with fail
      refine (HGC.out _ (by exact blBy)).mono ?_
      rintro e w1 ⟨rfl, hb1⟩
      have Ba : Blk w1 w.heap.size 31 #[.slice ta l.length tc] := ((Blk.new _ _ _).kept (below_alloc _)).kept hb1
      have Br : Blk w1 (w.heap.size + 1) 25 #[.slice none 0 0, .slice none 0 0, .slice none 0 0] := (Blk.newAt (by simp)).kept hb1
      replace hb1 : Hid (Below w.heap.size w w1) := hid (bl_then (by exact blBy) hb1)
      have xa := Ba.cellF
      have za := Ba.lt
      have xr := Br.cellF
      have yr := Br.frz
      have zr := Br.lt
      go_wp2
      refine bodyPost_ret (v := .tuple #[.agg #[.slice none 0 0, .slice none 0 0, .slice none 0 0], .int .i64 18]) (by simp [results, Tryz.results9, go_sem, xr, zr, yr]) rfl ?_
      exact ⟨none, 0, none, 0, none, 0, rfl, bkZ_own _ _, by have := hb1.out; exact blBy⟩
  obtain ⟨hg, h0, hi⟩ := hok
  obtain ⟨k, rfl⟩ : ∃ k : Nat, i = (k : Int) := ⟨i.toNat, by omega⟩
  have hkl : k < l.length := by omega
  rw [lowE_ok ⟨hg, h0, hi⟩, lowBK_at hg hkl]
  rw [hg] at HGC
  have HTY := hid (h.ty _ (List.getElem_mem hkl))
  obtain ⟨tb, tof, rfl, hbl, c0, c1, c2, c3, c4, c5⟩ := row6 h.row hkl
  have r1 : ((k : Int) < 0) = False := eq_false (by omega)
  have r2 : ((l.length : Int) ≤ (k : Int)) = False := eq_false (by omega)
  have r3 : (k : Int) < (l.length : Int) := by omega
  have HBO : Hid (∀ W t fa oa sa ra fc oc sc rc, l[k].t = t → TyR W ⟨t, .slice fa t.fs.length fc, .slice oa t.os.length oc, .slice sa t.ss.length sc, .slice ra t.rs.length rc⟩ → Calls Tryz.prog 22 #[.agg #[.string (strOfNums t.name), .bool t.enum, .slice fa t.fs.length fc, .slice oa t.os.length oc, .slice sa t.ss.length sc, .slice ra t.rs.length rc]] W (BlkA W (loBK t))) := hid fun W t fa oa sa ra fc oc sc rc et ht => blockOfT W l k hg hkl t et fa oa sa ra fc oc sc rc ht
  clear h hk hm hg h0
  generalize l[k] = x at *
  obtain ⟨t, f, o, s, r⟩ := x
  obtain ⟨fa, fc, ef, -⟩ := rowS_sl HTY.out.f
  obtain ⟨oa, oc, eo, -⟩ := rowS_sl HTY.out.o
  obtain ⟨sa, sc, es, -⟩ := rowS_sl HTY.out.s
  obtain ⟨ra, rc, er, -⟩ := rowS_sl HTY.out.r
  dsimp only at ef eo es er
  subst ef eo es er
  dsimp only at c0 c1 c2 c3 c4 c5 HBO
  dsimp only
  go_enter Tryz.func9, Tryz.ntmps9
  go_wp2_with fail
  refine (HGC.out _ (by exact blBy)).mono ?_
  rintro e w1 ⟨rfl, hb1⟩
  have Ba : Blk w1 w.heap.size 31 #[.slice (some ⟨tb, tof, none⟩) l.length tc] := ((Blk.new _ _ _).kept (below_alloc _)).kept hb1
  have Br : Blk w1 (w.heap.size + 1) 25 #[.slice none 0 0, .slice none 0 0, .slice none 0 0] := (Blk.newAt (by simp)).kept hb1
  replace hb1 : Hid (Below w.heap.size w w1) := hid (bl_then (by exact blBy) hb1)
  have d0 := cell_below c0 hb1.out
  have d1 := cell_below c1 hb1.out
  have d2 := cell_below c2 hb1.out
  have d3 := cell_below c3 hb1.out
  have d4 := cell_below c4 hb1.out
  have d5 := cell_below c5 hb1.out
  have hbl1 : tb < w1.heap.size := World.block_lt_of_cell? _ _ d0
  clear c0 c1 c2 c3 c4 c5
  have xa := Ba.cellF
  have za := Ba.lt
  go_wp2_with fail
  refine (HBO.out _ t fa oa sa ra fc oc sc rc rfl (HTY.out.kept (by have := hb1.out; exact blBy))).mono ?_
  rintro e w2 ⟨da, dc, ea, ec, qa, qc, rfl, ho, hb2⟩
  have Br2 := Br.kept hb2
  have HO := hid (ho.mono (base' := w1.heap.size) (Nat.le_refl _))
  replace hb2 : Hid (Below w.heap.size w w2) := hid (bl_then hb1.out hb2)
  have xr := Br2.cellF
  have yr := Br2.frz
  have zr := Br2.lt
  have zr1 := Br.lt
  clear xa za ho d0 d1 d2 d3 d4 d5
  go_wp2
  refine bodyPost_ret (v := .tuple #[.agg #[.slice da (loBK t).dec.length dc, .slice ea (loBK t).enc.length ec, .slice qa (loBK t).rows.length qc], .int .i64 0]) (by simp [results, Tryz.results9, go_sem, xr, zr, yr]) rfl ?_
  refine ⟨da, dc, ea, ec, qa, qc, rfl, BkO.mono ⟨own_set (own_set (own_set HO.out.hd zr1) zr1) zr1, own_set (own_set (own_set HO.out.he zr1) zr1) zr1, own_set (own_set (own_set HO.out.hr zr1) zr1) zr1, HO.out.ap⟩ hb1.out.size, by have := hb2.out; exact blBy⟩
def inB (x y : IN) : Bool := (x.op == y.op) && ((x.a == y.a) && ((x.b == y.b) && ((x.c == y.c) && (x.d == y.d))))
def lnB (x y : LN) : Bool := (x.tag == y.tag) && (x.pl == y.pl)
theorem inB_iff (x y : IN) : inB x y = true ↔ x = y := by
  cases x
  cases y
  simp [inB]
theorem lnB_iff (x y : LN) : lnB x y = true ↔ x = y := by
  cases x
  cases y
  simp [lnB]
theorem eqIN (x y : IN) (w : World) : (Op.equalIn 10000 57 (.agg #[.int .i64 x.op, .int .i64 x.a, .int .i64 x.b, .int .i64 x.c, .int .i64 x.d]) (.agg #[.int .i64 y.op, .int .i64 y.a, .int .i64 y.b, .int .i64 y.c, .int .i64 y.d])).run Tryz.prog w = .ok (inB x y) w := by
  have u3 := Tryz.underlying3
  have a3 := Tryz.isAgg3
  have z3 := Tryz.sizeOf3
  have hS : Tryz.prog.underlying 57 = some (.struct (Tryz.prog.fieldsOf 57)) := by kernel_rfl
  have hp : Tryz.prog.stoodInHeld 57 = false := by kernel_rfl
  unfold inB
  rw [show (10000 : Nat) = 9999 + 1 from rfl, run_equalIn_agg w 9999 57 _ _ hS hp]
  simp only [Program.fieldsOf, Tryz.underlying57]
  go_simp
  by_cases h1 : x.op = y.op <;> by_cases h2 : x.a = y.a <;> by_cases h3 : x.b = y.b <;> by_cases h4 : x.c = y.c <;> by_cases h5 : x.d = y.d <;> simp [h1, h2, h3, h4, h5]
theorem eqLN (x y : LN) (w : World) : (Op.equalIn 10000 41 (.agg #[.int .i64 x.tag, .int .i64 x.pl]) (.agg #[.int .i64 y.tag, .int .i64 y.pl])).run Tryz.prog w = .ok (lnB x y) w := by
  have u3 := Tryz.underlying3
  have a3 := Tryz.isAgg3
  have z3 := Tryz.sizeOf3
  have hS : Tryz.prog.underlying 41 = some (.struct (Tryz.prog.fieldsOf 41)) := by kernel_rfl
  have hp : Tryz.prog.stoodInHeld 41 = false := by kernel_rfl
  unfold lnB
  rw [show (10000 : Nat) = 9999 + 1 from rfl, run_equalIn_agg w 9999 41 _ _ hS hp]
  simp only [Program.fieldsOf, Tryz.underlying41]
  go_simp
  by_cases h1 : x.tag = y.tag <;> by_cases h2 : x.pl = y.pl <;> simp [h1, h2]
theorem gdIN : Tryz.prog.eqGuardType Tryz.prog.depth 57 = false := by kernel_rfl
theorem gdLN : Tryz.prog.eqGuardType Tryz.prog.depth 41 = false := by kernel_rfl
/-- A block, in memory. -/
structure BkR (w : World) (k : BK) (d e r : Value) : Prop where
  hd : RowS w AnyZ 5 d k.dec.length (k.dec.flatMap cIN)
  he : RowS w AnyZ 5 e k.enc.length (k.enc.flatMap cIN)
  hr : RowS w AnyZ 2 r k.rows.length (k.rows.flatMap cLN)
theorem BkR.kept {w w' : World} {k : BK} {d e r : Value} (h : BkR w k d e r) (g : Below w.heap.size w w') : BkR w' k d e r := ⟨h.hd.kept g, h.he.kept g, h.hr.kept g⟩
theorem BkO.row {w : World} {base : Nat} {k : BK} {d e r : Value} (h : BkO w base k d e r) : BkR w k d e r := ⟨own_row h.hd (fun _ _ => trivial), own_row h.he (fun _ _ => trivial), own_row h.hr (fun _ _ => trivial)⟩
/-- A bool that says P. -/
def EqA (w : World) (P : Prop) (e : Ending) (w' : World) : Prop := ∃ r : Bool, e = .returned (.bool r) ∧ (r = true ↔ P) ∧ Below w.heap.size w w'
theorem EqA.yes {w w' : World} {P : Prop} (h : P) (hb : Below w.heap.size w w') : EqA w P (.returned (.bool true)) w' := ⟨true, rfl, ⟨fun _ => h, fun _ => rfl⟩, hb⟩
theorem EqA.no {w w' : World} {P : Prop} (h : ¬ P) (hb : Below w.heap.size w w') : EqA w P (.returned (.bool false)) w' := ⟨false, rfl, ⟨fun q => (by cases q), fun q => absurd q h⟩, hb⟩
theorem bk_eq {A B : BK} (h1 : A.dec = B.dec) (h2 : A.enc = B.enc) (h3 : A.rows = B.rows) : A = B := by
  cases A
  cases B
  simp only [BK.mk.injEq]
  exact ⟨h1, h2, h3⟩
theorem sameBlockD (w : World) (A B : BK) (aa ba ca da ea fa : Option Addr) (ac bc cc dc ec fc : Nat) (hA : BkR w A (.slice aa A.dec.length ac) (.slice ba A.enc.length bc) (.slice ca A.rows.length cc)) (hB : BkR w B (.slice da B.dec.length dc) (.slice ea B.enc.length ec) (.slice fa B.rows.length fc)) : Calls Tryz.prog 13 #[.agg #[.slice aa A.dec.length ac, .slice ba A.enc.length bc, .slice ca A.rows.length cc], .agg #[.slice da B.dec.length dc, .slice ea B.enc.length ec, .slice fa B.rows.length fc]] w (EqA w (A = B)) := by
  have HA := hid hA
  have HB := hid hB
  obtain ⟨_, _, e, hn1⟩ := rowS_sl hA.hd
  clear e
  obtain ⟨_, _, e, hn2⟩ := rowS_sl hA.he
  clear e
  obtain ⟨_, _, e, hn3⟩ := rowS_sl hA.hr
  clear e
  obtain ⟨_, _, e, hm1⟩ := rowS_sl hB.hd
  clear e
  obtain ⟨_, _, e, hm2⟩ := rowS_sl hB.he
  clear e
  obtain ⟨_, _, e, hm3⟩ := rowS_sl hB.hr
  clear e
  clear hA hB
  by_cases h1 : A.dec.length = B.dec.length
  case neg =>
    have q1 : ((A.dec.length : Int) == (B.dec.length : Int)) = false := by rw [beq_eq_false_iff_ne]; omega
    go_enter Tryz.func13, Tryz.ntmps13
    go_wp2
    go_ret
    exact ⟨false, rfl, ⟨fun q => (by cases q), fun q => absurd (by rw [q]) h1⟩, by exact blBy⟩
  by_cases h2 : A.enc.length = B.enc.length
  case neg =>
    have q1 : ((A.dec.length : Int) == (B.dec.length : Int)) = true := by simp [h1]
    have q2 : ((A.enc.length : Int) == (B.enc.length : Int)) = false := by rw [beq_eq_false_iff_ne]; omega
    go_enter Tryz.func13, Tryz.ntmps13
    go_wp2
    go_ret
    exact ⟨false, rfl, ⟨fun q => (by cases q), fun q => absurd (by rw [q]) h2⟩, by exact blBy⟩
  by_cases h3 : A.rows.length = B.rows.length
  case neg =>
    have q1 : ((A.dec.length : Int) == (B.dec.length : Int)) = true := by simp [h1]
    have q2 : ((A.enc.length : Int) == (B.enc.length : Int)) = true := by simp [h2]
    have q3 : ((A.rows.length : Int) == (B.rows.length : Int)) = false := by rw [beq_eq_false_iff_ne]; omega
    go_enter Tryz.func13, Tryz.ntmps13
    go_wp2
    go_ret
    exact ⟨false, rfl, ⟨fun q => (by cases q), fun q => absurd (by rw [q]) h3⟩, by exact blBy⟩
  rw [← h1, ← h2, ← h3] at HB ⊢
  have z1 : (A.dec.length : Int) ≤ 9223372036854775807 := by omega
  have z2 : (A.enc.length : Int) ≤ 9223372036854775807 := by omega
  have z3 : (A.rows.length : Int) ≤ 9223372036854775807 := by omega
  clear hn1 hn2 hn3 hm1 hm2 hm3
  replace h1 := hid h1
  replace h2 := hid h2
  replace h3 := hid h3
  go_enter Tryz.func13, Tryz.ntmps13
  go_wp2
  go_loopw [5] (fun r wr => ∃ j : Nat, r = .int .i64 j ∧ j ≤ A.dec.length ∧ Hid (A.dec.take j = B.dec.take j) ∧ Hid (Blk wr w.heap.size 25 #[.slice aa A.dec.length ac, .slice ba A.enc.length bc, .slice ca A.rows.length cc]) ∧ Hid (Blk wr (w.heap.size + 1) 25 #[.slice da A.dec.length dc, .slice ea A.enc.length ec, .slice fa A.rows.length fc]) ∧ Hid (Below w.heap.size w wr)) (fun r wr => A.dec.length - numAt wr r)
  case atStart => exact ⟨0, rfl, by omega, hid (by simp), hid ((Blk.new _ _ _).kept (below_alloc _)), hid (Blk.newAt (by simp)), hid (by exact blBy)⟩
  case round =>
    obtain ⟨j, rfl, hj, HT, Ba, Bb, hb⟩ := hrel
    have xa := Ba.out.cellF
    have za := Ba.out.lt
    have xb := Bb.out.cellF
    have zb := Bb.out.lt
    by_cases hlt : j < A.dec.length
    · have k1 : (j : Int) < (A.dec.length : Int) := by omega
      have hlt2 : j < B.dec.length := by have := h1.out; omega
      have HTS : Hid (A.dec.take (j + 1) = A.dec.take j ++ [A.dec[j]] ∧ B.dec.take (j + 1) = B.dec.take j ++ [B.dec[j]]) := hid ⟨List.take_succ_eq_append_getElem hlt, List.take_succ_eq_append_getElem hlt2⟩
      have HNE : Hid (A.dec[j] ≠ B.dec[j] → A ≠ B) := hid (fun q e => q (by subst e; rfl))
      obtain ⟨pb, po, epb, hc⟩ := rowAt (g := cIN) (fun _ => rfl) (HA.out.hd.kept hb.out) (i := j) (x := A.dec[j]) (by simp [hlt])
      obtain ⟨qb, qo, eqb, hd⟩ := rowAt (g := cIN) (fun _ => rfl) (HB.out.hd.kept hb.out) (i := j) (x := B.dec[j]) (by simp [hlt2])
      subst epb eqb
      have c0 := hc 0 _ rfl
      have d0 := hd 0 _ rfl
      have c1 := hc 1 _ rfl
      have d1 := hd 1 _ rfl
      have c2 := hc 2 _ rfl
      have d2 := hd 2 _ rfl
      have c3 := hc 3 _ rfl
      have d3 := hd 3 _ rfl
      have c4 := hc 4 _ rfl
      have d4 := hd 4 _ rfl
      clear hc hd
      simp only [Nat.add_zero] at c0 d0
      have hpb : pb < wr.heap.size := World.block_lt_of_cell? _ _ c0
      have hqb : qb < wr.heap.size := World.block_lt_of_cell? _ _ d0
      generalize A.dec[j] = x at *
      generalize B.dec[j] = y at *
      have hgd := gdIN
      have heq := fun W => eqIN x y W
      cases hq : inB x y with
      | false =>
        rw [hq] at heq
        go_wp2
        go_quiet (fail)
        go_wp2
        go_ret
        exact EqA.no (HNE.out (fun e => by rw [(inB_iff x y).2 e] at hq; cases hq)) (by have := hb.out; first | exact this | exact bl_drewN this _ | exact blBy)
      | true =>
        rw [hq] at heq
        have exy := hid ((inB_iff x y).1 hq)
        go_wp2
        go_quiet (fail)
        go_wp2
        exact ⟨⟨j + 1, by simp, by omega, hid (by rw [HTS.out.1, HTS.out.2, HT.out, exy.out]), hid (Ba.out.kept (below_drewN _ _)), hid (Bb.out.kept (below_drewN _ _)), hid (bl_drewN hb.out _)⟩, by simp [numAt]; omega⟩
    · have k1 : ¬ (j : Int) < (A.dec.length : Int) := by omega
      have Edec : Hid (A.dec = B.dec) := hid (by have := HT.out; rwa [List.take_of_length_le (by omega), List.take_of_length_le (by have := h1.out; omega)] at this)
      go_wp2
      clear hj HT xa za xb zb k1
      go_loopw [6] (fun r wr => ∃ j : Nat, r = .int .i64 j ∧ j ≤ A.enc.length ∧ Hid (A.enc.take j = B.enc.take j) ∧ Hid (Blk wr w.heap.size 25 #[.slice aa A.dec.length ac, .slice ba A.enc.length bc, .slice ca A.rows.length cc]) ∧ Hid (Blk wr (w.heap.size + 1) 25 #[.slice da A.dec.length dc, .slice ea A.enc.length ec, .slice fa A.rows.length fc]) ∧ Hid (Below w.heap.size w wr)) (fun r wr => A.enc.length - numAt wr r)
      case atStart => exact ⟨0, rfl, by omega, hid (by simp), Ba, Bb, hb⟩
      case round =>
        obtain ⟨j, rfl, hj, HT, Ba, Bb, hb⟩ := hrel
        have xa := Ba.out.cellF
        have za := Ba.out.lt
        have xb := Bb.out.cellF
        have zb := Bb.out.lt
        by_cases hlt : j < A.enc.length
        · have k1 : (j : Int) < (A.enc.length : Int) := by omega
          have hlt2 : j < B.enc.length := by have := h2.out; omega
          have HTS : Hid (A.enc.take (j + 1) = A.enc.take j ++ [A.enc[j]] ∧ B.enc.take (j + 1) = B.enc.take j ++ [B.enc[j]]) := hid ⟨List.take_succ_eq_append_getElem hlt, List.take_succ_eq_append_getElem hlt2⟩
          have HNE : Hid (A.enc[j] ≠ B.enc[j] → A ≠ B) := hid (fun q e => q (by subst e; rfl))
          obtain ⟨pb, po, epb, hc⟩ := rowAt (g := cIN) (fun _ => rfl) (HA.out.he.kept hb.out) (i := j) (x := A.enc[j]) (by simp [hlt])
          obtain ⟨qb, qo, eqb, hd⟩ := rowAt (g := cIN) (fun _ => rfl) (HB.out.he.kept hb.out) (i := j) (x := B.enc[j]) (by simp [hlt2])
          subst epb eqb
          have c0 := hc 0 _ rfl
          have d0 := hd 0 _ rfl
          have c1 := hc 1 _ rfl
          have d1 := hd 1 _ rfl
          have c2 := hc 2 _ rfl
          have d2 := hd 2 _ rfl
          have c3 := hc 3 _ rfl
          have d3 := hd 3 _ rfl
          have c4 := hc 4 _ rfl
          have d4 := hd 4 _ rfl
          clear hc hd
          simp only [Nat.add_zero] at c0 d0
          have hpb : pb < wr.heap.size := World.block_lt_of_cell? _ _ c0
          have hqb : qb < wr.heap.size := World.block_lt_of_cell? _ _ d0
          generalize A.enc[j] = x at *
          generalize B.enc[j] = y at *
          have hgd := gdIN
          have heq := fun W => eqIN x y W
          cases hq : inB x y with
          | false =>
            rw [hq] at heq
            go_wp2
            go_quiet (fail)
            go_wp2
            go_ret
            exact EqA.no (HNE.out (fun e => by rw [(inB_iff x y).2 e] at hq; cases hq)) (by have := hb.out; first | exact this | exact bl_drewN this _ | exact blBy)
          | true =>
            rw [hq] at heq
            have exy := hid ((inB_iff x y).1 hq)
            go_wp2
            go_quiet (fail)
            go_wp2
            exact ⟨⟨j + 1, by simp, by omega, hid (by rw [HTS.out.1, HTS.out.2, HT.out, exy.out]), hid (Ba.out.kept (below_drewN _ _)), hid (Bb.out.kept (below_drewN _ _)), hid (bl_drewN hb.out _)⟩, by simp [numAt]; omega⟩
        · have k1 : ¬ (j : Int) < (A.enc.length : Int) := by omega
          have Eenc : Hid (A.enc = B.enc) := hid (by have := HT.out; rwa [List.take_of_length_le (by omega), List.take_of_length_le (by have := h2.out; omega)] at this)
          go_wp2
          clear hj HT xa za xb zb k1
          go_loopw [7] (fun r wr => ∃ j : Nat, r = .int .i64 j ∧ j ≤ A.rows.length ∧ Hid (A.rows.take j = B.rows.take j) ∧ Hid (Blk wr w.heap.size 25 #[.slice aa A.dec.length ac, .slice ba A.enc.length bc, .slice ca A.rows.length cc]) ∧ Hid (Blk wr (w.heap.size + 1) 25 #[.slice da A.dec.length dc, .slice ea A.enc.length ec, .slice fa A.rows.length fc]) ∧ Hid (Below w.heap.size w wr)) (fun r wr => A.rows.length - numAt wr r)
          case atStart => exact ⟨0, rfl, by omega, hid (by simp), Ba, Bb, hb⟩
          case round =>
            obtain ⟨j, rfl, hj, HT, Ba, Bb, hb⟩ := hrel
            have xa := Ba.out.cellF
            have za := Ba.out.lt
            have xb := Bb.out.cellF
            have zb := Bb.out.lt
            by_cases hlt : j < A.rows.length
            · have k1 : (j : Int) < (A.rows.length : Int) := by omega
              have hlt2 : j < B.rows.length := by have := h3.out; omega
              have HTS : Hid (A.rows.take (j + 1) = A.rows.take j ++ [A.rows[j]] ∧ B.rows.take (j + 1) = B.rows.take j ++ [B.rows[j]]) := hid ⟨List.take_succ_eq_append_getElem hlt, List.take_succ_eq_append_getElem hlt2⟩
              have HNE : Hid (A.rows[j] ≠ B.rows[j] → A ≠ B) := hid (fun q e => q (by subst e; rfl))
              obtain ⟨pb, po, epb, hc⟩ := rowAt (g := cLN) (fun _ => rfl) (HA.out.hr.kept hb.out) (i := j) (x := A.rows[j]) (by simp [hlt])
              obtain ⟨qb, qo, eqb, hd⟩ := rowAt (g := cLN) (fun _ => rfl) (HB.out.hr.kept hb.out) (i := j) (x := B.rows[j]) (by simp [hlt2])
              subst epb eqb
              have c0 := hc 0 _ rfl
              have d0 := hd 0 _ rfl
              have c1 := hc 1 _ rfl
              have d1 := hd 1 _ rfl
              clear hc hd
              simp only [Nat.add_zero] at c0 d0
              have hpb : pb < wr.heap.size := World.block_lt_of_cell? _ _ c0
              have hqb : qb < wr.heap.size := World.block_lt_of_cell? _ _ d0
              generalize A.rows[j] = x at *
              generalize B.rows[j] = y at *
              have hgd := gdLN
              have heq := fun W => eqLN x y W
              cases hq : lnB x y with
              | false =>
                rw [hq] at heq
                go_wp2
                go_quiet (fail)
                go_wp2
                go_ret
                exact EqA.no (HNE.out (fun e => by rw [(lnB_iff x y).2 e] at hq; cases hq)) (by have := hb.out; first | exact this | exact bl_drewN this _ | exact blBy)
              | true =>
                rw [hq] at heq
                have exy := hid ((lnB_iff x y).1 hq)
                go_wp2
                go_quiet (fail)
                go_wp2
                exact ⟨⟨j + 1, by simp, by omega, hid (by rw [HTS.out.1, HTS.out.2, HT.out, exy.out]), hid (Ba.out.kept (below_drewN _ _)), hid (Bb.out.kept (below_drewN _ _)), hid (bl_drewN hb.out _)⟩, by simp [numAt]; omega⟩
            · have k1 : ¬ (j : Int) < (A.rows.length : Int) := by omega
              have Erows : Hid (A.rows = B.rows) := hid (by have := HT.out; rwa [List.take_of_length_le (by omega), List.take_of_length_le (by have := h3.out; omega)] at this)
              go_wp2
              go_ret
              exact EqA.yes (bk_eq Edec.out Eenc.out Erows.out) hb.out
end Go.Proofs.YtmcbllannkhfaaaGreatDoor
