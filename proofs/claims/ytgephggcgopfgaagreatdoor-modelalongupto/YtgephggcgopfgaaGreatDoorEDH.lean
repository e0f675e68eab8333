/-
  What is settled: it is typed, it stays, it is not deeper.
  A field put into a message: it is there, and put in again it changes nothing.
  slices.Insert of one field, wherever it goes.
  with: a message with a field at its place.
-/
import Derived.Test.YtgephggcgopfgaaGreatDoorEBP
import Derived.Test.YtgephggcgopfgaaGreatDoorCCJ
import Derived.Test.YtgephggcgopfgaaGreatDoorEBM
import Derived.Test.YtgephggcgopfgaaGreatDoorCTG
import Derived.Laws.CopyRow
import Derived.Laws.CopyOwn
import Derived.Lib.AppendZerosOnto
import Derived.Lib.AppendZeros
import Derived.Lib.Overlaps
import Derived.Shelf.RegionOpenPlain
namespace Go.Proofs.YtgephggcgopfgaaGreatDoor
open Go.RowKit
set_option maxRecDepth 1000000
set_option linter.unusedVariables false
set_option linter.unusedSimpArgs false
theorem setF_num (g : CM → CM) (f : CF CM) : (setF g f).num = f.num := rfl
theorem allM_set (g : CM → CM) (f : CF CM) : allM (setF g f) = (allM f).map g := by
  have h : ∀ l : List (CV CM), (l.map (setV g)).flatMap CV.ms = (l.flatMap CV.ms).map g := fun l => by
    induction l with
    | nil => rfl
    | cons a r ih => rw [List.map_cons, List.flatMap_cons, List.flatMap_cons, ih, List.map_append]; rfl
  unfold allM
  rw [List.map_append, ← h, ← h]
  rfl
theorem told_set (fs : List FT) (g : CM → CM) (f : CF CM) : toldB fs (setF g f) = toldB fs f := by
  unfold toldB toldO
  rw [setF_num]
  obtain ⟨n, ks, vs⟩ := f
  cases vs with
  | nil => rfl
  | cons v r => simp [setF, setV, defV]
theorem valB_set (l : List TV) (o : FT) (g : CM → CM) (v : CV CM) : valB l o (setV g v) = valB l o v := by
  unfold valB scalarB setV
  simp only [List.length_map]
theorem scalarB_set (k : Int) (g : CM → CM) (v : CV CM) : scalarB k (setV g v) = scalarB k v := by
  unfold scalarB setV
  simp only [List.length_map]
theorem keys_set (k : Int) (g : CM → CM) (ks : List (CV CM)) : keysB k (ks.map (setV g)) = keysB k ks := by
  rw [Bool.eq_iff_iff, keysB_iff, keysB_iff]
  have e : ∀ a b : CV CM, keyLt k (setV g a) (setV g b) = keyLt k a b := fun a b => by
    unfold keyLt setV
    simp only [List.length_map]
  constructor
  · intro h i hi
    have := h i (by rw [List.length_map]; exact hi)
    rw [List.getElem_map, List.getElem_map, e] at this
    exact this
  · intro h i hi
    rw [List.length_map] at hi
    rw [List.getElem_map, List.getElem_map, e]
    exact h i hi
theorem all_map' {α β : Type} (g : α → β) (P : β → Bool) : ∀ l : List α, (l.map g).all P = l.all (fun a => P (g a))
  | [] => rfl
  | a :: r => by rw [List.map_cons, List.all_cons, List.all_cons, all_map' g P r]
theorem field_set (l : List TV) (o : FT) (g : CM → CM) (f : CF CM) : fieldB l o (setF g f) = fieldB l o f := by
  unfold fieldB setF
  simp only [keys_set, all_map', valB_set, scalarB_set]
  congr 1
  unfold shapeB
  simp only [List.length_map]
theorem rise_of {l : List (CF CM)} (h : l.Pairwise (fun x y => x.num < y.num)) : riseM l = true := riseM_iff.2 fun i hi => List.pairwise_iff_getElem.1 h i (i + 1) (by omega) hi (by omega)
/-- What is settled is typed. -/
theorem set_kept (l : List TV) : ∀ (d : Nat) (x : TV) (m : CM), keptB l d x m = true → keptB l d x (setM l d x m) = true
  | 0, x, m, h => h
  | d + 1, x, m, h => by
    have hw : ∀ z : CM, keptB l (d + 1) x z = (holdB l entB x z && z.fs.all (fun f => (allM f).all (keptB l d (blwB l x f)))) := fun z => rfl
    obtain ⟨h1, h2⟩ := kept_all h
    unfold holdB at h1
    simp only [Bool.and_eq_true, List.all_eq_true] at h1
    obtain ⟨hr, ht, hs, hu⟩ := h1
    have hfs : (setM l (d + 1) x m).fs = (m.fs.filter (toldB x.t.fs)).map (fun f => setF (setM l d (blwB l x f)) f) := rfl
    have hus : (setM l (d + 1) x m).us = m.us.filter (untk x.t.fs) := rfl
    have hmem : ∀ f' ∈ (setM l (d + 1) x m).fs, ∃ f ∈ m.fs, f' = setF (setM l d (blwB l x f)) f := fun f' hf' => by
      rw [hfs] at hf'
      obtain ⟨f, hf, rfl⟩ := List.mem_map.1 hf'
      exact ⟨f, (List.mem_filter.1 hf).1, rfl⟩
    have hsub : ((m.fs.filter (toldB x.t.fs)).map (fun f => setF (setM l d (blwB l x f)) f)).map CF.num = (m.fs.filter (toldB x.t.fs)).map CF.num := by
      rw [List.map_map]
      rfl
    have hpw : ((m.fs.filter (toldB x.t.fs)).map (fun f => setF (setM l d (blwB l x f)) f)).Pairwise (fun a b => a.num < b.num) := by
      rw [List.pairwise_map]
      exact (rise_pairs hr).filter _
    rw [hw]
    unfold holdB
    simp only [Bool.and_eq_true, List.all_eq_true]
    refine ⟨⟨by rw [hfs]; exact rise_of hpw, fun f' hf' => ?_, ?_, fun e he => ?_⟩, fun f' hf' z hz => ?_⟩
    · obtain ⟨f, hf, rfl⟩ := hmem f' hf'
      have := ht f hf
      unfold typB8 at this ⊢
      rw [setF_num, field_set]
      exact this
    · unfold singleB at hs ⊢
      rw [single_pairs] at hs ⊢
      rw [hfs]
      refine ⟨fun y hy _ => rfl, ?_⟩
      rw [List.pairwise_map]
      exact hs.2.filter _
    · rw [hus] at he
      exact hu e (List.mem_filter.1 he).1
    · obtain ⟨f, hf, rfl⟩ := hmem f' hf'
      have hb : blwB l x (setF (setM l d (blwB l x f)) f) = blwB l x f := rfl
      rw [hb]
      rw [allM_set] at hz
      obtain ⟨z0, hz0, rfl⟩ := List.mem_map.1 hz
      exact set_kept l d _ z0 (h2 f hf z0 hz0)
/-- What is settled stays. -/
theorem set_idem (l : List TV) : ∀ (d : Nat) (x : TV) (m : CM), setM l d x (setM l d x m) = setM l d x m
  | 0, x, m => rfl
  | d + 1, x, m => by
    have hfs : (setM l (d + 1) x m).fs = (m.fs.filter (toldB x.t.fs)).map (fun f => setF (setM l d (blwB l x f)) f) := rfl
    have hus : (setM l (d + 1) x m).us = m.us.filter (untk x.t.fs) := rfl
    refine CM.ext ?_ ?_
    · show ((setM l (d + 1) x m).fs.filter (toldB x.t.fs)).map (fun f => setF (setM l d (blwB l x f)) f) = _
      have e1 : (setM l (d + 1) x m).fs.filter (toldB x.t.fs) = (setM l (d + 1) x m).fs := by
        rw [List.filter_eq_self]
        intro f' hf'
        rw [hfs] at hf'
        obtain ⟨f, hf, rfl⟩ := List.mem_map.1 hf'
        rw [told_set]
        exact (List.mem_filter.1 hf).2
      rw [e1]
      refine map_self fun f' hf' => ?_
      rw [hfs] at hf'
      obtain ⟨f, hf, rfl⟩ := List.mem_map.1 hf'
      have hb : blwB l x (setF (setM l d (blwB l x f)) f) = blwB l x f := rfl
      rw [hb]
      have hv : ∀ v : CV CM, setV (setM l d (blwB l x f)) (setV (setM l d (blwB l x f)) v) = setV (setM l d (blwB l x f)) v := fun v => by
        unfold setV
        congr 1
        rw [List.map_map]
        exact List.map_congr_left fun z _ => set_idem l d _ z
      unfold setF
      congr 1
      · rw [List.map_map]
        exact List.map_congr_left fun v _ => hv v
      · rw [List.map_map]
        exact List.map_congr_left fun v _ => hv v
    · show (setM l (d + 1) x m).us.filter (untk x.t.fs) = _
      rw [hus, List.filter_filter]
      congr 1
      funext e
      cases untk x.t.fs e <;> rfl
theorem mxL_mono {dm dm' : CM → Nat} {g : CM → CM} : ∀ (ms : List CM) {a a' : Nat}, a ≤ a' → (∀ z ∈ ms, dm (g z) ≤ dm' z) → mxL dm a (ms.map g) ≤ mxL dm' a' ms
  | [], a, a', h, _ => h
  | z :: r, a, a', h, hz => mxL_mono r (by have := hz z List.mem_cons_self; dsimp only; omega) (fun y hy => hz y (List.mem_cons_of_mem _ hy))
theorem depVs_mono {dm dm' : CM → Nat} {g : CM → CM} : ∀ (l : List (CV CM)) {a a' : Nat}, a ≤ a' → (∀ v ∈ l, ∀ z ∈ v.ms, dm (g z) ≤ dm' z) → depVs dm a (l.map (setV g)) ≤ depVs dm' a' l
  | [], a, a', h, _ => h
  | v :: r, a, a', h, hz => depVs_mono r (mxL_mono v.ms h (fun z hz' => hz v List.mem_cons_self z hz')) (fun y hy => hz y (List.mem_cons_of_mem _ hy))
theorem depFs_mono {dm : CM → Nat} {P : CF CM → Bool} {G : CF CM → CM → CM} (hG : ∀ f z, dm (G f z) ≤ dm z) : ∀ (l : List (CF CM)) {a a' : Nat}, a ≤ a' → ((l.filter P).map (fun f => setF (G f) f)).foldl (fun a f => max (max a (depVs dm 0 f.ks)) (depVs dm 0 f.vs)) a ≤ l.foldl (fun a f => max (max a (depVs dm 0 f.ks)) (depVs dm 0 f.vs)) a'
  | [], a, a', h => h
  | f :: r, a, a', h => by
    rw [List.filter_cons, List.foldl_cons]
    cases P f with
    | true =>
      rw [if_pos rfl, List.map_cons, List.foldl_cons]
      refine depFs_mono hG r ?_
      have h1 : depVs dm 0 (setF (G f) f).ks ≤ depVs dm 0 f.ks := depVs_mono f.ks (Nat.le_refl 0) (fun v _ z _ => hG f z)
      have h2 : depVs dm 0 (setF (G f) f).vs ≤ depVs dm 0 f.vs := depVs_mono f.vs (Nat.le_refl 0) (fun v _ z _ => hG f z)
      omega
    | false =>
      rw [if_neg (by simp)]
      refine depFs_mono hG r ?_
      omega
/-- What is settled is not deeper. -/
theorem set_depth (l : List TV) : ∀ (d : Nat) (x : TV) (m : CM), depM d (setM l d x m) ≤ depM d m
  | 0, x, m => Nat.le_refl _
  | d + 1, x, m => Nat.succ_le_succ (depFs_mono (P := toldB x.t.fs) (G := fun f => setM l d (blwB l x f)) (fun f z => set_depth l d _ z) m.fs (Nat.le_refl 0))
end Go.Proofs.YtgephggcgopfgaaGreatDoor
namespace Go.Proofs.YtgephggcgopfgaaGreatDoor
open Go.RowKit
set_option maxRecDepth 1000000
set_option linter.unusedVariables false
set_option linter.unusedSimpArgs false
/-- A field at its place: ahead of the first whose number is greater. -/
def insM (f : CF CM) : List (CF CM) → List (CF CM)
  | [] => [f]
  | o :: r => if laterB f.num o = true then f :: o :: r else o :: insM f r
/-- A message with a field, without those that can't be beside it. -/
def withM (fs : List FT) (m : CM) (f : CF CM) : CM := CM.mk (insM f (m.fs.filter (stayB fs f.num))) m.us
theorem insM_mem (f : CF CM) : ∀ l : List (CF CM), f ∈ insM f l
  | [] => List.mem_cons_self
  | o :: r => by
    unfold insM
    split
    · exact List.mem_cons_self
    · exact List.mem_cons_of_mem _ (insM_mem f r)
theorem insM_filter {f : CF CM} {P : CF CM → Bool} (hf : P f = false) : ∀ l : List (CF CM), (insM f l).filter P = l.filter P
  | [] => by simp [insM, hf]
  | o :: r => by
    unfold insM
    split
    · rw [List.filter_cons, hf, if_neg (by simp)]
    · rw [List.filter_cons, List.filter_cons, insM_filter hf r]
theorem stay_self (fs : List FT) (f : CF CM) : stayB fs f.num f = false := by
  unfold stayB stayO
  simp
theorem with_again (fs : List FT) (m : CM) (f : CF CM) : withM fs (withM fs m f) f = withM fs m f := by
  refine CM.ext ?_ rfl
  show insM f ((insM f (m.fs.filter (stayB fs f.num))).filter (stayB fs f.num)) = insM f (m.fs.filter (stayB fs f.num))
  rw [insM_filter (stay_self fs f), List.filter_filter]
  congr 2
  funext o
  cases stayB fs f.num o <;> rfl
/-- Where the numbers rise, the field of a number is the one that is there. -/
theorem rise_find {l : List (CF CM)} (h : riseM l = true) {f : CF CM} (hf : f ∈ l) : l.find? (fun o => o.num == f.num) = some f := by
  cases hq : l.find? (fun o => o.num == f.num) with
  | none =>
    have := List.find?_eq_none.1 hq f hf
    simp at this
  | some o =>
    have h1 : o.num = f.num := by simpa using List.find?_some hq
    obtain ⟨i, hi, e1⟩ := List.mem_iff_getElem.1 (List.mem_of_find?_eq_some hq)
    obtain ⟨j, hj, e2⟩ := List.mem_iff_getElem.1 hf
    rcases Nat.lt_trichotomy i j with e | e | e
    · have := rise_lt h i j e hj
      rw [e1, e2] at this
      omega
    · subst e
      rw [← e1, ← e2]
    · have := rise_lt h j i e hi
      rw [e1, e2] at this
      omega
theorem with_find {l : List TV} {x : TV} {d : Nat} {fs : List FT} {m : CM} {f : CF CM} (h : keptB l (d + 1) x (withM fs m f) = true) : (withM fs m f).fs.find? (fun o => o.num == f.num) = some f := by
  have h1 := (kept_all h).1
  unfold holdB at h1
  rw [Bool.and_eq_true] at h1
  exact rise_find h1.1 (insM_mem f _)
/-- The place, by number. -/
def plcM (n : Int) (l : List (CF CM)) : Nat := (l.takeWhile (fun o => !(laterB n o))).length
theorem insM_at (f : CF CM) : ∀ l : List (CF CM), insM f l = l.take (plcM f.num l) ++ f :: l.drop (plcM f.num l)
  | [] => rfl
  | o :: r => by
    unfold insM plcM
    rw [List.takeWhile_cons]
    cases hq : laterB f.num o with
    | true => simp
    | false =>
      rw [if_neg (by simp)]
      have := insM_at f r
      unfold plcM at this
      simp only [Bool.not_false, if_true, List.length_cons, List.take_succ_cons, List.drop_succ_cons, List.cons_append]
      rw [← this]
theorem plcM_le (n : Int) (l : List (CF CM)) : plcM n l ≤ l.length := by
  unfold plcM
  exact (List.takeWhile_sublist _).length_le
end Go.Proofs.YtgephggcgopfgaaGreatDoor
namespace Go.Proofs.YtgephggcgopfgaaGreatDoor
open Go.RowKit
set_option maxRecDepth 1000000
set_option linter.unusedVariables false
set_option linter.unusedSimpArgs false
set_option maxHeartbeats 1000000
theorem Tryz.infoFI : (Tryz.prog.info? 29).map (fun i => (i.zero, i.size, i.bytes)) = some (some (.agg #[.int .i64 0, .slice none 0 0, .slice none 0 0]), 3, 56) := by kernel_rfl
/-- copy of n structs of s cells into a row of one's own, from wherever they lie (the same block, too). -/
theorem run_copy_rowS (P : Program) (w : World) (dT sT ty elem : TypeId) (g o dLen dCap : Nat) (a : Addr) (sLen sCap : Nat) (cur : Array Value) (t : TypeId) (cs : List Value) (s n : Nat)
    (hu : P.underlying dT = some (.slice elem)) (hs : (P.info? elem).map (·.size) = some s)
    (hg : w.heap[g]? = some (.cells cur t (0, 0))) (hn : n = Nat.min sLen dLen) (hcl : cs.length = n * s)
    (hsrc : ∀ j v, cs[j]? = some v → w.cell? (a.add j) = some v) (hfit : o + cs.length ≤ cur.size) (h1 : ∀ v ∈ cs, v.oneCell' = true) :
    (Builtin.copy_ #[dT, sT] ty #[.slice (some ⟨g, o, none⟩) dLen dCap, .slice (some a) sLen sCap]).run P w =
      .ok (goInt n) (w.setRow g (cur.toList.take o ++ cs ++ cur.toList.drop (o + cs.length)).toArray) := by
  have hl := run_loadCells_list (P := P) w a cs hsrc
  have hst := run_storeCells_at P g o t cs 0 cur w hg (by simpa using hfit) h1
  cases hq : P.info? elem with
  | none => simp [hq] at hs
  | some i =>
    have hi : i.size = s := by simpa [hq] using hs
    rw [hcl] at hl
    simp [Builtin.copy_, run_underlying hu, Builtin.lenOf, Builtin.firstCells, sizeOf, typeInfo, hq, hi, ← hn, hl, hst]
theorem step_copy_ran {P : Program} {ops : Array Oper} {o : Oper} {a : Act} {w : World} {K : Act → World → Prop} {Q : Exit → Act → World → Prop} {E : Prop}
    (hg : o.guard = none) (d x : Operand) (t : TypeId) (hop : o.op = Op.call { callee := Callee.builtin Builtin.copy, args := #[d, x], argTypes := #[t, t] })
    (v u : Value) (hd : a.eval d = v) (hx : a.eval x = u) {v' : Value} {w' : World} (hr : (Builtin.copy_ #[t, t] o.type #[v, u]).run P w = .ok v' w') (hK : K (a.put o.dst v') w') :
    if Region.wanted o (yielded ops a.tmps) = true then Oper.wp P o a w K Q else E := by
  have hw : Region.wanted o (yielded ops a.tmps) = true := by simp [Region.wanted, hg]
  rw [if_pos hw]
  unfold Oper.wp
  simp [execOp, hop, resolve, invoke, builtin, hd, hx, hr, Result.andThen]
  exact hK
theorem wpList_appendz_ran {P : Program} {w : World} {ops : Array Oper} {rest : List Oper} {o : Oper} {a : Act} {Q : Exit → Act → World → Prop} (hgd : o.guard = none) (d s : Operand) (t t' : TypeId)
    (ho : o.op = .call { callee := .builtin .append, args := #[d, s], argTypes := #[t, t'] }) (v u : Value) (hd : a.eval d = v) (hs : a.eval s = u) {v' : Value} {w' : World}
    (hr : (Builtin.append_ #[t, t'] o.type #[v, u]).run P w = .ok v' w') (h : wpList P ops Q rest (a.put o.dst v') w') : wpList P ops Q (o :: rest) a w := by
  refine wpList_plain hgd fun K hK => ?_
  unfold Oper.wp
  simp [execOp, ho, resolve, invoke, builtin, hd, hs, hr, Result.andThen]
  exact hK _ _ h
theorem below_drew' {B : Nat} {w0 w : World} (hb : Below B w0 w) : Below B w0 w.drew := ⟨hb.os, hb.tape, hb.output, hb.size, hb.block⟩
theorem add_lit (b o j : Nat) : (⟨b, o, none⟩ : Addr).add j = ⟨b, o + j, none⟩ := by unfold Addr.add; split <;> simp_all
theorem cell_of {w : World} {g : Nat} {cur : Array Value} {t : TypeId} {f : Nat × Nat} (h : w.heap[g]? = some (.cells cur t f)) (j : Nat) : w.cell? ⟨g, j, none⟩ = cur[j]? := by unfold World.cell?; simp [h]
/-- One struct more, out of a block of its own. -/
theorem appendV (base : Nat) (v : Value) (n : Nat) (fl : List Value) (w : World) (h : w.ownsRow base 29 3 v n fl) (vb : Nat) (c0 c1 c2 : Value) (hv : Blk w vb 29 #[c0, c1, c2]) (h1 : ∀ u ∈ [c0, c1, c2], u.oneCell' = true) (hb : base ≤ w.heap.size) (hn : n ≤ 4000000) :
    ∃ a c w', Hid ((Builtin.append_ #[32, 32] 32 #[v, .slice (some ⟨vb, 0, none⟩) 1 1]).run Tryz.prog w = .ok (.slice a (n + 1) c) w') ∧ Hid (w'.ownsRow base 29 3 (.slice a (n + 1) c) (n + 1) (fl ++ [c0, c1, c2])) ∧ Hid (Grow w w' v (.slice a (n + 1) c)) := by
  obtain ⟨i0, hi, hz0, hz1, hz2⟩ := info_parts Tryz.infoFI
  have hcell : ∀ j u, [c0, c1, c2][j]? = some u → w.cell? ((⟨vb, 0, none⟩ : Addr).add j) = some u := by
    intro j u hu
    rw [add_lit, Nat.zero_add]
    exact hv.cell j u (by simpa using hu)
  obtain ⟨v', w', hr, ho, hg⟩ := run_append_mine (P := Tryz.prog) w base 32 32 29 i0 _ 3 56 Tryz.underlying32 hi hz0 hz1 hz2 rfl (by decide) v n fl h ⟨vb, 0, none⟩ 1 1 [c0, c1, c2] (by simp) hcell h1 (by unfold maxLen; omega) (by omega) hb
  obtain ⟨a, c, rfl⟩ := own_shape ho
  exact ⟨a, c, w', hid hr, hid ho, hid hg⟩
theorem insertEnd (w : World) (base : Nat) (v : Value) (n : Nat) (fl : List Value) (h : w.ownsRow base 29 3 v n fl) (vb : Nat) (c0 c1 c2 : Value) (hv : Blk w vb 29 #[c0, c1, c2]) (h1 : ∀ u ∈ [c0, c1, c2], u.oneCell' = true) (hb : base ≤ w.heap.size) (hn : n ≤ 4000000) : Calls Tryz.prog 115 #[v, .int .i64 (n : Int), .slice (some ⟨vb, 0, none⟩) 1 1] w fun e w' => ∃ a c, e = .returned (.slice a (n + 1) c) ∧ w'.ownsRow base 29 3 (.slice a (n + 1) c) (n + 1) (fl ++ [c0, c1, c2]) ∧ Grow w w' v (.slice a (n + 1) c) := by
  obtain ⟨la, lc, x3, HRUN, HO, HG⟩ := appendV base v n fl w h vb c0 c1 c2 hv h1 hb hn
  have m1 : (n : Int) ≤ 9223372036854775807 := by omega
  rcases h.2 with ⟨rfl, h0⟩ | ⟨g, cap, cur, rfl, hbg, hg, hnc, hcm, hcs2, htake⟩
  · subst h0
    clear h hv
    go_enter Tryz.func115, Tryz.ntmps115
    go_wp2_with (first | (at_builtin; refine wpList_append_ran rfl _ _ 32 32 rfl rfl _ _ (.slice la (0 + 1) lc) x3 rfl rfl HRUN.out ?_))
    go_ret
    exact ⟨la, lc, rfl, HO.out, HG.out⟩
  · have k1 : (n : Int) ≤ (cap : Int) := by omega
    have k2 : (cap : Int) ≤ 9223372036854775807 := by unfold maxLen at hcm; omega
    have HGA : Hid (∀ c', Grow w x3 (.slice (some ⟨g, 0, none⟩) n c') (.slice la (n + 1) lc)) := hid fun c' => ⟨HG.out.os, HG.out.tape, HG.out.output, HG.out.size, HG.out.block, HG.out.own⟩
    clear h hv hg hcs2 htake
    go_enter Tryz.func115, Tryz.ntmps115
    go_wp2_with (first | (at_builtin; refine wpList_append_ran rfl _ _ 32 32 rfl rfl _ _ (.slice la (n + 1) lc) x3 rfl rfl HRUN.out ?_))
    all_goals (go_ret; exact ⟨la, lc, rfl, HO.out, HGA.out _⟩)
/-- Lists: what stands behind a prefix of known length. -/
theorem tk_app {α : Type} {a b : List α} {k : Nat} (h : a.length = k) : (a ++ b).take k = a := by rw [← h, List.take_left']; rfl
theorem dr_app {α : Type} {a b : List α} {k : Nat} (h : a.length = k) : (a ++ b).drop k = b := by rw [← h, List.drop_left']; rfl
theorem szFI : (Tryz.prog.info? 29).map (·.size) = some 3 := by
  obtain ⟨i0, hi, hz0, hz1, hz2⟩ := info_parts Tryz.infoFI
  rw [hi]
  simp [hz1]
set_option maxRecDepth 100000 in
theorem insertGrow (w : World) (base g n i : Nat) (fl : List Value) (hg : Blk w g 29 fl.toArray) (hfl : fl.length = n * 3) (hi : i < n) (vb : Nat) (c0 c1 c2 : Value) (hv : Blk w vb 29 #[c0, c1, c2]) (h1 : ∀ u ∈ [c0, c1, c2], u.oneCell' = true) (h1f : ∀ u ∈ fl, u.oneCell' = true) (hb : base ≤ w.heap.size) (hn : n ≤ 4000000) : Calls Tryz.prog 115 #[.slice (some ⟨g, 0, none⟩) n n, .int .i64 (i : Int), .slice (some ⟨vb, 0, none⟩) 1 1] w fun e w' => ∃ a c, e = .returned (.slice a (n + 1) c) ∧ w'.ownsRow base 29 3 (.slice a (n + 1) c) (n + 1) (fl.take (i * 3) ++ [c0, c1, c2] ++ fl.drop (i * 3)) ∧ Below w.heap.size w w' ∧ a = some ⟨w.heap.size, 0, none⟩ := by
  obtain ⟨i0, hi0, hz0, hzs, hzb⟩ := info_parts Tryz.infoFI
  have hold : (Builtin.firstCells i0.size i (.slice (some ⟨g, 0, none⟩) i n)).run Tryz.prog w.drew = .ok (fl.take (i * 3)).toArray w.drew := by
    rw [hzs]
    exact run_firstCells_some w.drew 3 i ⟨g, 0, none⟩ i n (fl.take (i * 3)) (by rw [List.length_take]; omega) (fun j v hj => by
      rw [add_lit, Nat.zero_add]
      rw [List.getElem?_take] at hj
      split at hj
      · exact hg.cell j v (by simpa using hj)
      · cases hj)
  have HA := fun ty => Lib.run_append_grow_zeros (P := Tryz.prog) w 32 3 ty 29 i0 _ .i64 .i64 Tryz.underlying32 Tryz.underlying3 hi0 hz0 (some ⟨g, 0, none⟩) i n (fl.take (i * 3)) hold (n + 1 - i) (by omega) (by omega) (by omega) (by omega) (by rw [hzb]; omega) (by rw [hzb]; exact growslice_fits (by omega) (by omega))
  simp only [show i + (n + 1 - i) = n + 1 by omega] at HA
  obtain ⟨G, hG⟩ : ∃ G, G = grownCap w (n + 1) n 29 := ⟨_, rfl⟩
  simp only [← hG] at HA
  have hGn : n + 1 ≤ G := by rw [hG]; exact grownCap_ge w _ _ _
  have hGm : G ≤ maxLen := by rw [hG]; exact grownCap_le_maxLen w _ _ _ (by unfold maxLen; omega)
  clear hG
  obtain ⟨ROW, hROW⟩ : ∃ ROW : Array Value, ROW = (fl.take (i * 3)).toArray ++ Builtin.zeroCells (Value.agg #[.int .i64 0, .slice none 0 0, .slice none 0 0]).cells (n + 1 - i) ++ Builtin.zeroCells (Value.agg #[.int .i64 0, .slice none 0 0, .slice none 0 0]).cells (G - (n + 1)) := ⟨_, rfl⟩
  simp only [← hROW] at HA
  have HA2 := HA
  have hfi : (fl.take (i * 3)).length = i * 3 := by rw [List.length_take]; omega
  have hRS : ROW.size = G * 3 := by
    rw [hROW]
    simp only [Array.size_append, List.size_toArray, hfi, Builtin.zeroCells, Array.size_map, Array.size_range]
    simp only [Value.cells]
    show i * 3 + (n + 1 - i) * 3 + (G - (n + 1)) * 3 = G * 3
    omega
  have hRT : ROW.toList.take (i * 3) = fl.take (i * 3) := by
    rw [hROW]
    simp only [Array.toList_append, List.append_assoc]
    exact tk_app hfi
  clear hROW hold
  obtain ⟨R2, hR2⟩ : ∃ R2 : Array Value, R2 = (ROW.toList.take (i * 3) ++ [c0, c1, c2] ++ ROW.toList.drop (i * 3 + [c0, c1, c2].length)).toArray := ⟨_, rfl⟩
  have hR2s : R2.size = G * 3 := by
    rw [hR2]
    simp [hRS]
    omega
  obtain ⟨R3, hR3⟩ : ∃ R3 : Array Value, R3 = (R2.toList.take ((i + 1) * 3) ++ fl.drop (i * 3) ++ R2.toList.drop ((i + 1) * 3 + (fl.drop (i * 3)).length)).toArray := ⟨_, rfl⟩
  have hR3s : R3.size = G * 3 := by
    rw [hR3]
    simp [hR2s]
    omega
  have hR3t : R3.toList.take ((n + 1) * 3) = fl.take (i * 3) ++ [c0, c1, c2] ++ fl.drop (i * 3) := by
    have e2 : R2.toList.take ((i + 1) * 3) = fl.take (i * 3) ++ [c0, c1, c2] := by
      rw [hR2, List.toList_toArray, hRT]
      exact tk_app (by rw [List.length_append, hfi]; simp; omega)
    rw [hR3, List.toList_toArray, e2]
    exact tk_app (by rw [List.length_append, List.length_append, hfi, List.length_drop]; simp; omega)
  have hN : ∀ (W : World), W.heap = (w.drew.alloc (.cells ROW 29)).heap → W.heap[w.heap.size]? = some (.cells ROW 29 (0, 0)) := fun W hW => by
    rw [hW]
    show (w.heap.push _)[w.heap.size]? = _
    simp
  have hO : ∀ (W : World), W.heap = (w.drew.alloc (.cells ROW 29)).heap → ∀ k, k < w.heap.size → W.heap[k]? = w.heap[k]? := fun W hW k hk => by
    rw [hW]
    show (w.heap.push _)[k]? = _
    rw [Array.getElem?_push_lt hk, Array.getElem?_eq_getElem hk]
  have hvw := hv.lt
  have hgw := hg.lt
  have hcpA : ∀ (W : World), W.heap = (w.drew.alloc (.cells ROW 29)).heap → ∀ ty dc, (Builtin.copy_ #[32, 32] ty #[.slice (some ⟨w.heap.size, i * 3, none⟩) (n + 1 - i) dc, .slice (some ⟨vb, 0, none⟩) 1 1]).run Tryz.prog W = .ok (goInt 1) (W.setRow w.heap.size R2) := fun W hW ty dc => by
    rw [hR2]
    exact run_copy_rowS Tryz.prog W _ _ ty 29 w.heap.size (i * 3) (n + 1 - i) dc ⟨vb, 0, none⟩ 1 1 ROW 29 [c0, c1, c2] 3 1 Tryz.underlying32 szFI (hN W hW) (by simp only [Nat.min_def]; split <;> omega) (by simp)
      (fun j v hj => by rw [add_lit, Nat.zero_add, cell_of ((hO W hW vb hvw).trans hv)]; simpa using hj) (by simp [hRS]; omega) h1
  have hcpB : ∀ (W : World), W.heap = ((w.drew.alloc (.cells ROW 29)).setRow w.heap.size R2).heap → ∀ ty dc sc, (Builtin.copy_ #[32, 32] ty #[.slice (some ⟨w.heap.size, (i + 1) * 3, none⟩) (n + 1 - (i + 1)) dc, .slice (some ⟨g, i * 3, none⟩) (n - i) sc]).run Tryz.prog W = .ok (goInt ((n - i : Nat) : Int)) (W.setRow w.heap.size R3) := fun W hW ty dc sc => by
    rw [hR3]
    have q1 : W.heap[w.heap.size]? = some (.cells R2 29 (0, 0)) := by
      rw [hW]
      exact setRow_heap _ _ ROW R2 _ _ (hN _ rfl)
    have q2 : W.heap[g]? = some (.cells fl.toArray 29 (0, 0)) := by
      rw [hW, setRow_other _ _ _ _ (by omega), hO _ rfl g hgw]
      exact hg
    exact run_copy_rowS Tryz.prog W _ _ ty 29 w.heap.size ((i + 1) * 3) (n + 1 - (i + 1)) dc ⟨g, i * 3, none⟩ (n - i) sc R2 29 (fl.drop (i * 3)) 3 (n - i) Tryz.underlying32 szFI q1 (by simp only [Nat.min_def]; split <;> omega) (by rw [List.length_drop]; omega)
      (fun j v hj => by rw [add_lit, cell_of q2]; rw [List.getElem?_drop] at hj; simpa using hj) (by rw [List.length_drop, hR2s]; omega) (fun u hu => h1f u (List.mem_of_mem_drop hu))
  have hfin : ∀ (W : World), W.heap = ((w.drew.alloc (.cells ROW 29)).setRow w.heap.size R2).heap → (W.setRow w.heap.size R3).ownsRow base 29 3 (.slice (some ⟨w.heap.size, 0, none⟩) (n + 1) G) (n + 1) (fl.take (i * 3) ++ [c0, c1, c2] ++ fl.drop (i * 3)) := fun W hW => by
    refine ⟨by simp; omega, .inr ⟨w.heap.size, G, R3, rfl, hb, ?_, hGn, hGm, hR3s, hR3t⟩⟩
    refine setRow_heap _ _ R2 R3 _ _ ?_
    rw [hW]
    exact setRow_heap _ _ ROW R2 _ _ (hN _ rfl)
  have HFIN := hid hfin
  have k0 : ¬ ((i : Int) = (n : Int)) := by omega
  have k1 : (i : Int) ≤ (n : Int) := by omega
  have k2 : (n : Int) < (n : Int) + 1 := by omega
  have HK3 : Hid ((n : Int) + 1 - (i : Int) = ((n + 1 - i : Nat) : Int)) := hid (by omega)
  have k5 : (G : Int) ≤ 9223372036854775807 := by unfold maxLen at hGm; omega
  have HA' : ∀ ty, (Builtin.append_ #[32, 3] ty #[.slice (some ⟨g, 0, none⟩) i n, .int .i64 ((n : Int) + 1 - (i : Int))]).run Tryz.prog w = .ok (.slice (some ⟨w.heap.size, 0, none⟩) (n + 1) G) (w.drew.alloc (.cells ROW 29)) := fun ty => by
    rw [HK3.out]
    exact HA2 ty
  have k6 : ¬ (G = i) := by omega
  have k7 : ¬ (G = i + 1) := by omega
  have k8 : ¬ (n = i) := by omega
  clear HA HA2 hfin hRS hRT hR2 hR3 hR2s hR3s hR3t hGm hfi hN hO hi0 hz0 hzs hzb
  have hE1 : ((w.alloc (.cells ROW 29)).drew).heap = (w.drew.alloc (.cells ROW 29)).heap := rfl
  have hE2 : (((w.alloc (.cells ROW 29)).drew.setRow w.heap.size R2).drew).heap = ((w.drew.alloc (.cells ROW 29)).setRow w.heap.size R2).heap := rfl
  have HAA := hid HA'
  have HCA := hid hcpA
  have HCB := hid hcpB
  clear HA' hcpA hcpB hg hv h1 h1f hfl
  go_enter Tryz.func115, Tryz.ntmps115
  go_wp2_with (first
    | (at_builtin; refine wpList_appendz_ran rfl _ _ _ _ rfl _ _ rfl rfl (HAA.out _) ?_))
  rw [HCA.out _ hE1 _ _]
  have hw1 : IntKind.i64.wrap ((i : Int) + 1) = (i : Int) + 1 := by rw [IntKind.wrap_i64]; omega
  have hb1 : (0 : Int) ≤ (i : Int) + 1 := by omega
  have htn : ((i : Int) + 1).toNat = i + 1 := by omega
  have hb4 : (i : Int) + 1 ≤ (n : Int) + 1 := by omega
  go_wp2
  go_region_law (refine step_copy_ran rfl _ _ 32 rfl (.slice (some ⟨w.heap.size, (i + 1) * 3, none⟩) (n + 1 - (i + 1)) (G - (i + 1))) (.slice (some ⟨g, i * 3, none⟩) (n - i) (n - i)) (by simp [Act.eval, Act.put]) (by simp [Act.eval, Act.put]) (HCB.out _ hE2 3 (G - (i + 1)) (n - i)) ?_)
  go_wp2
  go_ret
  exact ⟨_, G, rfl, HFIN.out _ hE2, below_setRow (below_drew' (below_setRow (below_drew' (below_alloc _)) (Nat.le_refl _) _)) (Nat.le_refl _) _, rfl⟩
/-- There is room. -/
theorem insertShift (w : World) (base g n cap i : Nat) (fl : List Value) (cur : Array Value) (hg : Blk w g 29 cur) (hbg : base ≤ g) (hcm : cap ≤ maxLen) (hcs : cur.size = cap * 3) (htk : cur.toList.take (n * 3) = fl) (hroom : n + 1 ≤ cap) (hi : i < n) (vb : Nat) (hvb : vb ≠ g) (c0 c1 c2 : Value) (hv : Blk w vb 29 #[c0, c1, c2]) (h1 : ∀ u ∈ [c0, c1, c2], u.oneCell' = true) (h1f : ∀ u ∈ fl, u.oneCell' = true) (hn : n ≤ 4000000) : Calls Tryz.prog 115 #[.slice (some ⟨g, 0, none⟩) n cap, .int .i64 (i : Int), .slice (some ⟨vb, 0, none⟩) 1 1] w fun e w' => ∃ S, e = .returned (.slice (some ⟨g, 0, none⟩) (n + 1) cap) ∧ w' = (w.drew.setRow g S) ∧ w'.ownsRow base 29 3 (.slice (some ⟨g, 0, none⟩) (n + 1) cap) (n + 1) (fl.take (i * 3) ++ [c0, c1, c2] ++ fl.drop (i * 3)) := by
  have hfl : fl.length = n * 3 := by rw [← htk, List.length_take, Array.length_toList, hcs]; omega
  have hfi : (fl.take (i * 3)).length = i * 3 := by rw [List.length_take]; omega
  have hci : cur.toList.take (i * 3) = fl.take (i * 3) := by rw [← htk, List.take_take]; congr 1; omega
  obtain ⟨S1, hS1⟩ : ∃ S1 : Array Value, S1 = (cur.toList.take ((i + 1) * 3) ++ fl.drop (i * 3) ++ cur.toList.drop ((i + 1) * 3 + (fl.drop (i * 3)).length)).toArray := ⟨_, rfl⟩
  have hS1s : S1.size = cap * 3 := by
    rw [hS1]
    simp [hcs]
    omega
  obtain ⟨S2, hS2⟩ : ∃ S2 : Array Value, S2 = (S1.toList.take (i * 3) ++ [c0, c1, c2] ++ S1.toList.drop (i * 3 + [c0, c1, c2].length)).toArray := ⟨_, rfl⟩
  have hS2s : S2.size = cap * 3 := by
    rw [hS2]
    simp [hS1s]
    omega
  have hS2t : S2.toList.take ((n + 1) * 3) = fl.take (i * 3) ++ [c0, c1, c2] ++ fl.drop (i * 3) := by
    have e0 : (cur.toList.take ((i + 1) * 3)).length = (i + 1) * 3 := by rw [List.length_take, Array.length_toList, hcs]; omega
    have e1 : S1.toList.take (i * 3) = fl.take (i * 3) := by
      rw [hS1, List.toList_toArray, List.append_assoc, List.take_append_of_le_length (by omega), List.take_take, ← hci]
      congr 1
      omega
    have e2 : S1.toList.drop (i * 3 + [c0, c1, c2].length) = fl.drop (i * 3) ++ cur.toList.drop ((i + 1) * 3 + (fl.drop (i * 3)).length) := by
      rw [hS1, List.toList_toArray, List.append_assoc]
      exact dr_app (by rw [e0]; simp; omega)
    rw [hS2, List.toList_toArray, e1, e2, ← List.append_assoc]
    exact tk_app (by rw [List.length_append, List.length_append, hfi, List.length_drop]; simp; omega)
  have hcp1 : ∀ (W : World), W.heap = w.heap → ∀ ty dc sc, (Builtin.copy_ #[32, 32] ty #[.slice (some ⟨g, (i + 1) * 3, none⟩) (n + 1 - (i + 1)) dc, .slice (some ⟨g, i * 3, none⟩) (n + 1 - i) sc]).run Tryz.prog W = .ok (goInt ((n - i : Nat) : Int)) (W.setRow g S1) := fun W hW ty dc sc => by
    rw [hS1]
    have q1 : W.heap[g]? = some (.cells cur 29 (0, 0)) := by rw [hW]; exact hg
    exact run_copy_rowS Tryz.prog W _ _ ty 29 g ((i + 1) * 3) (n + 1 - (i + 1)) dc ⟨g, i * 3, none⟩ (n + 1 - i) sc cur 29 (fl.drop (i * 3)) 3 (n - i) Tryz.underlying32 szFI q1 (by simp only [Nat.min_def]; split <;> omega) (by rw [List.length_drop]; omega)
      (fun j v hj => by
        rw [add_lit, cell_of q1]
        rw [List.getElem?_drop, ← htk, List.getElem?_take] at hj
        split at hj
        · simpa using hj
        · cases hj) (by rw [List.length_drop, hcs]; omega) (fun u hu => h1f u (List.mem_of_mem_drop hu))
  have hcp2 : ∀ (W : World), W.heap = (w.setRow g S1).heap → ∀ ty dc, (Builtin.copy_ #[32, 32] ty #[.slice (some ⟨g, i * 3, none⟩) (n + 1 - i) dc, .slice (some ⟨vb, 0, none⟩) 1 1]).run Tryz.prog W = .ok (goInt 1) (W.setRow g S2) := fun W hW ty dc => by
    rw [hS2]
    have q1 : W.heap[g]? = some (.cells S1 29 (0, 0)) := by rw [hW]; exact setRow_heap _ _ cur S1 _ _ hg
    have q2 : W.heap[vb]? = some (.cells #[c0, c1, c2] 29 (0, 0)) := by rw [hW, setRow_other _ _ _ _ hvb]; exact hv
    exact run_copy_rowS Tryz.prog W _ _ ty 29 g (i * 3) (n + 1 - i) dc ⟨vb, 0, none⟩ 1 1 S1 29 [c0, c1, c2] 3 1 Tryz.underlying32 szFI q1 (by simp only [Nat.min_def]; split <;> omega) (by simp)
      (fun j v hj => by rw [add_lit, Nat.zero_add, cell_of q2]; simpa using hj) (by simp [hS1s]; omega) h1
  have hsz : ∀ W : World, (Go.sizeOf 29).run Tryz.prog W = .ok 3 W := fun W => by
    obtain ⟨i0, hi0, _, hz1, _⟩ := info_parts Tryz.infoFI
    simp [sizeOf, typeInfo, hi0, hz1]
  have hov : ∀ (W : World), W.heap = w.heap → ∀ lb cb, (callFunc 140 #[.slice (some ⟨vb, 0, none⟩) 1 1, .slice (some ⟨g, (i + 1) * 3, none⟩) lb cb]).run Tryz.prog W = .ok (.value (.bool false)) W := fun W hW lb cb => by
    have s1 : W.shape? vb = some (29, 3) := by unfold World.shape?; rw [hW, show w.heap[vb]? = some (.cells #[c0, c1, c2] 29 (0, 0)) from hv]; rfl
    have s2 : W.shape? g = some (29, cap * 3) := by unfold World.shape?; rw [hW, show w.heap[g]? = some (.cells cur 29 (0, 0)) from hg]; simp [hcs]
    have f1 : ∀ j, W.frozen? ⟨vb, j, none⟩ = false := fun j => by unfold World.frozen?; rw [show W.heap[(⟨vb, j, none⟩ : Addr).block]? = some (.cells #[c0, c1, c2] 29 (0, 0)) from by rw [hW]; exact hv]; simp
    rw [run_callFunc_extern Tryz.func140 (by kernel_rfl) (by kernel_rfl) (by kernel_rfl) (e := Extern.SlicesOverlaps.overlaps #[32, 32] #[4]) (by kernel_rfl),
      Lib.run_overlaps_apart W 32 4 29 Tryz.underlying32 3 hsz ⟨vb, 0, none⟩ ⟨g, (i + 1) * 3, none⟩ 1 1 lb cb hvb 29 29 3 (cap * 3) s1 s2 (by omega) (f1 0) (f1 3)]
    rfl
  have HFIN : Hid ((w.drew.setRow g S2).ownsRow base 29 3 (.slice (some ⟨g, 0, none⟩) (n + 1) cap) (n + 1) (fl.take (i * 3) ++ [c0, c1, c2] ++ fl.drop (i * 3))) := hid ⟨by simp; omega, .inr ⟨g, cap, S2, rfl, hbg, setRow_heap _ _ cur S2 _ _ hg, hroom, hcm, hS2s, hS2t⟩⟩
  have HCA := hid hcp1
  have HCB := hid hcp2
  have hov1 := hov w rfl
  have k0 : ¬ ((i : Int) = (n : Int)) := by omega
  have k1 : (i : Int) ≤ (n : Int) := by omega
  have k2 : ¬ ((cap : Int) < (n : Int) + 1) := by omega
  have k3 : (n : Int) + 1 ≤ (cap : Int) := by omega
  have k5 : (cap : Int) ≤ 9223372036854775807 := by unfold maxLen at hcm; omega
  have k6 : ¬ (cap = i) := by omega
  have k7 : ¬ (cap = i + 1) := by omega
  have hw1 : IntKind.i64.wrap ((i : Int) + 1) = (i : Int) + 1 := by rw [IntKind.wrap_i64]; omega
  have hw2 : IntKind.i64.wrap ((n : Int) + 1) = (n : Int) + 1 := by rw [IntKind.wrap_i64]; omega
  have hb1 : (0 : Int) ≤ (i : Int) + 1 := by omega
  have htn : ((i : Int) + 1).toNat = i + 1 := by omega
  have htm : ((n : Int) + 1).toNat = n + 1 := by omega
  have hb4 : (i : Int) + 1 ≤ (n : Int) + 1 := by omega
  have hb5 : (i : Int) ≤ (n : Int) + 1 := by omega
  clear hov hcp1 hcp2 hsz hS1 hS2 hS1s hS2s hS2t hfl hfi hci hcm hcs htk hroom h1 h1f hv hg
  go_enter Tryz.func115, Tryz.ntmps115
  have hE1 : (w.drew).heap = w.heap := rfl
  have hE2 : (w.drew.setRow g S1).heap = (w.setRow g S1).heap := rfl
  go_wp2_with (simp only [hov1])
  go_region_law (refine step_copy_ran rfl _ _ 32 rfl (.slice (some ⟨g, (i + 1) * 3, none⟩) (n + 1 - (i + 1)) (cap - (i + 1))) (.slice (some ⟨g, i * 3, none⟩) (n + 1 - i) (cap - i)) (by simp [Act.eval, Act.put]) (by simp [Act.eval, Act.put]) (HCA.out _ hE1 3 (cap - (i + 1)) (cap - i)) ?_)
  go_wp2
  rw [HCB.out _ hE2 _ _]
  go_wp2
  go_ret
  refine ⟨S2, rfl, ?_, ?_⟩
  · exact setRow_setRow _ _ _ _
  · rw [setRow_setRow]; exact HFIN.out
/-- Wherever it goes: a row of one's own still; every other old block is as it was. -/
theorem insertT (w : World) (base : Nat) (v : Value) (n : Nat) (fl : List Value) (h : w.ownsRow base 29 3 v n fl) (i : Nat) (hi : i ≤ n) (vb : Nat) (hvb : v.ownBlock ≠ some vb) (c0 c1 c2 : Value) (hv : Blk w vb 29 #[c0, c1, c2]) (h1 : ∀ u ∈ [c0, c1, c2], u.oneCell' = true) (h1f : ∀ u ∈ fl, u.oneCell' = true) (hb : base ≤ w.heap.size) (hn : n ≤ 4000000) : Calls Tryz.prog 115 #[v, .int .i64 (i : Int), .slice (some ⟨vb, 0, none⟩) 1 1] w fun e w' => ∃ a c, e = .returned (.slice a (n + 1) c) ∧ w'.ownsRow base 29 3 (.slice a (n + 1) c) (n + 1) (fl.take (i * 3) ++ [c0, c1, c2] ++ fl.drop (i * 3)) ∧ Grow w w' v (.slice a (n + 1) c) := by
  by_cases hin : i = n
  · subst hin
    have e1 : fl.take (i * 3) = fl := List.take_of_length_le (by rw [h.1]; exact Nat.le_refl _)
    have e2 : fl.drop (i * 3) = [] := List.drop_of_length_le (by rw [h.1]; exact Nat.le_refl _)
    rw [e1, e2, List.append_nil]
    exact insertEnd w base v i fl h vb c0 c1 c2 hv h1 hb hn
  · rcases h.2 with ⟨rfl, h0⟩ | ⟨g, cap, cur, rfl, hbg, hg, hnc, hcm, hcs, htk⟩
    · omega
    · by_cases hroom : n + 1 ≤ cap
      · refine (insertShift w base g n cap i fl cur hg hbg hcm hcs htk hroom (by omega) vb (fun e => hvb (by rw [e]; rfl)) c0 c1 c2 hv h1 h1f hn).mono ?_
        rintro e w' ⟨S, rfl, rfl, ho⟩
        refine ⟨_, cap, rfl, ho, rfl, rfl, rfl, Nat.le_of_eq (setRow_size _ _ _).symm, fun k hk hkg => ?_, .inl rfl⟩
        exact setRow_other _ _ _ _ (fun e => hkg (by rw [e]; rfl))
      · have hcn : cap = n := by omega
        subst hcn
        have hc : cur = fl.toArray := by
          rw [← htk, List.take_of_length_le (by simp [hcs])]
        rw [hc] at hg
        refine (insertGrow w base g cap i fl hg h.1 (by omega) vb c0 c1 c2 hv h1 h1f hb hn).mono ?_
        rintro e w' ⟨a, c, rfl, ho, hbl, rfl⟩
        refine ⟨_, c, rfl, ho, hbl.os, hbl.tape, hbl.output, hbl.size, fun k hk _ => hbl.block k hk, .inr fun k hk => ?_⟩
        simp [Value.ownBlock] at hk
        omega
end Go.Proofs.YtgephggcgopfgaaGreatDoor
namespace Go.Proofs.YtgephggcgopfgaaGreatDoor
open Go.RowKit
set_option maxRecDepth 1000000
set_option linter.unusedVariables false
set_option linter.unusedSimpArgs false
set_option maxHeartbeats 1000000
theorem flat_take {k : Nat} : ∀ (ts : List (Tup k)) (i : Nat), (ts.flatMap Subtype.val).take (i * k) = (ts.take i).flatMap Subtype.val
  | [], i => by simp
  | t :: r, 0 => by simp
  | t :: r, i + 1 => by
    rw [List.flatMap_cons, List.take_succ_cons, List.flatMap_cons, ← flat_take r i]
    rw [show (i + 1) * k = t.1.length + i * k by rw [t.2, Nat.add_mul]; omega, List.take_length_add_append]
theorem flat_drop {k : Nat} : ∀ (ts : List (Tup k)) (i : Nat), (ts.flatMap Subtype.val).drop (i * k) = (ts.drop i).flatMap Subtype.val
  | [], i => by simp
  | t :: r, 0 => by simp
  | t :: r, i + 1 => by
    rw [List.flatMap_cons, List.drop_succ_cons, ← flat_drop r i]
    rw [show (i + 1) * k = t.1.length + i * k by rw [t.2, Nat.add_mul]; omega, List.drop_length_add_append]
/-- A struct put into a row of one's own. -/
theorem OwnA.ins {α : Type} {k : Nat} {E : World → (Nat → Prop) → List Value → α → Prop} (F : Fam k E) {t : TypeId} {base : Nat} {Y : Nat → Prop} {v v' : Value} {xs : List α} {w w' : World} {ts : List (Tup k)} (h2 : ts.length = xs.length) (h3 : ∀ (i : Nat) (t : Tup k) (x : α), ts[i]? = some t → xs[i]? = some x → E w (ZofA w Y v) t.1 x) {cs : List Value} {x : α} (hx : E w (ZofA w Y v) cs x) {i : Nat} (hi : i ≤ xs.length)
    (ho : w'.ownsRow base t k v' (xs.length + 1) ((ts.flatMap Subtype.val).take (i * k) ++ cs ++ (ts.flatMap Subtype.val).drop (i * k))) (g : Grow w w' v v') : OwnA w' base Y t k E v' (xs.take i ++ x :: xs.drop i) := by
  have hcs := F.len hx
  refine ⟨ts.take i ++ ⟨cs, hcs⟩ :: ts.drop i, ?_, by simp [h2], ?_⟩
  · rw [flat_take, flat_drop] at ho
    have e1 : (xs.take i ++ x :: xs.drop i).length = xs.length + 1 := by simp; omega
    have e2 : (ts.take i ++ (⟨cs, hcs⟩ : Tup k) :: ts.drop i).flatMap Subtype.val = (ts.take i).flatMap Subtype.val ++ cs ++ (ts.drop i).flatMap Subtype.val := by
      rw [List.flatMap_append, List.flatMap_cons, List.append_assoc]
    rw [e1, e2]
    exact ho
  · have hz : ∀ b, ZofA w Y v b → ZofA w' Y v' b := fun b hzb => by
      refine ⟨hzb.1, Nat.lt_of_lt_of_le hzb.2.1 g.size, ?_⟩
      intro e
      rcases g.own with q | q
      · rw [q] at e; exact hzb.2.2 e
      · have := q b e; have := hzb.2.1; omega
    have hk : Keep (fun b => v.ownBlock ≠ some b) w w' := Keep.ofGrow g (fun _ hk => hk)
    intro j u y hu hy
    by_cases hj : j < i
    · rw [List.getElem?_append_left (by rw [List.length_take]; omega), List.getElem?_take_of_lt hj] at hu
      rw [List.getElem?_append_left (by rw [List.length_take]; omega), List.getElem?_take_of_lt hj] at hy
      exact F.go (h3 j u y hu hy) hk (fun b hz => hz.2.2) hz
    · rw [List.getElem?_append_right (by rw [List.length_take]; omega), List.length_take, show min i ts.length = i by omega] at hu
      rw [List.getElem?_append_right (by rw [List.length_take]; omega), List.length_take, show min i xs.length = i by omega] at hy
      by_cases hji : j = i
      · subst hji
        simp at hu hy
        subst hu hy
        exact F.go hx hk (fun b hz => hz.2.2) hz
      · obtain ⟨n, hn⟩ : ∃ n, j - i = n + 1 := ⟨j - i - 1, by omega⟩
        rw [hn, List.getElem?_cons_succ, List.getElem?_drop] at hu hy
        exact F.go (h3 _ u y hu hy) hk (fun b hz => hz.2.2) hz
theorem fnd_plc (n : Int) : ∀ (l : List (CF CM)) (i : Nat), (fnd (laterB n) l i < 0 ∧ plcM n l = l.length) ∨ (fnd (laterB n) l i = ((i + plcM n l : Nat) : Int) ∧ plcM n l < l.length)
  | [], i => .inl ⟨by show (-1 : Int) < 0; decide, rfl⟩
  | o :: r, i => by
    unfold fnd plcM
    rw [List.takeWhile_cons]
    cases hq : laterB n o with
    | true => exact .inr ⟨by simp, by simp⟩
    | false =>
      have := fnd_plc n r (i + 1)
      unfold plcM at this
      simp only [Bool.not_false, if_true, List.length_cons, Bool.false_eq_true, if_false]
      rcases this with ⟨h1, h2⟩ | ⟨h1, h2⟩
      · exact .inl ⟨h1, by omega⟩
      · exact .inr ⟨by rw [h1]; congr 1; omega, by omega⟩
theorem rise_len : ∀ (ns L : List Int), ns.Pairwise (· < ·) → (∀ n ∈ ns, n ∈ L) → ns.length ≤ L.length
  | [], L, _, _ => Nat.zero_le _
  | n :: r, L, hp, hm => by
    have h1 := rise_len r (L.filter (· != n)) (List.pairwise_cons.1 hp).2 (fun k hk => by
      rw [List.mem_filter]
      refine ⟨hm k (List.mem_cons_of_mem _ hk), ?_⟩
      have := (List.pairwise_cons.1 hp).1 k hk
      simp
      omega)
    have h2 : (L.filter (· != n)).length < L.length := by
      have hn := hm n List.mem_cons_self
      refine List.length_filter_lt_length_iff_exists.2 ⟨n, hn, by simp⟩
    simp only [List.length_cons]
    omega
/-- A typed message has no more fields than its type. -/
theorem kept_len {l : List TV} {d : Nat} {x : TV} {m : CM} (h : keptB l (d + 1) x m = true) : m.fs.length ≤ x.t.fs.length := by
  have h1 := (kept_all h).1
  unfold holdB at h1
  simp only [Bool.and_eq_true, List.all_eq_true] at h1
  obtain ⟨hr, ht, -⟩ := h1
  have := rise_len (m.fs.map CF.num) (x.t.fs.map FT.num) (by rw [List.pairwise_map]; exact rise_pairs hr) (fun n hn => by
    obtain ⟨f, hf, rfl⟩ := List.mem_map.1 hn
    have h2 := ht f hf
    unfold typB8 at h2
    rw [Bool.and_eq_true] at h2
    have h3 := h2.1
    unfold hasF at h3
    cases hq : x.t.fs.find? (fun o => o.num == f.num) with
    | none => rw [hq] at h3; cases h3
    | some o =>
      refine List.mem_map.2 ⟨o, List.mem_of_find?_eq_some hq, ?_⟩
      simpa using List.find?_some hq)
  simpa using this
/-- slices.Insert of a field into a row of one's own. -/
theorem insertA (w : World) (base : Nat) (Z : Nat → Prop) (d : Nat) (v : Value) (left : List (CF CM)) (h : OwnA w base Z 29 3 (FmF d) v left) (i : Nat) (hi : i ≤ left.length) (vb : Nat) (hvb : v.ownBlock ≠ some vb) (c0 c1 c2 : Value) (f : CF CM) (hv : Blk w vb 29 #[c0, c1, c2]) (hf : FmF d w (ZofA w Z v) [c0, c1, c2] f) (hb : base ≤ w.heap.size) (hn : left.length ≤ 4000000) : Calls Tryz.prog 115 #[v, .int .i64 (i : Int), .slice (some ⟨vb, 0, none⟩) 1 1] w fun e w' => ∃ a c, e = .returned (.slice a (left.length + 1) c) ∧ OwnA w' base Z 29 3 (FmF d) (.slice a (left.length + 1) c) (left.take i ++ f :: left.drop i) ∧ Below base w w' := by
  obtain ⟨ts, h1, h2, h3⟩ := h
  have h1f : ∀ u ∈ ts.flatMap Subtype.val, u.oneCell' = true := by
    intro u hu
    obtain ⟨t, ht, hut⟩ := List.mem_flatMap.1 hu
    obtain ⟨j, hj, rfl⟩ := List.mem_iff_getElem.1 ht
    exact (famF d).one (h3 j _ _ (List.getElem?_eq_getElem hj) (List.getElem?_eq_getElem (by omega))) u hut
  refine (insertT w base v left.length (ts.flatMap Subtype.val) h1 i hi vb hvb c0 c1 c2 hv ((famF d).one hf) h1f hb hn).mono ?_
  rintro e w' ⟨a, c, rfl, ho, hg⟩
  exact ⟨a, c, rfl, OwnA.ins (famF d) h2 h3 hf hi ho hg, hg.below hb (fun k hk => (own_type h1 hk).1)⟩
theorem EnsR.weakE {w : World} {Z Z' : Nat → Prop} {v : Value} {xs : List CE} (h : EnsR w Z v xs) (hz : ∀ b, Z b → Z' b) : EnsR w Z' v xs := (RowM.weak h hz).imp (fun _ _ _ he => EntE.weak he hz)
theorem withT0 (w : World) (x : TV) (hx : TyR w x) (hr : Rise x.t.fs) (hl : x.t.fs.length ≤ 128) (Z : Nat → Prop) (hZ : ∀ b, Z b → b < w.heap.size) (d : Nat) (cm cf : List Value) (m : CM) (f : CF CM) (hm : MsgE w Z (d + 1) cm m) (hf : FldE w Z (MsgE w Z d) cf f) (hml : m.fs.length < 4000000) : Calls Tryz.prog 69 #[.agg (cTV x).toArray, .agg cm.toArray, .agg cf.toArray] w fun e w' => ∃ ds : List Value, e = .returned (.agg ds.toArray) ∧ MsgE w' (fun b => Z b ∨ w.heap.size ≤ b) (d + 1) ds (withM x.t.fs m f) ∧ Below w.heap.size w w' := by
  obtain ⟨ta1, tc1, ta2, tc2, ta3, tc3, ta4, tc4, e1, e2, e3, e4⟩ := shT_of hx
  have ecx : cTV x = [.string (strOfNums x.t.name), .bool x.t.enum, .slice ta1 x.t.fs.length tc1, .slice ta2 x.t.os.length tc2, .slice ta3 x.t.ss.length tc3, .slice ta4 x.t.rs.length tc4] := by unfold cTV; rw [e1, e2, e3, e4]
  have HFO := hid fun W (hW : Below w.heap.size w W) => findT x.t.fs f.num W ta1 tc1 (by rw [← e1]; exact (hx.kept hW).f) hr hl
  have HX := hid hx
  have HR := hid hr
  have HL := hid hl
  have HM := hid hm
  have HF := hid hf
  obtain ⟨ka, kc, va, vc, rfl, -, -, -, -, hfn⟩ := fld_open hf
  obtain ⟨fa, fc, ua, uc, rfl, hfl, hul, l1, l2⟩ := msg_open hm
  have HFL := hid hfl
  have HUL := hid hul
  have HEC := hid ecx
  rw [ecx]
  clear hx hm hf hr hl e1 e2 e3 e4 hfl hul ecx
  have HWM : Hid ((withM x.t.fs m f).fs = insM f (m.fs.filter (stayB x.t.fs f.num))) := hid rfl
  have HWU : Hid ((withM x.t.fs m f).us = m.us) := hid rfl
  generalize withM x.t.fs m f = wm at *
  go_enter Tryz.func69, Tryz.ntmps69
  go_wp2_with fail
  refine (HFO.out _ (by exact blBy)).mono ?_
  rintro e w1 ⟨rfl, hb1⟩
  unfold tFT
  have Bx : Hid (Blk w1 w.heap.size 71 #[.string (strOfNums x.t.name), .bool x.t.enum, .slice ta1 x.t.fs.length tc1, .slice ta2 x.t.os.length tc2, .slice ta3 x.t.ss.length tc3, .slice ta4 x.t.rs.length tc4]) := hid (((((Blk.new _ _ _).kept (below_alloc _)).kept (below_alloc _)).kept (below_alloc _)).kept hb1)
  have Bm : Hid (Blk w1 (w.heap.size + 1) 35 #[.slice fa m.fs.length fc, .slice ua m.us.length uc]) := hid ((((Blk.newAt (by simp)).kept (below_alloc _)).kept (below_alloc _)).kept hb1)
  have Bf : Hid (Blk w1 (w.heap.size + 1 + 1) 29 #[.int .i64 f.num, .slice ka f.ks.length kc, .slice va f.vs.length vc]) := hid (((Blk.newAt (by simp)).kept (below_alloc _)).kept hb1)
  have Br : Hid (Blk w1 (w.heap.size + 1 + 1 + 1) 35 #[.slice none 0 0, .slice none 0 0]) := hid ((Blk.newAt (by simp)).kept hb1)
  have HB : Hid (Below w.heap.size w w1) := hid (bl_then (by exact blBy) hb1)
  have hs1 : w.heap.size + 1 + 1 + 1 + 1 ≤ w1.heap.size := by have := hb1.size; simpa using this
  have xm := Bm.out.cellF
  have zm := Bm.out.lt
  clear hb1
  go_wp2_with fail
  have Bo : Hid (Blk (w1.alloc (.cells #[.string (strOfNums (ownF x.t.fs f.num).name), .int .i64 (ownF x.t.fs f.num).num, .int .i64 (ownF x.t.fs f.num).kind, .int .i64 (ownF x.t.fs f.num).ref, .int .i64 (ownF x.t.fs f.num).lab, .int .i64 (ownF x.t.fs f.num).one, .int .i64 (ownF x.t.fs f.num).key] 82)) w1.heap.size 82 #[.string (strOfNums (ownF x.t.fs f.num).name), .int .i64 (ownF x.t.fs f.num).num, .int .i64 (ownF x.t.fs f.num).kind, .int .i64 (ownF x.t.fs f.num).ref, .int .i64 (ownF x.t.fs f.num).lab, .int .i64 (ownF x.t.fs f.num).one, .int .i64 (ownF x.t.fs f.num).key]) := hid (Blk.new _ _ _)
  have hb1 : Below w1.heap.size w1 (w1.alloc (.cells #[.string (strOfNums (ownF x.t.fs f.num).name), .int .i64 (ownF x.t.fs f.num).num, .int .i64 (ownF x.t.fs f.num).kind, .int .i64 (ownF x.t.fs f.num).ref, .int .i64 (ownF x.t.fs f.num).lab, .int .i64 (ownF x.t.fs f.num).one, .int .i64 (ownF x.t.fs f.num).key] 82)) := below_alloc _
  generalize w1.alloc (.cells #[.string (strOfNums (ownF x.t.fs f.num).name), .int .i64 (ownF x.t.fs f.num).num, .int .i64 (ownF x.t.fs f.num).kind, .int .i64 (ownF x.t.fs f.num).ref, .int .i64 (ownF x.t.fs f.num).lab, .int .i64 (ownF x.t.fs f.num).one, .int .i64 (ownF x.t.fs f.num).key] 82) = w2 at *
  replace Bx := hid (Bx.out.kept hb1)
  replace Bm := hid (Bm.out.kept hb1)
  replace Bf := hid (Bf.out.kept hb1)
  replace Br := hid (Br.out.kept hb1)
  replace HB := hid (below_trans HB.out hb1)
  have hs2 : w1.heap.size + 1 ≤ w2.heap.size := Bo.out.lt
  clear xm zm hb1
  refine (chosenFO w2 Z d m.fs fa fc (HFL.out.kept HB.out) 113 #[.pointer (some ⟨w.heap.size, 0, none⟩), .pointer (some ⟨w1.heap.size, 0, none⟩), .pointer (some ⟨w.heap.size + 1 + 1, 0, none⟩)] cfStay (stayB x.t.fs f.num) (fun W hW cs o _ ho => stayFn W x (HX.out.kept (below_trans HB.out hW)) HR.out HL.out Z d cs o ho _ _ _ f.num _ _ (by rw [HEC.out]; exact Bx.out.kept hW) (Bo.out.kept hW) (Bf.out.kept hW))).mono ?_
  rintro e w3 ⟨la, lc, rfl, hown, hb2⟩
  have HO := hid hown
  replace Bm := hid (Bm.out.kept hb2)
  replace Bf := hid (Bf.out.kept hb2)
  replace Br := hid (Br.out.kept hb2)
  replace HB := hid (below_trans HB.out hb2)
  have hs3 : w2.heap.size ≤ w3.heap.size := hb2.size
  have HLL : Hid ((m.fs.filter (stayB x.t.fs f.num)).length ≤ m.fs.length) := hid (List.length_filter_le _ _)
  generalize m.fs.filter (stayB x.t.fs f.num) = left at *
  clear hown hb2 Bo Bx HX HR HL HEC HFO
  have HRW := hid (HO.out.row (famF d) (by have := HLL.out; omega))
  go_wp2_with fail
  refine (idxFld w3 _ d left la lc HRW.out 114 #[.pointer (some ⟨w.heap.size + 1 + 1, 0, none⟩)] cfLater (laterB f.num) (fun W hW cs o _ ho => laterFn W _ d cs o ho _ f.num _ _ (Bf.out.kept hW))).mono ?_
  rintro e w4 ⟨rfl, hb3⟩
  replace HO := hid (HO.out.kept (famF d) hb3)
  replace Bm := hid (Bm.out.kept hb3)
  replace Bf := hid (Bf.out.kept hb3)
  replace Br := hid (Br.out.kept hb3)
  replace HB := hid (below_trans HB.out hb3)
  have hs4 : w3.heap.size ≤ w4.heap.size := hb3.size
  clear hb3 HRW
  have HIN : Hid (∀ (W : World), Below w4.heap.size w4 W → Blk W w4.heap.size 29 #[.int .i64 f.num, .slice ka f.ks.length kc, .slice va f.vs.length vc] → Calls Tryz.prog 115 #[.slice la left.length lc, .int .i64 ((plcM f.num left : Nat) : Int), .slice (some ⟨w4.heap.size, 0, none⟩) 1 1] W fun e w' => ∃ a c, e = .returned (.slice a (left.length + 1) c) ∧ OwnA w' w2.heap.size Z 29 3 (FmF d) (.slice a (left.length + 1) c) (insM f left) ∧ Below w2.heap.size w4 w') := hid fun W hW hB => by
    have ho : ∀ {b : Nat}, (Value.slice la left.length lc).ownBlock = some b → w2.heap.size ≤ b ∧ b < w4.heap.size := fun e => HO.out.own e
    rw [insM_at]
    refine (insertA W w2.heap.size Z d (.slice la left.length lc) left (HO.out.kept (famF d) hW) _ (plcM_le _ _) w4.heap.size (fun e => by have := (ho e).2; omega) _ _ _ f hB ((famF d).go ((famF d).old HF.out) (keepT (below_trans HB.out hW)) (fun _ _ => trivial) (fun b hz => ⟨hz.1, by have := HB.out.size; have := hW.size; have := hz.2; omega, fun e => by have := (ho e).1; have := hz.2; omega⟩)) (by have := hW.size; omega) (by have := HLL.out; omega)).mono ?_
    rintro e w' ⟨a, c, rfl, h1, h2⟩
    exact ⟨a, c, rfl, h1, ⟨h2.os.trans hW.os, h2.tape.trans hW.tape, h2.output.trans hW.output, Nat.le_trans hW.size h2.size, fun k hk => (h2.block k hk).trans (hW.block k (by omega))⟩⟩
  clear HF HO HFL HM
  have HINL : Hid ((insM f left).length = left.length + 1) := hid (by rw [insM_at]; have := plcM_le f.num left; simp; omega)
  have xm := Bm.out.cellF
  have zm := Bm.out.lt
  have xf := Bf.out.cellF
  have zf := Bf.out.lt
  have f0 : w4.cell? ⟨w.heap.size + 1 + 1, 0, none⟩ = some (.int .i64 f.num) := Bf.out.cell 0 _ rfl
  have f1 : w4.cell? ⟨w.heap.size + 1 + 1, 1, none⟩ = some (.slice ka f.ks.length kc) := Bf.out.cell 1 _ rfl
  have f2 : w4.cell? ⟨w.heap.size + 1 + 1, 2, none⟩ = some (.slice va f.vs.length vc) := Bf.out.cell 2 _ rfl
  have f3 : w4.cell? ⟨w.heap.size + 1, 1, none⟩ = some (.slice ua m.us.length uc) := Bm.out.cell 1 _ rfl
  have m1 : (left.length : Int) ≤ 9223372036854775807 := by have := HLL.out; omega
  have hq1 : w.heap.size + 1 + 1 ≠ w.heap.size + 1 + 1 + 1 := by omega
  have hq2 : w.heap.size + 1 ≠ w.heap.size + 1 + 1 + 1 := by omega
  rcases fnd_plc f.num left 0 with ⟨h1, h2⟩ | ⟨h1, h2⟩
  case' inl =>
    rw [h2] at HIN
    generalize fnd (laterB f.num) left 0 = i at *
    have k0 : (i < 0) = True := eq_true h1
    clear h1 h2
    go_wp2_with fail
  case' inr =>
    rw [h1, Nat.zero_add]
    generalize plcM f.num left = i at *
    have k0 : ((i : Int) < 0) = False := eq_false (by omega)
    clear h1 h2
    go_wp2_with fail
  all_goals (
    clear xm zm xf zf
    go_region_held3 (fun W => W.cell? ⟨w.heap.size + 1 + 1, 0, none⟩ = some (.int .i64 f.num) ∧ W.cell? ⟨w.heap.size + 1 + 1, 1, none⟩ = some (.slice ka f.ks.length kc) ∧ W.cell? ⟨w.heap.size + 1 + 1, 2, none⟩ = some (.slice va f.vs.length vc) ∧ W.cell? ⟨w.heap.size + 1, 1, none⟩ = some (.slice ua m.us.length uc)) (first | exact ⟨f0, f1, f2, f3⟩ | exact ⟨cs2 f0 hq1, cs2 f1 hq1, cs2 f2 hq1, cs2 f3 hq2⟩ | exact ⟨cell_below f0 (by exact blBy), cell_below f1 (by exact blBy), cell_below f2 (by exact blBy), cell_below f3 (by exact blBy)⟩) (first | (go_at_call 115; refine (HIN.out _ (by exact blBy) (by first | exact Blk.newAt rfl | exact Blk.newAt (by simp))).mono ?_; rintro e w5 ⟨a5, c5, rfl, ho5, hb5⟩; have HO5 := hid ho5; have hl5 : w.heap.size + 1 + 1 + 1 < w2.heap.size := (by omega); replace Br := hid ((hb5.block _ (by omega)).trans Br.out); replace Bf := hid ((hb5.block _ (by omega)).trans Bf.out); replace Bm := hid ((hb5.block _ (by omega)).trans Bm.out); replace f0 : w5.cell? ⟨w.heap.size + 1 + 1, 0, none⟩ = some (.int .i64 f.num) := Blk.cell Bf.out 0 _ rfl; replace f1 : w5.cell? ⟨w.heap.size + 1 + 1, 1, none⟩ = some (.slice ka f.ks.length kc) := Blk.cell Bf.out 1 _ rfl; replace f2 : w5.cell? ⟨w.heap.size + 1 + 1, 2, none⟩ = some (.slice va f.vs.length vc) := Blk.cell Bf.out 2 _ rfl; replace f3 : w5.cell? ⟨w.heap.size + 1, 1, none⟩ = some (.slice ua m.us.length uc) := Blk.cell Bm.out 1 _ rfl; have xr := Blk.cellF Br.out; have yr := Blk.frz Br.out; have zr := Blk.lt Br.out; clear ho5))
    go_wp2
    have HB5 : Hid (Below w.heap.size w w5) := hid ⟨hb5.os.trans HB.out.os, hb5.tape.trans HB.out.tape, hb5.output.trans HB.out.output, Nat.le_trans HB.out.size hb5.size, fun k hk => (hb5.block k (by omega)).trans (HB.out.block k hk)⟩
    have HR5 : Hid (FlsR w5 (fun b => Z b ∨ w2.heap.size ≤ b) d (.slice a5 (left.length + 1) c5) wm.fs) := hid (by rw [HWM.out]; exact HO5.out.row (famF d) (by rw [HINL.out]; have := HLL.out; omega))
    exact bodyPost_ret (v := .agg #[.slice a5 (left.length + 1) c5, .slice ua m.us.length uc]) (by simp [results, Tryz.results69, go_sem, xr, yr, zr]) rfl ⟨[.slice a5 (left.length + 1) c5, .slice ua m.us.length uc], rfl, ⟨_, _, rfl, FlsR.go (f := fun b => b ≠ w.heap.size + 1 + 1 + 1) HR5.out (by with_reducible repeat (first | exact Keep.refl _ _ | refine kpS ?_ (by first | (simp; done) | (simp; omega) | omega) | refine kpA ?_ _ | refine kpD ?_ | refine kpN ?_ _)) (fun b hz => by rcases hz with hz | hz; (have := hZ b hz; omega); omega) (fun b hz => by rcases hz with hz | hz; exact Or.inl hz; exact Or.inr (by omega)), by rw [HWU.out]; exact (EnsR.kept HUL.out (by have := HB5.out; exact blBy)).weakE (fun b hz => Or.inl hz)⟩, by have := HB5.out; exact blBy⟩)
theorem withT (w : World) (x : TV) (hx : TyR w x) (hr : Rise x.t.fs) (hl : x.t.fs.length ≤ 128) (Z : Nat → Prop) (d : Nat) (cm cf : List Value) (m : CM) (f : CF CM) (hm : MsgE w Z (d + 1) cm m) (hf : FldE w Z (MsgE w Z d) cf f) (hml : m.fs.length < 4000000) : Calls Tryz.prog 69 #[.agg (cTV x).toArray, .agg cm.toArray, .agg cf.toArray] w fun e w' => ∃ ds : List Value, e = .returned (.agg ds.toArray) ∧ MsgE w' (fun b => Z b ∨ w.heap.size ≤ b) (d + 1) ds (withM x.t.fs m f) ∧ Below w.heap.size w w' := by
  refine (withT0 w x hx hr hl (fun b => Z b ∧ b < w.heap.size) (fun b hb => hb.2) d cm cf m f (MsgE.old _ _ _ hm) ((famF d).old hf) hml).mono ?_
  rintro e w' ⟨ds, rfl, hn, hb⟩
  exact ⟨ds, rfl, MsgE.go (Keep.refl (fun _ => True) w') (fun _ _ => trivial) (fun b hz => by rcases hz with hz | hz; exact Or.inl hz.1; exact Or.inr hz) _ _ _ hn, hb⟩
end Go.Proofs.YtgephggcgopfgaaGreatDoor
