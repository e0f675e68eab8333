/-
  slices.Insert of one field, wherever it goes.
  with: a message with a field at its place.
  Set: what the program answers.
  Settling and setting: what the laws ask.
-/
import Derived.Test.YtnfdlnelfnigdaaGreatDoorCTI
import Derived.Laws.CopyRow
import Derived.Laws.CopyOwn
import Derived.Lib.AppendZerosOnto
import Derived.Lib.AppendZeros
import Derived.Lib.Overlaps
import Derived.Shelf.RegionOpenPlain
import Derived.Test.YtnfdlnelfnigdaaGreatDoorCw8WP
import Derived.Test.YtnfdlnelfnigdaaGreatDoorCBQ
import Derived.Test.YtnfdlnelfnigdaaGreatDoorCNF
namespace Go.Proofs.YtnfdlnelfnigdaaGreatDoor
open Go.RowKit
set_option maxRecDepth 1000000
set_option linter.unusedVariables false
set_option linter.unusedSimpArgs false
set_option maxHeartbeats 1000000
theorem Tryz.infoFI : (Tryz.prog.info? 29).map (fun i => (i.zero, i.size, i.bytes)) = some (some (.agg #[.int .i64 0, .slice none 0 0, .slice none 0 0]), 3, 56) := by kernel_rfl
/-- copy of n structs of s cells into a row of one's own, from wherever they lie (the same block, too). -/
theorem run_copy_rowS (P : Program) (w : World) (dT sT ty elem : TypeId) (g o dLen dCap : Nat) (a : Addr) (sLen sCap : Nat) (cur : Array Value) (t : TypeId) (cs : List Value) (s n : Nat)
    (hu : P.underlying dT = some (.slice elem)) (hs : (P.info? elem).map (·.size) = some s)
    (hg : w.heap[g]? = some (.cells cur t (0, 0))) (hn : n = Nat.min sLen dLen) (hcl : cs.length = n * s)
    (hsrc : ∀ j v, cs[j]? = some v → w.cell? (a.add j) = some v) (hfit : o + cs.length ≤ cur.size) (h1 : ∀ v ∈ cs, v.oneCell' = true) :
    (Builtin.copy_ #[dT, sT] ty #[.slice (some ⟨g, o, none⟩) dLen dCap, .slice (some a) sLen sCap]).run P w =
      .ok (goInt n) (w.setRow g (cur.toList.take o ++ cs ++ cur.toList.drop (o + cs.length)).toArray) := by
  have hl := run_loadCells_list (P := P) w a cs hsrc
  have hst := run_storeCells_at P g o t cs 0 cur w hg (by simpa using hfit) h1
  cases hq : P.info? elem with
  | none => simp [hq] at hs
  | some i =>
    have hi : i.size = s := by simpa [hq] using hs
    rw [hcl] at hl
    simp [Builtin.copy_, run_underlying hu, Builtin.lenOf, Builtin.firstCells, sizeOf, typeInfo, hq, hi, ← hn, hl, hst]
theorem step_copy_ran {P : Program} {ops : Array Oper} {o : Oper} {a : Act} {w : World} {K : Act → World → Prop} {Q : Exit → Act → World → Prop} {E : Prop}
    (hg : o.guard = none) (d x : Operand) (t : TypeId) (hop : o.op = Op.call { callee := Callee.builtin Builtin.copy, args := #[d, x], argTypes := #[t, t] })
    (v u : Value) (hd : a.eval d = v) (hx : a.eval x = u) {v' : Value} {w' : World} (hr : (Builtin.copy_ #[t, t] o.type #[v, u]).run P w = .ok v' w') (hK : K (a.put o.dst v') w') :
    if Region.wanted o (yielded ops a.tmps) = true then Oper.wp P o a w K Q else E := by
  have hw : Region.wanted o (yielded ops a.tmps) = true := by simp [Region.wanted, hg]
  rw [if_pos hw]
  unfold Oper.wp
  simp [execOp, hop, resolve, invoke, builtin, hd, hx, hr, Result.andThen]
  exact hK
theorem wpList_appendz_ran {P : Program} {w : World} {ops : Array Oper} {rest : List Oper} {o : Oper} {a : Act} {Q : Exit → Act → World → Prop} (hgd : o.guard = none) (d s : Operand) (t t' : TypeId)
    (ho : o.op = .call { callee := .builtin .append, args := #[d, s], argTypes := #[t, t'] }) (v u : Value) (hd : a.eval d = v) (hs : a.eval s = u) {v' : Value} {w' : World}
    (hr : (Builtin.append_ #[t, t'] o.type #[v, u]).run P w = .ok v' w') (h : wpList P ops Q rest (a.put o.dst v') w') : wpList P ops Q (o :: rest) a w := by
  refine wpList_plain hgd fun K hK => ?_
  unfold Oper.wp
  simp [execOp, ho, resolve, invoke, builtin, hd, hs, hr, Result.andThen]
  exact hK _ _ h
theorem below_drew' {B : Nat} {w0 w : World} (hb : Below B w0 w) : Below B w0 w.drew := ⟨hb.os, hb.tape, hb.output, hb.size, hb.block⟩
theorem add_lit (b o j : Nat) : (⟨b, o, none⟩ : Addr).add j = ⟨b, o + j, none⟩ := by unfold Addr.add; split <;> simp_all
theorem cell_of {w : World} {g : Nat} {cur : Array Value} {t : TypeId} {f : Nat × Nat} (h : w.heap[g]? = some (.cells cur t f)) (j : Nat) : w.cell? ⟨g, j, none⟩ = cur[j]? := by unfold World.cell?; simp [h]
/-- One struct more, out of a block of its own. -/
theorem appendV (base : Nat) (v : Value) (n : Nat) (fl : List Value) (w : World) (h : w.ownsRow base 29 3 v n fl) (vb : Nat) (c0 c1 c2 : Value) (hv : Blk w vb 29 #[c0, c1, c2]) (h1 : ∀ u ∈ [c0, c1, c2], u.oneCell' = true) (hb : base ≤ w.heap.size) (hn : n ≤ 4000000) :
    ∃ a c w', Hid ((Builtin.append_ #[32, 32] 32 #[v, .slice (some ⟨vb, 0, none⟩) 1 1]).run Tryz.prog w = .ok (.slice a (n + 1) c) w') ∧ Hid (w'.ownsRow base 29 3 (.slice a (n + 1) c) (n + 1) (fl ++ [c0, c1, c2])) ∧ Hid (Grow w w' v (.slice a (n + 1) c)) := by
  obtain ⟨i0, hi, hz0, hz1, hz2⟩ := info_parts Tryz.infoFI
  have hcell : ∀ j u, [c0, c1, c2][j]? = some u → w.cell? ((⟨vb, 0, none⟩ : Addr).add j) = some u := by
    intro j u hu
    rw [add_lit, Nat.zero_add]
    exact hv.cell j u (by simpa using hu)
  obtain ⟨v', w', hr, ho, hg⟩ := run_append_mine (P := Tryz.prog) w base 32 32 29 i0 _ 3 56 Tryz.underlying32 hi hz0 hz1 hz2 rfl (by decide) v n fl h ⟨vb, 0, none⟩ 1 1 [c0, c1, c2] (by simp) hcell h1 (by unfold maxLen; omega) (by omega) hb
  obtain ⟨a, c, rfl⟩ := own_shape ho
  exact ⟨a, c, w', hid hr, hid ho, hid hg⟩
theorem insertEnd (w : World) (base : Nat) (v : Value) (n : Nat) (fl : List Value) (h : w.ownsRow base 29 3 v n fl) (vb : Nat) (c0 c1 c2 : Value) (hv : Blk w vb 29 #[c0, c1, c2]) (h1 : ∀ u ∈ [c0, c1, c2], u.oneCell' = true) (hb : base ≤ w.heap.size) (hn : n ≤ 4000000) : Calls Tryz.prog 99 #[v, .int .i64 (n : Int), .slice (some ⟨vb, 0, none⟩) 1 1] w fun e w' => ∃ a c, e = .returned (.slice a (n + 1) c) ∧ w'.ownsRow base 29 3 (.slice a (n + 1) c) (n + 1) (fl ++ [c0, c1, c2]) ∧ Grow w w' v (.slice a (n + 1) c) := by
  obtain ⟨la, lc, x3, HRUN, HO, HG⟩ := appendV base v n fl w h vb c0 c1 c2 hv h1 hb hn
  have m1 : (n : Int) ≤ 9223372036854775807 := by omega
  rcases h.2 with ⟨rfl, h0⟩ | ⟨g, cap, cur, rfl, hbg, hg, hnc, hcm, hcs2, htake⟩
  · subst h0
    clear h hv
    go_enter Tryz.func99, Tryz.ntmps99
    go_wp2_with (first | (at_builtin; refine wpList_append_ran rfl _ _ 32 32 rfl rfl _ _ (.slice la (0 + 1) lc) x3 rfl rfl HRUN.out ?_))
    go_ret
    exact ⟨la, lc, rfl, HO.out, HG.out⟩
  · have k1 : (n : Int) ≤ (cap : Int) := by omega
    have k2 : (cap : Int) ≤ 9223372036854775807 := by unfold maxLen at hcm; omega
    have HGA : Hid (∀ c', Grow w x3 (.slice (some ⟨g, 0, none⟩) n c') (.slice la (n + 1) lc)) := hid fun c' => ⟨HG.out.os, HG.out.tape, HG.out.output, HG.out.size, HG.out.block, HG.out.own⟩
    clear h hv hg hcs2 htake
    go_enter Tryz.func99, Tryz.ntmps99
    go_wp2_with (first | (at_builtin; refine wpList_append_ran rfl _ _ 32 32 rfl rfl _ _ (.slice la (n + 1) lc) x3 rfl rfl HRUN.out ?_))
    all_goals (go_ret; exact ⟨la, lc, rfl, HO.out, HGA.out _⟩)
/-- Lists: what stands behind a prefix of known length. -/
theorem tk_app {α : Type} {a b : List α} {k : Nat} (h : a.length = k) : (a ++ b).take k = a := by rw [← h, List.take_left']; rfl
theorem dr_app {α : Type} {a b : List α} {k : Nat} (h : a.length = k) : (a ++ b).drop k = b := by rw [← h, List.drop_left']; rfl
theorem szFI : (Tryz.prog.info? 29).map (·.size) = some 3 := by
  obtain ⟨i0, hi, hz0, hz1, hz2⟩ := info_parts Tryz.infoFI
  rw [hi]
  simp [hz1]
set_option maxRecDepth 100000 in
theorem insertGrow (w : World) (base g n i : Nat) (fl : List Value) (hg : Blk w g 29 fl.toArray) (hfl : fl.length = n * 3) (hi : i < n) (vb : Nat) (c0 c1 c2 : Value) (hv : Blk w vb 29 #[c0, c1, c2]) (h1 : ∀ u ∈ [c0, c1, c2], u.oneCell' = true) (h1f : ∀ u ∈ fl, u.oneCell' = true) (hb : base ≤ w.heap.size) (hn : n ≤ 4000000) : Calls Tryz.prog 99 #[.slice (some ⟨g, 0, none⟩) n n, .int .i64 (i : Int), .slice (some ⟨vb, 0, none⟩) 1 1] w fun e w' => ∃ a c, e = .returned (.slice a (n + 1) c) ∧ w'.ownsRow base 29 3 (.slice a (n + 1) c) (n + 1) (fl.take (i * 3) ++ [c0, c1, c2] ++ fl.drop (i * 3)) ∧ Below w.heap.size w w' ∧ a = some ⟨w.heap.size, 0, none⟩ := by
  obtain ⟨i0, hi0, hz0, hzs, hzb⟩ := info_parts Tryz.infoFI
  have hold : (Builtin.firstCells i0.size i (.slice (some ⟨g, 0, none⟩) i n)).run Tryz.prog w.drew = .ok (fl.take (i * 3)).toArray w.drew := by
    rw [hzs]
    exact run_firstCells_some w.drew 3 i ⟨g, 0, none⟩ i n (fl.take (i * 3)) (by rw [List.length_take]; omega) (fun j v hj => by
      rw [add_lit, Nat.zero_add]
      rw [List.getElem?_take] at hj
      split at hj
      · exact hg.cell j v (by simpa using hj)
      · cases hj)
  have HA := fun ty => Lib.run_append_grow_zeros (P := Tryz.prog) w 32 3 ty 29 i0 _ .i64 .i64 Tryz.underlying32 Tryz.underlying3 hi0 hz0 (some ⟨g, 0, none⟩) i n (fl.take (i * 3)) hold (n + 1 - i) (by omega) (by omega) (by omega) (by omega) (by rw [hzb]; omega) (by rw [hzb]; exact growslice_fits (by omega) (by omega))
  simp only [show i + (n + 1 - i) = n + 1 by omega] at HA
  obtain ⟨G, hG⟩ : ∃ G, G = grownCap w (n + 1) n 29 := ⟨_, rfl⟩
  simp only [← hG] at HA
  have hGn : n + 1 ≤ G := by rw [hG]; exact grownCap_ge w _ _ _
  have hGm : G ≤ maxLen := by rw [hG]; exact grownCap_le_maxLen w _ _ _ (by unfold maxLen; omega)
  clear hG
  obtain ⟨ROW, hROW⟩ : ∃ ROW : Array Value, ROW = (fl.take (i * 3)).toArray ++ Builtin.zeroCells (Value.agg #[.int .i64 0, .slice none 0 0, .slice none 0 0]).cells (n + 1 - i) ++ Builtin.zeroCells (Value.agg #[.int .i64 0, .slice none 0 0, .slice none 0 0]).cells (G - (n + 1)) := ⟨_, rfl⟩
  simp only [← hROW] at HA
  have HA2 := HA
  have hfi : (fl.take (i * 3)).length = i * 3 := by rw [List.length_take]; omega
  have hRS : ROW.size = G * 3 := by
    rw [hROW]
    simp only [Array.size_append, List.size_toArray, hfi, Builtin.zeroCells, Array.size_map, Array.size_range]
    simp only [Value.cells]
    show i * 3 + (n + 1 - i) * 3 + (G - (n + 1)) * 3 = G * 3
    omega
  have hRT : ROW.toList.take (i * 3) = fl.take (i * 3) := by
    rw [hROW]
    simp only [Array.toList_append, List.append_assoc]
    exact tk_app hfi
  clear hROW hold
  obtain ⟨R2, hR2⟩ : ∃ R2 : Array Value, R2 = (ROW.toList.take (i * 3) ++ [c0, c1, c2] ++ ROW.toList.drop (i * 3 + [c0, c1, c2].length)).toArray := ⟨_, rfl⟩
  have hR2s : R2.size = G * 3 := by
    rw [hR2]
    simp [hRS]
    omega
  obtain ⟨R3, hR3⟩ : ∃ R3 : Array Value, R3 = (R2.toList.take ((i + 1) * 3) ++ fl.drop (i * 3) ++ R2.toList.drop ((i + 1) * 3 + (fl.drop (i * 3)).length)).toArray := ⟨_, rfl⟩
  have hR3s : R3.size = G * 3 := by
    rw [hR3]
    simp [hR2s]
    omega
  have hR3t : R3.toList.take ((n + 1) * 3) = fl.take (i * 3) ++ [c0, c1, c2] ++ fl.drop (i * 3) := by
    have e2 : R2.toList.take ((i + 1) * 3) = fl.take (i * 3) ++ [c0, c1, c2] := by
      rw [hR2, List.toList_toArray, hRT]
      exact tk_app (by rw [List.length_append, hfi]; simp; omega)
    rw [hR3, List.toList_toArray, e2]
    exact tk_app (by rw [List.length_append, List.length_append, hfi, List.length_drop]; simp; omega)
  have hN : ∀ (W : World), W.heap = (w.drew.alloc (.cells ROW 29)).heap → W.heap[w.heap.size]? = some (.cells ROW 29 (0, 0)) := fun W hW => by
    rw [hW]
    show (w.heap.push _)[w.heap.size]? = _
    simp
  have hO : ∀ (W : World), W.heap = (w.drew.alloc (.cells ROW 29)).heap → ∀ k, k < w.heap.size → W.heap[k]? = w.heap[k]? := fun W hW k hk => by
    rw [hW]
    show (w.heap.push _)[k]? = _
    rw [Array.getElem?_push_lt hk, Array.getElem?_eq_getElem hk]
  have hvw := hv.lt
  have hgw := hg.lt
  have hcpA : ∀ (W : World), W.heap = (w.drew.alloc (.cells ROW 29)).heap → ∀ ty dc, (Builtin.copy_ #[32, 32] ty #[.slice (some ⟨w.heap.size, i * 3, none⟩) (n + 1 - i) dc, .slice (some ⟨vb, 0, none⟩) 1 1]).run Tryz.prog W = .ok (goInt 1) (W.setRow w.heap.size R2) := fun W hW ty dc => by
    rw [hR2]
    exact run_copy_rowS Tryz.prog W _ _ ty 29 w.heap.size (i * 3) (n + 1 - i) dc ⟨vb, 0, none⟩ 1 1 ROW 29 [c0, c1, c2] 3 1 Tryz.underlying32 szFI (hN W hW) (by simp only [Nat.min_def]; split <;> omega) (by simp)
      (fun j v hj => by rw [add_lit, Nat.zero_add, cell_of ((hO W hW vb hvw).trans hv)]; simpa using hj) (by simp [hRS]; omega) h1
  have hcpB : ∀ (W : World), W.heap = ((w.drew.alloc (.cells ROW 29)).setRow w.heap.size R2).heap → ∀ ty dc sc, (Builtin.copy_ #[32, 32] ty #[.slice (some ⟨w.heap.size, (i + 1) * 3, none⟩) (n + 1 - (i + 1)) dc, .slice (some ⟨g, i * 3, none⟩) (n - i) sc]).run Tryz.prog W = .ok (goInt ((n - i : Nat) : Int)) (W.setRow w.heap.size R3) := fun W hW ty dc sc => by
    rw [hR3]
    have q1 : W.heap[w.heap.size]? = some (.cells R2 29 (0, 0)) := by
      rw [hW]
      exact setRow_heap _ _ ROW R2 _ _ (hN _ rfl)
    have q2 : W.heap[g]? = some (.cells fl.toArray 29 (0, 0)) := by
      rw [hW, setRow_other _ _ _ _ (by omega), hO _ rfl g hgw]
      exact hg
    exact run_copy_rowS Tryz.prog W _ _ ty 29 w.heap.size ((i + 1) * 3) (n + 1 - (i + 1)) dc ⟨g, i * 3, none⟩ (n - i) sc R2 29 (fl.drop (i * 3)) 3 (n - i) Tryz.underlying32 szFI q1 (by simp only [Nat.min_def]; split <;> omega) (by rw [List.length_drop]; omega)
      (fun j v hj => by rw [add_lit, cell_of q2]; rw [List.getElem?_drop] at hj; simpa using hj) (by rw [List.length_drop, hR2s]; omega) (fun u hu => h1f u (List.mem_of_mem_drop hu))
  have hfin : ∀ (W : World), W.heap = ((w.drew.alloc (.cells ROW 29)).setRow w.heap.size R2).heap → (W.setRow w.heap.size R3).ownsRow base 29 3 (.slice (some ⟨w.heap.size, 0, none⟩) (n + 1) G) (n + 1) (fl.take (i * 3) ++ [c0, c1, c2] ++ fl.drop (i * 3)) := fun W hW => by
    refine ⟨by simp; omega, .inr ⟨w.heap.size, G, R3, rfl, hb, ?_, hGn, hGm, hR3s, hR3t⟩⟩
    refine setRow_heap _ _ R2 R3 _ _ ?_
    rw [hW]
    exact setRow_heap _ _ ROW R2 _ _ (hN _ rfl)
  have HFIN := hid hfin
  have k0 : ¬ ((i : Int) = (n : Int)) := by omega
  have k1 : (i : Int) ≤ (n : Int) := by omega
  have k2 : (n : Int) < (n : Int) + 1 := by omega
  have HK3 : Hid ((n : Int) + 1 - (i : Int) = ((n + 1 - i : Nat) : Int)) := hid (by omega)
  have k5 : (G : Int) ≤ 9223372036854775807 := by unfold maxLen at hGm; omega
  have HA' : ∀ ty, (Builtin.append_ #[32, 3] ty #[.slice (some ⟨g, 0, none⟩) i n, .int .i64 ((n : Int) + 1 - (i : Int))]).run Tryz.prog w = .ok (.slice (some ⟨w.heap.size, 0, none⟩) (n + 1) G) (w.drew.alloc (.cells ROW 29)) := fun ty => by
    rw [HK3.out]
    exact HA2 ty
  have k6 : ¬ (G = i) := by omega
  have k7 : ¬ (G = i + 1) := by omega
  have k8 : ¬ (n = i) := by omega
  clear HA HA2 hfin hRS hRT hR2 hR3 hR2s hR3s hR3t hGm hfi hN hO hi0 hz0 hzs hzb
  have hE1 : ((w.alloc (.cells ROW 29)).drew).heap = (w.drew.alloc (.cells ROW 29)).heap := rfl
  have hE2 : (((w.alloc (.cells ROW 29)).drew.setRow w.heap.size R2).drew).heap = ((w.drew.alloc (.cells ROW 29)).setRow w.heap.size R2).heap := rfl
  have HAA := hid HA'
  have HCA := hid hcpA
  have HCB := hid hcpB
  clear HA' hcpA hcpB hg hv h1 h1f hfl
  go_enter Tryz.func99, Tryz.ntmps99
  go_wp2_with (first
    | (at_builtin; refine wpList_appendz_ran rfl _ _ _ _ rfl _ _ rfl rfl (HAA.out _) ?_))
  rw [HCA.out _ hE1 _ _]
  have hw1 : IntKind.i64.wrap ((i : Int) + 1) = (i : Int) + 1 := by rw [IntKind.wrap_i64]; omega
  have hb1 : (0 : Int) ≤ (i : Int) + 1 := by omega
  have htn : ((i : Int) + 1).toNat = i + 1 := by omega
  have hb4 : (i : Int) + 1 ≤ (n : Int) + 1 := by omega
  go_wp2
  go_region_law (refine step_copy_ran rfl _ _ 32 rfl (.slice (some ⟨w.heap.size, (i + 1) * 3, none⟩) (n + 1 - (i + 1)) (G - (i + 1))) (.slice (some ⟨g, i * 3, none⟩) (n - i) (n - i)) (by simp [Act.eval, Act.put]) (by simp [Act.eval, Act.put]) (HCB.out _ hE2 3 (G - (i + 1)) (n - i)) ?_)
  go_wp2
  go_ret
  exact ⟨_, G, rfl, HFIN.out _ hE2, below_setRow (below_drew' (below_setRow (below_drew' (below_alloc _)) (Nat.le_refl _) _)) (Nat.le_refl _) _, rfl⟩
/-- There is room. -/
theorem insertShift (w : World) (base g n cap i : Nat) (fl : List Value) (cur : Array Value) (hg : Blk w g 29 cur) (hbg : base ≤ g) (hcm : cap ≤ maxLen) (hcs : cur.size = cap * 3) (htk : cur.toList.take (n * 3) = fl) (hroom : n + 1 ≤ cap) (hi : i < n) (vb : Nat) (hvb : vb ≠ g) (c0 c1 c2 : Value) (hv : Blk w vb 29 #[c0, c1, c2]) (h1 : ∀ u ∈ [c0, c1, c2], u.oneCell' = true) (h1f : ∀ u ∈ fl, u.oneCell' = true) (hn : n ≤ 4000000) : Calls Tryz.prog 99 #[.slice (some ⟨g, 0, none⟩) n cap, .int .i64 (i : Int), .slice (some ⟨vb, 0, none⟩) 1 1] w fun e w' => ∃ S, e = .returned (.slice (some ⟨g, 0, none⟩) (n + 1) cap) ∧ w' = (w.drew.setRow g S) ∧ w'.ownsRow base 29 3 (.slice (some ⟨g, 0, none⟩) (n + 1) cap) (n + 1) (fl.take (i * 3) ++ [c0, c1, c2] ++ fl.drop (i * 3)) := by
  have hfl : fl.length = n * 3 := by rw [← htk, List.length_take, Array.length_toList, hcs]; omega
  have hfi : (fl.take (i * 3)).length = i * 3 := by rw [List.length_take]; omega
  have hci : cur.toList.take (i * 3) = fl.take (i * 3) := by rw [← htk, List.take_take]; congr 1; omega
  obtain ⟨S1, hS1⟩ : ∃ S1 : Array Value, S1 = (cur.toList.take ((i + 1) * 3) ++ fl.drop (i * 3) ++ cur.toList.drop ((i + 1) * 3 + (fl.drop (i * 3)).length)).toArray := ⟨_, rfl⟩
  have hS1s : S1.size = cap * 3 := by
    rw [hS1]
    simp [hcs]
    omega
  obtain ⟨S2, hS2⟩ : ∃ S2 : Array Value, S2 = (S1.toList.take (i * 3) ++ [c0, c1, c2] ++ S1.toList.drop (i * 3 + [c0, c1, c2].length)).toArray := ⟨_, rfl⟩
  have hS2s : S2.size = cap * 3 := by
    rw [hS2]
    simp [hS1s]
    omega
  have hS2t : S2.toList.take ((n + 1) * 3) = fl.take (i * 3) ++ [c0, c1, c2] ++ fl.drop (i * 3) := by
    have e0 : (cur.toList.take ((i + 1) * 3)).length = (i + 1) * 3 := by rw [List.length_take, Array.length_toList, hcs]; omega
    have e1 : S1.toList.take (i * 3) = fl.take (i * 3) := by
      rw [hS1, List.toList_toArray, List.append_assoc, List.take_append_of_le_length (by omega), List.take_take, ← hci]
      congr 1
      omega
    have e2 : S1.toList.drop (i * 3 + [c0, c1, c2].length) = fl.drop (i * 3) ++ cur.toList.drop ((i + 1) * 3 + (fl.drop (i * 3)).length) := by
      rw [hS1, List.toList_toArray, List.append_assoc]
      exact dr_app (by rw [e0]; simp; omega)
    rw [hS2, List.toList_toArray, e1, e2, ← List.append_assoc]
    exact tk_app (by rw [List.length_append, List.length_append, hfi, List.length_drop]; simp; omega)
  have hcp1 : ∀ (W : World), W.heap = w.heap → ∀ ty dc sc, (Builtin.copy_ #[32, 32] ty #[.slice (some ⟨g, (i + 1) * 3, none⟩) (n + 1 - (i + 1)) dc, .slice (some ⟨g, i * 3, none⟩) (n + 1 - i) sc]).run Tryz.prog W = .ok (goInt ((n - i : Nat) : Int)) (W.setRow g S1) := fun W hW ty dc sc => by
    rw [hS1]
    have q1 : W.heap[g]? = some (.cells cur 29 (0, 0)) := by rw [hW]; exact hg
    exact run_copy_rowS Tryz.prog W _ _ ty 29 g ((i + 1) * 3) (n + 1 - (i + 1)) dc ⟨g, i * 3, none⟩ (n + 1 - i) sc cur 29 (fl.drop (i * 3)) 3 (n - i) Tryz.underlying32 szFI q1 (by simp only [Nat.min_def]; split <;> omega) (by rw [List.length_drop]; omega)
      (fun j v hj => by
        rw [add_lit, cell_of q1]
        rw [List.getElem?_drop, ← htk, List.getElem?_take] at hj
        split at hj
        · simpa using hj
        · cases hj) (by rw [List.length_drop, hcs]; omega) (fun u hu => h1f u (List.mem_of_mem_drop hu))
  have hcp2 : ∀ (W : World), W.heap = (w.setRow g S1).heap → ∀ ty dc, (Builtin.copy_ #[32, 32] ty #[.slice (some ⟨g, i * 3, none⟩) (n + 1 - i) dc, .slice (some ⟨vb, 0, none⟩) 1 1]).run Tryz.prog W = .ok (goInt 1) (W.setRow g S2) := fun W hW ty dc => by
    rw [hS2]
    have q1 : W.heap[g]? = some (.cells S1 29 (0, 0)) := by rw [hW]; exact setRow_heap _ _ cur S1 _ _ hg
    have q2 : W.heap[vb]? = some (.cells #[c0, c1, c2] 29 (0, 0)) := by rw [hW, setRow_other _ _ _ _ hvb]; exact hv
    exact run_copy_rowS Tryz.prog W _ _ ty 29 g (i * 3) (n + 1 - i) dc ⟨vb, 0, none⟩ 1 1 S1 29 [c0, c1, c2] 3 1 Tryz.underlying32 szFI q1 (by simp only [Nat.min_def]; split <;> omega) (by simp)
      (fun j v hj => by rw [add_lit, Nat.zero_add, cell_of q2]; simpa using hj) (by simp [hS1s]; omega) h1
  have hsz : ∀ W : World, (Go.sizeOf 29).run Tryz.prog W = .ok 3 W := fun W => by
    obtain ⟨i0, hi0, _, hz1, _⟩ := info_parts Tryz.infoFI
    simp [sizeOf, typeInfo, hi0, hz1]
  have hov : ∀ (W : World), W.heap = w.heap → ∀ lb cb, (callFunc 127 #[.slice (some ⟨vb, 0, none⟩) 1 1, .slice (some ⟨g, (i + 1) * 3, none⟩) lb cb]).run Tryz.prog W = .ok (.value (.bool false)) W := fun W hW lb cb => by
    have s1 : W.shape? vb = some (29, 3) := by unfold World.shape?; rw [hW, show w.heap[vb]? = some (.cells #[c0, c1, c2] 29 (0, 0)) from hv]; rfl
    have s2 : W.shape? g = some (29, cap * 3) := by unfold World.shape?; rw [hW, show w.heap[g]? = some (.cells cur 29 (0, 0)) from hg]; simp [hcs]
    have f1 : ∀ j, W.frozen? ⟨vb, j, none⟩ = false := fun j => by unfold World.frozen?; rw [show W.heap[(⟨vb, j, none⟩ : Addr).block]? = some (.cells #[c0, c1, c2] 29 (0, 0)) from by rw [hW]; exact hv]; simp
    rw [run_callFunc_extern Tryz.func127 (by kernel_rfl) (by kernel_rfl) (by kernel_rfl) (e := Extern.SlicesOverlaps.overlaps #[32, 32] #[4]) (by kernel_rfl),
      Lib.run_overlaps_apart W 32 4 29 Tryz.underlying32 3 hsz ⟨vb, 0, none⟩ ⟨g, (i + 1) * 3, none⟩ 1 1 lb cb hvb 29 29 3 (cap * 3) s1 s2 (by omega) (f1 0) (f1 3)]
    rfl
  have HFIN : Hid ((w.drew.setRow g S2).ownsRow base 29 3 (.slice (some ⟨g, 0, none⟩) (n + 1) cap) (n + 1) (fl.take (i * 3) ++ [c0, c1, c2] ++ fl.drop (i * 3))) := hid ⟨by simp; omega, .inr ⟨g, cap, S2, rfl, hbg, setRow_heap _ _ cur S2 _ _ hg, hroom, hcm, hS2s, hS2t⟩⟩
  have HCA := hid hcp1
  have HCB := hid hcp2
  have hov1 := hov w rfl
  have k0 : ¬ ((i : Int) = (n : Int)) := by omega
  have k1 : (i : Int) ≤ (n : Int) := by omega
  have k2 : ¬ ((cap : Int) < (n : Int) + 1) := by omega
  have k3 : (n : Int) + 1 ≤ (cap : Int) := by omega
  have k5 : (cap : Int) ≤ 9223372036854775807 := by unfold maxLen at hcm; omega
  have k6 : ¬ (cap = i) := by omega
  have k7 : ¬ (cap = i + 1) := by omega
  have hw1 : IntKind.i64.wrap ((i : Int) + 1) = (i : Int) + 1 := by rw [IntKind.wrap_i64]; omega
  have hw2 : IntKind.i64.wrap ((n : Int) + 1) = (n : Int) + 1 := by rw [IntKind.wrap_i64]; omega
  have hb1 : (0 : Int) ≤ (i : Int) + 1 := by omega
  have htn : ((i : Int) + 1).toNat = i + 1 := by omega
  have htm : ((n : Int) + 1).toNat = n + 1 := by omega
  have hb4 : (i : Int) + 1 ≤ (n : Int) + 1 := by omega
  have hb5 : (i : Int) ≤ (n : Int) + 1 := by omega
  clear hov hcp1 hcp2 hsz hS1 hS2 hS1s hS2s hS2t hfl hfi hci hcm hcs htk hroom h1 h1f hv hg
  go_enter Tryz.func99, Tryz.ntmps99
  have hE1 : (w.drew).heap = w.heap := rfl
  have hE2 : (w.drew.setRow g S1).heap = (w.setRow g S1).heap := rfl
  go_wp2_with (simp only [hov1])
  go_region_law (refine step_copy_ran rfl _ _ 32 rfl (.slice (some ⟨g, (i + 1) * 3, none⟩) (n + 1 - (i + 1)) (cap - (i + 1))) (.slice (some ⟨g, i * 3, none⟩) (n + 1 - i) (cap - i)) (by simp [Act.eval, Act.put]) (by simp [Act.eval, Act.put]) (HCA.out _ hE1 3 (cap - (i + 1)) (cap - i)) ?_)
  go_wp2
  rw [HCB.out _ hE2 _ _]
  go_wp2
  go_ret
  refine ⟨S2, rfl, ?_, ?_⟩
  · exact setRow_setRow _ _ _ _
  · rw [setRow_setRow]; exact HFIN.out
/-- Wherever it goes: a row of one's own still; every other old block is as it was. -/
theorem insertT (w : World) (base : Nat) (v : Value) (n : Nat) (fl : List Value) (h : w.ownsRow base 29 3 v n fl) (i : Nat) (hi : i ≤ n) (vb : Nat) (hvb : v.ownBlock ≠ some vb) (c0 c1 c2 : Value) (hv : Blk w vb 29 #[c0, c1, c2]) (h1 : ∀ u ∈ [c0, c1, c2], u.oneCell' = true) (h1f : ∀ u ∈ fl, u.oneCell' = true) (hb : base ≤ w.heap.size) (hn : n ≤ 4000000) : Calls Tryz.prog 99 #[v, .int .i64 (i : Int), .slice (some ⟨vb, 0, none⟩) 1 1] w fun e w' => ∃ a c, e = .returned (.slice a (n + 1) c) ∧ w'.ownsRow base 29 3 (.slice a (n + 1) c) (n + 1) (fl.take (i * 3) ++ [c0, c1, c2] ++ fl.drop (i * 3)) ∧ Grow w w' v (.slice a (n + 1) c) := by
  by_cases hin : i = n
  · subst hin
    have e1 : fl.take (i * 3) = fl := List.take_of_length_le (by rw [h.1]; exact Nat.le_refl _)
    have e2 : fl.drop (i * 3) = [] := List.drop_of_length_le (by rw [h.1]; exact Nat.le_refl _)
    rw [e1, e2, List.append_nil]
    exact insertEnd w base v i fl h vb c0 c1 c2 hv h1 hb hn
  · rcases h.2 with ⟨rfl, h0⟩ | ⟨g, cap, cur, rfl, hbg, hg, hnc, hcm, hcs, htk⟩
    · omega
    · by_cases hroom : n + 1 ≤ cap
      · refine (insertShift w base g n cap i fl cur hg hbg hcm hcs htk hroom (by omega) vb (fun e => hvb (by rw [e]; rfl)) c0 c1 c2 hv h1 h1f hn).mono ?_
        rintro e w' ⟨S, rfl, rfl, ho⟩
        refine ⟨_, cap, rfl, ho, rfl, rfl, rfl, Nat.le_of_eq (setRow_size _ _ _).symm, fun k hk hkg => ?_, .inl rfl⟩
        exact setRow_other _ _ _ _ (fun e => hkg (by rw [e]; rfl))
      · have hcn : cap = n := by omega
        subst hcn
        have hc : cur = fl.toArray := by
          rw [← htk, List.take_of_length_le (by simp [hcs])]
        rw [hc] at hg
        refine (insertGrow w base g cap i fl hg h.1 (by omega) vb c0 c1 c2 hv h1 h1f hb hn).mono ?_
        rintro e w' ⟨a, c, rfl, ho, hbl, rfl⟩
        refine ⟨_, c, rfl, ho, hbl.os, hbl.tape, hbl.output, hbl.size, fun k hk _ => hbl.block k hk, .inr fun k hk => ?_⟩
        simp [Value.ownBlock] at hk
        omega
theorem flat_take {k : Nat} : ∀ (ts : List (Tup k)) (i : Nat), (ts.flatMap Subtype.val).take (i * k) = (ts.take i).flatMap Subtype.val
  | [], i => by simp
  | t :: r, 0 => by simp
  | t :: r, i + 1 => by
    rw [List.flatMap_cons, List.take_succ_cons, List.flatMap_cons, ← flat_take r i]
    rw [show (i + 1) * k = t.1.length + i * k by rw [t.2, Nat.add_mul]; omega, List.take_length_add_append]
theorem flat_drop {k : Nat} : ∀ (ts : List (Tup k)) (i : Nat), (ts.flatMap Subtype.val).drop (i * k) = (ts.drop i).flatMap Subtype.val
  | [], i => by simp
  | t :: r, 0 => by simp
  | t :: r, i + 1 => by
    rw [List.flatMap_cons, List.drop_succ_cons, ← flat_drop r i]
    rw [show (i + 1) * k = t.1.length + i * k by rw [t.2, Nat.add_mul]; omega, List.drop_length_add_append]
/-- A struct put into a row of one's own. -/
theorem OwnA.ins {α : Type} {k : Nat} {E : World → (Nat → Prop) → List Value → α → Prop} (F : Fam k E) {t : TypeId} {base : Nat} {Y : Nat → Prop} {v v' : Value} {xs : List α} {w w' : World} {ts : List (Tup k)} (h2 : ts.length = xs.length) (h3 : ∀ (i : Nat) (t : Tup k) (x : α), ts[i]? = some t → xs[i]? = some x → E w (ZofA w Y v) t.1 x) {cs : List Value} {x : α} (hx : E w (ZofA w Y v) cs x) {i : Nat} (hi : i ≤ xs.length)
    (ho : w'.ownsRow base t k v' (xs.length + 1) ((ts.flatMap Subtype.val).take (i * k) ++ cs ++ (ts.flatMap Subtype.val).drop (i * k))) (g : Grow w w' v v') : OwnA w' base Y t k E v' (xs.take i ++ x :: xs.drop i) := by
  have hcs := F.len hx
  refine ⟨ts.take i ++ ⟨cs, hcs⟩ :: ts.drop i, ?_, by simp [h2], ?_⟩
  · rw [flat_take, flat_drop] at ho
    have e1 : (xs.take i ++ x :: xs.drop i).length = xs.length + 1 := by simp; omega
    have e2 : (ts.take i ++ (⟨cs, hcs⟩ : Tup k) :: ts.drop i).flatMap Subtype.val = (ts.take i).flatMap Subtype.val ++ cs ++ (ts.drop i).flatMap Subtype.val := by
      rw [List.flatMap_append, List.flatMap_cons, List.append_assoc]
    rw [e1, e2]
    exact ho
  · have hz : ∀ b, ZofA w Y v b → ZofA w' Y v' b := fun b hzb => by
      refine ⟨hzb.1, Nat.lt_of_lt_of_le hzb.2.1 g.size, ?_⟩
      intro e
      rcases g.own with q | q
      · rw [q] at e; exact hzb.2.2 e
      · have := q b e; have := hzb.2.1; omega
    have hk : Keep (fun b => v.ownBlock ≠ some b) w w' := Keep.ofGrow g (fun _ hk => hk)
    intro j u y hu hy
    by_cases hj : j < i
    · rw [List.getElem?_append_left (by rw [List.length_take]; omega), List.getElem?_take_of_lt hj] at hu
      rw [List.getElem?_append_left (by rw [List.length_take]; omega), List.getElem?_take_of_lt hj] at hy
      exact F.go (h3 j u y hu hy) hk (fun b hz => hz.2.2) hz
    · rw [List.getElem?_append_right (by rw [List.length_take]; omega), List.length_take, show min i ts.length = i by omega] at hu
      rw [List.getElem?_append_right (by rw [List.length_take]; omega), List.length_take, show min i xs.length = i by omega] at hy
      by_cases hji : j = i
      · subst hji
        simp at hu hy
        subst hu hy
        exact F.go hx hk (fun b hz => hz.2.2) hz
      · obtain ⟨n, hn⟩ : ∃ n, j - i = n + 1 := ⟨j - i - 1, by omega⟩
        rw [hn, List.getElem?_cons_succ, List.getElem?_drop] at hu hy
        exact F.go (h3 _ u y hu hy) hk (fun b hz => hz.2.2) hz
theorem fnd_plc (n : Int) : ∀ (l : List (CF CM)) (i : Nat), (fnd (laterB n) l i < 0 ∧ plcM n l = l.length) ∨ (fnd (laterB n) l i = ((i + plcM n l : Nat) : Int) ∧ plcM n l < l.length)
  | [], i => .inl ⟨by show (-1 : Int) < 0; decide, rfl⟩
  | o :: r, i => by
    unfold fnd plcM
    rw [List.takeWhile_cons]
    cases hq : laterB n o with
    | true => exact .inr ⟨by simp, by simp⟩
    | false =>
      have := fnd_plc n r (i + 1)
      unfold plcM at this
      simp only [Bool.not_false, if_true, List.length_cons, Bool.false_eq_true, if_false]
      rcases this with ⟨h1, h2⟩ | ⟨h1, h2⟩
      · exact .inl ⟨h1, by omega⟩
      · exact .inr ⟨by rw [h1]; congr 1; omega, by omega⟩
theorem rise_len : ∀ (ns L : List Int), ns.Pairwise (· < ·) → (∀ n ∈ ns, n ∈ L) → ns.length ≤ L.length
  | [], L, _, _ => Nat.zero_le _
  | n :: r, L, hp, hm => by
    have h1 := rise_len r (L.filter (· != n)) (List.pairwise_cons.1 hp).2 (fun k hk => by
      rw [List.mem_filter]
      refine ⟨hm k (List.mem_cons_of_mem _ hk), ?_⟩
      have := (List.pairwise_cons.1 hp).1 k hk
      simp
      omega)
    have h2 : (L.filter (· != n)).length < L.length := by
      have hn := hm n List.mem_cons_self
      refine List.length_filter_lt_length_iff_exists.2 ⟨n, hn, by simp⟩
    simp only [List.length_cons]
    omega
/-- A typed message has no more fields than its type. -/
theorem kept_len {l : List TV} {d : Nat} {x : TV} {m : CM} (h : keptB l (d + 1) x m = true) : m.fs.length ≤ x.t.fs.length := by
  have h1 := (kept_all h).1
  unfold holdB at h1
  simp only [Bool.and_eq_true, List.all_eq_true] at h1
  obtain ⟨hr, ht, -⟩ := h1
  have := rise_len (m.fs.map CF.num) (x.t.fs.map FT.num) (by rw [List.pairwise_map]; exact rise_pairs hr) (fun n hn => by
    obtain ⟨f, hf, rfl⟩ := List.mem_map.1 hn
    have h2 := ht f hf
    unfold typB8 at h2
    rw [Bool.and_eq_true] at h2
    have h3 := h2.1
    unfold hasF at h3
    cases hq : x.t.fs.find? (fun o => o.num == f.num) with
    | none => rw [hq] at h3; cases h3
    | some o =>
      refine List.mem_map.2 ⟨o, List.mem_of_find?_eq_some hq, ?_⟩
      simpa using List.find?_some hq)
  simpa using this
/-- slices.Insert of a field into a row of one's own. -/
theorem insertA (w : World) (base : Nat) (Z : Nat → Prop) (d : Nat) (v : Value) (left : List (CF CM)) (h : OwnA w base Z 29 3 (FmF d) v left) (i : Nat) (hi : i ≤ left.length) (vb : Nat) (hvb : v.ownBlock ≠ some vb) (c0 c1 c2 : Value) (f : CF CM) (hv : Blk w vb 29 #[c0, c1, c2]) (hf : FmF d w (ZofA w Z v) [c0, c1, c2] f) (hb : base ≤ w.heap.size) (hn : left.length ≤ 4000000) : Calls Tryz.prog 99 #[v, .int .i64 (i : Int), .slice (some ⟨vb, 0, none⟩) 1 1] w fun e w' => ∃ a c, e = .returned (.slice a (left.length + 1) c) ∧ OwnA w' base Z 29 3 (FmF d) (.slice a (left.length + 1) c) (left.take i ++ f :: left.drop i) ∧ Below base w w' := by
  obtain ⟨ts, h1, h2, h3⟩ := h
  have h1f : ∀ u ∈ ts.flatMap Subtype.val, u.oneCell' = true := by
    intro u hu
    obtain ⟨t, ht, hut⟩ := List.mem_flatMap.1 hu
    obtain ⟨j, hj, rfl⟩ := List.mem_iff_getElem.1 ht
    exact (famF d).one (h3 j _ _ (List.getElem?_eq_getElem hj) (List.getElem?_eq_getElem (by omega))) u hut
  refine (insertT w base v left.length (ts.flatMap Subtype.val) h1 i hi vb hvb c0 c1 c2 hv ((famF d).one hf) h1f hb hn).mono ?_
  rintro e w' ⟨a, c, rfl, ho, hg⟩
  exact ⟨a, c, rfl, OwnA.ins (famF d) h2 h3 hf hi ho hg, hg.below hb (fun k hk => (own_type h1 hk).1)⟩
theorem EnsR.weakE {w : World} {Z Z' : Nat → Prop} {v : Value} {xs : List CE} (h : EnsR w Z v xs) (hz : ∀ b, Z b → Z' b) : EnsR w Z' v xs := (RowM.weak h hz).imp (fun _ _ _ he => EntE.weak he hz)
theorem withT0 (w : World) (x : TV) (hx : TyR w x) (hr : Rise x.t.fs) (hl : x.t.fs.length ≤ 128) (Z : Nat → Prop) (hZ : ∀ b, Z b → b < w.heap.size) (d : Nat) (cm cf : List Value) (m : CM) (f : CF CM) (hm : MsgE w Z (d + 1) cm m) (hf : FldE w Z (MsgE w Z d) cf f) (hml : m.fs.length < 4000000) : Calls Tryz.prog 54 #[.agg (cTV x).toArray, .agg cm.toArray, .agg cf.toArray] w fun e w' => ∃ ds : List Value, e = .returned (.agg ds.toArray) ∧ MsgE w' (fun b => Z b ∨ w.heap.size ≤ b) (d + 1) ds (withM x.t.fs m f) ∧ Below w.heap.size w w' := by
  obtain ⟨ta1, tc1, ta2, tc2, ta3, tc3, ta4, tc4, e1, e2, e3, e4⟩ := shT_of hx
  have ecx : cTV x = [.string (strOfNums x.t.name), .bool x.t.enum, .slice ta1 x.t.fs.length tc1, .slice ta2 x.t.os.length tc2, .slice ta3 x.t.ss.length tc3, .slice ta4 x.t.rs.length tc4] := by unfold cTV; rw [e1, e2, e3, e4]
  have HFO := hid fun W (hW : Below w.heap.size w W) => findT x.t.fs f.num W ta1 tc1 (by rw [← e1]; exact (hx.kept hW).f) hr hl
  have HX := hid hx
  have HR := hid hr
  have HL := hid hl
  have HM := hid hm
  have HF := hid hf
  obtain ⟨ka, kc, va, vc, rfl, -, -, -, -, hfn⟩ := fld_open hf
  obtain ⟨fa, fc, ua, uc, rfl, hfl, hul, l1, l2⟩ := msg_open hm
  have HFL := hid hfl
  have HUL := hid hul
  have HEC := hid ecx
  rw [ecx]
  clear hx hm hf hr hl e1 e2 e3 e4 hfl hul ecx
  have HWM : Hid ((withM x.t.fs m f).fs = insM f (m.fs.filter (stayB x.t.fs f.num))) := hid rfl
  have HWU : Hid ((withM x.t.fs m f).us = m.us) := hid rfl
  generalize withM x.t.fs m f = wm at *
  go_enter Tryz.func54, Tryz.ntmps54
  go_wp2_with fail
  refine (HFO.out _ (by exact blBy)).mono ?_
  rintro e w1 ⟨rfl, hb1⟩
  unfold tFT
  have Bx : Hid (Blk w1 w.heap.size 66 #[.string (strOfNums x.t.name), .bool x.t.enum, .slice ta1 x.t.fs.length tc1, .slice ta2 x.t.os.length tc2, .slice ta3 x.t.ss.length tc3, .slice ta4 x.t.rs.length tc4]) := hid (((((Blk.new _ _ _).kept (below_alloc _)).kept (below_alloc _)).kept (below_alloc _)).kept hb1)
  have Bm : Hid (Blk w1 (w.heap.size + 1) 35 #[.slice fa m.fs.length fc, .slice ua m.us.length uc]) := hid ((((Blk.newAt (by simp)).kept (below_alloc _)).kept (below_alloc _)).kept hb1)
  have Bf : Hid (Blk w1 (w.heap.size + 1 + 1) 29 #[.int .i64 f.num, .slice ka f.ks.length kc, .slice va f.vs.length vc]) := hid (((Blk.newAt (by simp)).kept (below_alloc _)).kept hb1)
  have Br : Hid (Blk w1 (w.heap.size + 1 + 1 + 1) 35 #[.slice none 0 0, .slice none 0 0]) := hid ((Blk.newAt (by simp)).kept hb1)
  have HB : Hid (Below w.heap.size w w1) := hid (bl_then (by exact blBy) hb1)
  have hs1 : w.heap.size + 1 + 1 + 1 + 1 ≤ w1.heap.size := by have := hb1.size; simpa using this
  have xm := Bm.out.cellF
  have zm := Bm.out.lt
  clear hb1
  go_wp2_with fail
  have Bo : Hid (Blk (w1.alloc (.cells #[.string (strOfNums (ownF x.t.fs f.num).name), .int .i64 (ownF x.t.fs f.num).num, .int .i64 (ownF x.t.fs f.num).kind, .int .i64 (ownF x.t.fs f.num).ref, .int .i64 (ownF x.t.fs f.num).lab, .int .i64 (ownF x.t.fs f.num).one, .int .i64 (ownF x.t.fs f.num).key] 77)) w1.heap.size 77 #[.string (strOfNums (ownF x.t.fs f.num).name), .int .i64 (ownF x.t.fs f.num).num, .int .i64 (ownF x.t.fs f.num).kind, .int .i64 (ownF x.t.fs f.num).ref, .int .i64 (ownF x.t.fs f.num).lab, .int .i64 (ownF x.t.fs f.num).one, .int .i64 (ownF x.t.fs f.num).key]) := hid (Blk.new _ _ _)
  have hb1 : Below w1.heap.size w1 (w1.alloc (.cells #[.string (strOfNums (ownF x.t.fs f.num).name), .int .i64 (ownF x.t.fs f.num).num, .int .i64 (ownF x.t.fs f.num).kind, .int .i64 (ownF x.t.fs f.num).ref, .int .i64 (ownF x.t.fs f.num).lab, .int .i64 (ownF x.t.fs f.num).one, .int .i64 (ownF x.t.fs f.num).key] 77)) := below_alloc _
  generalize w1.alloc (.cells #[.string (strOfNums (ownF x.t.fs f.num).name), .int .i64 (ownF x.t.fs f.num).num, .int .i64 (ownF x.t.fs f.num).kind, .int .i64 (ownF x.t.fs f.num).ref, .int .i64 (ownF x.t.fs f.num).lab, .int .i64 (ownF x.t.fs f.num).one, .int .i64 (ownF x.t.fs f.num).key] 77) = w2 at *
  replace Bx := hid (Bx.out.kept hb1)
  replace Bm := hid (Bm.out.kept hb1)
  replace Bf := hid (Bf.out.kept hb1)
  replace Br := hid (Br.out.kept hb1)
  replace HB := hid (below_trans HB.out hb1)
  have hs2 : w1.heap.size + 1 ≤ w2.heap.size := Bo.out.lt
  clear xm zm hb1
  refine (chosenFO w2 Z d m.fs fa fc (HFL.out.kept HB.out) 97 #[.pointer (some ⟨w.heap.size, 0, none⟩), .pointer (some ⟨w1.heap.size, 0, none⟩), .pointer (some ⟨w.heap.size + 1 + 1, 0, none⟩)] cfStay (stayB x.t.fs f.num) (fun W hW cs o _ ho => stayFn W x (HX.out.kept (below_trans HB.out hW)) HR.out HL.out Z d cs o ho _ _ _ f.num _ _ (by rw [HEC.out]; exact Bx.out.kept hW) (Bo.out.kept hW) (Bf.out.kept hW))).mono ?_
  rintro e w3 ⟨la, lc, rfl, hown, hb2⟩
  have HO := hid hown
  replace Bm := hid (Bm.out.kept hb2)
  replace Bf := hid (Bf.out.kept hb2)
  replace Br := hid (Br.out.kept hb2)
  replace HB := hid (below_trans HB.out hb2)
  have hs3 : w2.heap.size ≤ w3.heap.size := hb2.size
  have HLL : Hid ((m.fs.filter (stayB x.t.fs f.num)).length ≤ m.fs.length) := hid (List.length_filter_le _ _)
  generalize m.fs.filter (stayB x.t.fs f.num) = left at *
  clear hown hb2 Bo Bx HX HR HL HEC HFO
  have HRW := hid (HO.out.row (famF d) (by have := HLL.out; omega))
  go_wp2_with fail
  refine (idxFld w3 _ d left la lc HRW.out 98 #[.pointer (some ⟨w.heap.size + 1 + 1, 0, none⟩)] cfLater (laterB f.num) (fun W hW cs o _ ho => laterFn W _ d cs o ho _ f.num _ _ (Bf.out.kept hW))).mono ?_
  rintro e w4 ⟨rfl, hb3⟩
  replace HO := hid (HO.out.kept (famF d) hb3)
  replace Bm := hid (Bm.out.kept hb3)
  replace Bf := hid (Bf.out.kept hb3)
  replace Br := hid (Br.out.kept hb3)
  replace HB := hid (below_trans HB.out hb3)
  have hs4 : w3.heap.size ≤ w4.heap.size := hb3.size
  clear hb3 HRW
  have HIN : Hid (∀ (W : World), Below w4.heap.size w4 W → Blk W w4.heap.size 29 #[.int .i64 f.num, .slice ka f.ks.length kc, .slice va f.vs.length vc] → Calls Tryz.prog 99 #[.slice la left.length lc, .int .i64 ((plcM f.num left : Nat) : Int), .slice (some ⟨w4.heap.size, 0, none⟩) 1 1] W fun e w' => ∃ a c, e = .returned (.slice a (left.length + 1) c) ∧ OwnA w' w2.heap.size Z 29 3 (FmF d) (.slice a (left.length + 1) c) (insM f left) ∧ Below w2.heap.size w4 w') := hid fun W hW hB => by
    have ho : ∀ {b : Nat}, (Value.slice la left.length lc).ownBlock = some b → w2.heap.size ≤ b ∧ b < w4.heap.size := fun e => HO.out.own e
    rw [insM_at]
    refine (insertA W w2.heap.size Z d (.slice la left.length lc) left (HO.out.kept (famF d) hW) _ (plcM_le _ _) w4.heap.size (fun e => by have := (ho e).2; omega) _ _ _ f hB ((famF d).go ((famF d).old HF.out) (keepT (below_trans HB.out hW)) (fun _ _ => trivial) (fun b hz => ⟨hz.1, by have := HB.out.size; have := hW.size; have := hz.2; omega, fun e => by have := (ho e).1; have := hz.2; omega⟩)) (by have := hW.size; omega) (by have := HLL.out; omega)).mono ?_
    rintro e w' ⟨a, c, rfl, h1, h2⟩
    exact ⟨a, c, rfl, h1, ⟨h2.os.trans hW.os, h2.tape.trans hW.tape, h2.output.trans hW.output, Nat.le_trans hW.size h2.size, fun k hk => (h2.block k hk).trans (hW.block k (by omega))⟩⟩
  clear HF HO HFL HM
  have HINL : Hid ((insM f left).length = left.length + 1) := hid (by rw [insM_at]; have := plcM_le f.num left; simp; omega)
  have xm := Bm.out.cellF
  have zm := Bm.out.lt
  have xf := Bf.out.cellF
  have zf := Bf.out.lt
  have f0 : w4.cell? ⟨w.heap.size + 1 + 1, 0, none⟩ = some (.int .i64 f.num) := Bf.out.cell 0 _ rfl
  have f1 : w4.cell? ⟨w.heap.size + 1 + 1, 1, none⟩ = some (.slice ka f.ks.length kc) := Bf.out.cell 1 _ rfl
  have f2 : w4.cell? ⟨w.heap.size + 1 + 1, 2, none⟩ = some (.slice va f.vs.length vc) := Bf.out.cell 2 _ rfl
  have f3 : w4.cell? ⟨w.heap.size + 1, 1, none⟩ = some (.slice ua m.us.length uc) := Bm.out.cell 1 _ rfl
  have m1 : (left.length : Int) ≤ 9223372036854775807 := by have := HLL.out; omega
  have hq1 : w.heap.size + 1 + 1 ≠ w.heap.size + 1 + 1 + 1 := by omega
  have hq2 : w.heap.size + 1 ≠ w.heap.size + 1 + 1 + 1 := by omega
  rcases fnd_plc f.num left 0 with ⟨h1, h2⟩ | ⟨h1, h2⟩
  case' inl =>
    rw [h2] at HIN
    generalize fnd (laterB f.num) left 0 = i at *
    have k0 : (i < 0) = True := eq_true h1
    clear h1 h2
    go_wp2_with fail
  case' inr =>
    rw [h1, Nat.zero_add]
    generalize plcM f.num left = i at *
    have k0 : ((i : Int) < 0) = False := eq_false (by omega)
    clear h1 h2
    go_wp2_with fail
  all_goals (
    clear xm zm xf zf
    go_region_held3 (fun W => W.cell? ⟨w.heap.size + 1 + 1, 0, none⟩ = some (.int .i64 f.num) ∧ W.cell? ⟨w.heap.size + 1 + 1, 1, none⟩ = some (.slice ka f.ks.length kc) ∧ W.cell? ⟨w.heap.size + 1 + 1, 2, none⟩ = some (.slice va f.vs.length vc) ∧ W.cell? ⟨w.heap.size + 1, 1, none⟩ = some (.slice ua m.us.length uc)) (first | exact ⟨f0, f1, f2, f3⟩ | exact ⟨cs2 f0 hq1, cs2 f1 hq1, cs2 f2 hq1, cs2 f3 hq2⟩ | exact ⟨cell_below f0 (by exact blBy), cell_below f1 (by exact blBy), cell_below f2 (by exact blBy), cell_below f3 (by exact blBy)⟩) (first | (go_at_call 99; refine (HIN.out _ (by exact blBy) (by first | exact Blk.newAt rfl | exact Blk.newAt (by simp))).mono ?_; rintro e w5 ⟨a5, c5, rfl, ho5, hb5⟩; have HO5 := hid ho5; have hl5 : w.heap.size + 1 + 1 + 1 < w2.heap.size := (by omega); replace Br := hid ((hb5.block _ (by omega)).trans Br.out); replace Bf := hid ((hb5.block _ (by omega)).trans Bf.out); replace Bm := hid ((hb5.block _ (by omega)).trans Bm.out); replace f0 : w5.cell? ⟨w.heap.size + 1 + 1, 0, none⟩ = some (.int .i64 f.num) := Blk.cell Bf.out 0 _ rfl; replace f1 : w5.cell? ⟨w.heap.size + 1 + 1, 1, none⟩ = some (.slice ka f.ks.length kc) := Blk.cell Bf.out 1 _ rfl; replace f2 : w5.cell? ⟨w.heap.size + 1 + 1, 2, none⟩ = some (.slice va f.vs.length vc) := Blk.cell Bf.out 2 _ rfl; replace f3 : w5.cell? ⟨w.heap.size + 1, 1, none⟩ = some (.slice ua m.us.length uc) := Blk.cell Bm.out 1 _ rfl; have xr := Blk.cellF Br.out; have yr := Blk.frz Br.out; have zr := Blk.lt Br.out; clear ho5))
    go_wp2
    have HB5 : Hid (Below w.heap.size w w5) := hid ⟨hb5.os.trans HB.out.os, hb5.tape.trans HB.out.tape, hb5.output.trans HB.out.output, Nat.le_trans HB.out.size hb5.size, fun k hk => (hb5.block k (by omega)).trans (HB.out.block k hk)⟩
    have HR5 : Hid (FlsR w5 (fun b => Z b ∨ w2.heap.size ≤ b) d (.slice a5 (left.length + 1) c5) wm.fs) := hid (by rw [HWM.out]; exact HO5.out.row (famF d) (by rw [HINL.out]; have := HLL.out; omega))
    exact bodyPost_ret (v := .agg #[.slice a5 (left.length + 1) c5, .slice ua m.us.length uc]) (by simp [results, Tryz.results54, go_sem, xr, yr, zr]) rfl ⟨[.slice a5 (left.length + 1) c5, .slice ua m.us.length uc], rfl, ⟨_, _, rfl, FlsR.go (f := fun b => b ≠ w.heap.size + 1 + 1 + 1) HR5.out (by with_reducible repeat (first | exact Keep.refl _ _ | refine kpS ?_ (by first | (simp; done) | (simp; omega) | omega) | refine kpA ?_ _ | refine kpD ?_ | refine kpN ?_ _)) (fun b hz => by rcases hz with hz | hz; (have := hZ b hz; omega); omega) (fun b hz => by rcases hz with hz | hz; exact Or.inl hz; exact Or.inr (by omega)), by rw [HWU.out]; exact (EnsR.kept HUL.out (by have := HB5.out; exact blBy)).weakE (fun b hz => Or.inl hz)⟩, by have := HB5.out; exact blBy⟩)
theorem withT (w : World) (x : TV) (hx : TyR w x) (hr : Rise x.t.fs) (hl : x.t.fs.length ≤ 128) (Z : Nat → Prop) (d : Nat) (cm cf : List Value) (m : CM) (f : CF CM) (hm : MsgE w Z (d + 1) cm m) (hf : FldE w Z (MsgE w Z d) cf f) (hml : m.fs.length < 4000000) : Calls Tryz.prog 54 #[.agg (cTV x).toArray, .agg cm.toArray, .agg cf.toArray] w fun e w' => ∃ ds : List Value, e = .returned (.agg ds.toArray) ∧ MsgE w' (fun b => Z b ∨ w.heap.size ≤ b) (d + 1) ds (withM x.t.fs m f) ∧ Below w.heap.size w w' := by
  refine (withT0 w x hx hr hl (fun b => Z b ∧ b < w.heap.size) (fun b hb => hb.2) d cm cf m f (MsgE.old _ _ _ hm) ((famF d).old hf) hml).mono ?_
  rintro e w' ⟨ds, rfl, hn, hb⟩
  exact ⟨ds, rfl, MsgE.go (Keep.refl (fun _ => True) w') (fun _ _ => trivial) (fun b hz => by rcases hz with hz | hz; exact Or.inl hz.1; exact Or.inr hz) _ _ _ hn, hb⟩
theorem below_keepB {f : Nat → Prop} {w w1 w2 : World} (h : Below w.heap.size w w1) (g : Keep f w1 w2) (hf : ∀ k, k < w.heap.size → f k) : Below w.heap.size w w2 := ⟨g.os.trans h.os, g.tape.trans h.tape, g.output.trans h.output, Nat.le_trans h.size g.size, fun k hk => (g.block k (Nat.lt_of_lt_of_le hk h.size) (hf k hk)).trans (h.block k hk)⟩
/-- What Set answers for a typed message. -/
def SetR (d : Nat) (w : World) (b : Bool) (m : CM) (e : Ending) (w' : World) : Prop := (b = true → ∃ ds : List Value, e = .returned (.tuple #[.agg ds.toArray, .int .i64 0]) ∧ MsgE w' (w.heap.size ≤ ·) d ds m) ∧ (b = false → e = .returned (.tuple #[.agg #[.slice none 0 0, .slice none 0 0], .int .i64 10])) ∧ Below w.heap.size w w'
theorem setOk (w : World) (l : List TV) (ta : Option Addr) (tc : Nat) (h : TbR w (.slice ta l.length tc) l) (hk : ∀ x ∈ l, OkV x) (mx : Int) (hm0 : w.cell? ⟨0, 0, none⟩ = some (.int .i64 mx)) (k : Nat) (hkl : k < l.length) (hg : goodB l = true) (he : l[k].t.enum = false) (Z : Nat → Prop) (d : Nat) (cs cf : List Value) (m : CM) (f : CF CM) (hm : MsgE w Z (d + 1) cs m) (hf : FldE w Z (MsgE w Z d) cf f) (hq : keptB l (d + 1) l[k] m = true) : Calls Tryz.prog 25 #[.agg #[.slice ta l.length tc], .int .i64 (k : Int), .agg cs.toArray, .agg cf.toArray] w (SetR (d + 1) w (keptB l (d + 1) l[k] (withM l[k].t.fs m f)) (withM l[k].t.fs m f)) := by
  obtain ⟨Y, hY, hm, hf⟩ : ∃ Y : Nat → Prop, (∀ b, Y b → b < w.heap.size) ∧ MsgE w Y (d + 1) cs m ∧ FldE w Y (MsgE w Y d) cf f := ⟨_, fun b h => h.2, MsgE.old _ _ _ hm, (famF d).old hf⟩
  have hr := good_rise hg (List.getElem_mem hkl)
  have HA := hid fun W (hW : Below w.heap.size w W) => typedAtOk W l ta tc (h.kept hW) hk mx (cell_below hm0 hW) k hkl hg he Y (d + 1) cs m (hm.kept hW) hq
  have HW := hid fun W (hW : Below w.heap.size w W) => withT W l[k] ((h.kept hW).ty l[k] (List.getElem_mem hkl)) hr.1 hr.2 Y d cs cf m f (hm.kept hW) (hf.kept hW) (by have := kept_len hq; have := hr.2; omega)
  have HK := hid fun W (hW : Below w.heap.size w W) (Z' : Nat → Prop) (ds : List Value) (hd : MsgE W Z' (d + 1) ds (withM l[k].t.fs m f)) => areKeptT W l ta tc (h.kept hW) hg l[k] (List.getElem_mem hkl) Z' (d + 1) ds _ hd
  obtain ⟨ta1, tc1, ta2, tc2, ta3, tc3, ta4, tc4, e1, e2, e3, e4⟩ := shT_of (h.ty l[k] (List.getElem_mem hkl))
  have ec : cTV l[k] = [.string (strOfNums l[k].t.name), .bool false, .slice ta1 l[k].t.fs.length tc1, .slice ta2 l[k].t.os.length tc2, .slice ta3 l[k].t.ss.length tc3, .slice ta4 l[k].t.rs.length tc4] := by unfold cTV; rw [e1, e2, e3, e4, he]
  obtain ⟨fa, fc, ua, uc, rfl, -⟩ := msg_openD hm
  obtain ⟨ka, kc, va, vc, rfl, -⟩ := fld_open hf
  rw [ec] at HW HK
  rw [e1, e2, e3, e4] at HA
  clear h hg hm hf e1 e2 e3 e4 ec hm0 hk he hq hr
  generalize keptB l (d + 1) l[k] (withM l[k].t.fs m f) = kb at *
  generalize withM l[k].t.fs m f = wm at *
  generalize l[k] = x at *
  go_enter Tryz.func25, Tryz.ntmps25
  go_wp2_with fail
  refine (HA.out _ (by exact blBy)).mono ?_
  rintro e w1 ⟨rfl, hb1⟩
  have HB1 : Hid (Below w.heap.size w w1) := hid (bl_then (by exact blBy) hb1)
  have Bm : Hid (Blk w1 (w.heap.size + 1) 35 #[.slice fa m.fs.length fc, .slice ua m.us.length uc]) := hid ((((Blk.newAt (by simp)).kept (below_alloc _)).kept (below_alloc _)).kept hb1)
  have Bf : Hid (Blk w1 (w.heap.size + 1 + 1) 29 #[.int .i64 f.num, .slice ka f.ks.length kc, .slice va f.vs.length vc]) := hid (((Blk.newAt (by simp)).kept (below_alloc _)).kept hb1)
  have Br : Hid (Blk w1 (w.heap.size + 1 + 1 + 1) 35 #[.slice none 0 0, .slice none 0 0]) := hid ((Blk.newAt (by simp)).kept hb1)
  have hs1 : Hid (w.heap.size + 4 ≤ w1.heap.size) := hid (by have := hb1.size; simpa using this)
  have xm := Bm.out.cellF
  have zm := Bm.out.lt
  have xf := Bf.out.cellF
  have zf := Bf.out.lt
  have zt1 : w.heap.size < w1.heap.size := by have := hb1.size; simp at this; omega
  have zm1 : w.heap.size + 1 < w1.heap.size := by have := hb1.size; simp at this; omega
  have zf1 : w.heap.size + 1 + 1 < w1.heap.size := by have := hb1.size; simp at this; omega
  clear HA hb1
  go_wp2_with fail
  refine (HW.out _ (by have := HB1.out; exact blBy)).mono ?_
  rintro e w2 ⟨ds, rfl, hn, hb2⟩
  have hz2 : Below w1.heap.size w1 w2 := bl_then (by exact blBy) hb2
  have HN : Hid (MsgE w2 (fun b => Y b ∨ w1.heap.size + 2 ≤ b) (d + 1) ds wm) := hid (MsgE.go (Keep.refl (fun _ => True) w2) (fun _ _ => trivial) (fun b hz => by rcases hz with hz | hz; exact Or.inl hz; exact Or.inr (by simpa using hz)) _ _ _ hn)
  have Bx : Hid (Blk w2 w1.heap.size 66 #[.string (strOfNums x.t.name), .bool false, .slice ta1 x.t.fs.length tc1, .slice ta2 x.t.os.length tc2, .slice ta3 x.t.ss.length tc3, .slice ta4 x.t.rs.length tc4]) := hid (((Blk.new _ _ _).kept (below_alloc _)).kept hb2)
  have Bq : Hid (Blk w2 (w1.heap.size + 1) 68 #[.slice ta l.length tc]) := hid ((Blk.newAt (by simp)).kept hb2)
  replace Bm := hid (Bm.out.kept hz2)
  replace Br := hid (Br.out.kept hz2)
  have HB2 : Hid (Below w.heap.size w w2) := hid (below_trans HB1.out hz2)
  have hs2 : Hid (w1.heap.size + 2 ≤ w2.heap.size) := hid (by have := hb2.size; simpa using this)
  obtain ⟨na, nc, va2, vc2, rfl, -⟩ := msg_openD HN.out
  have xm := Bm.out.cellF
  have ym := Bm.out.frz
  have zm := Bm.out.lt
  have xx := Bx.out.cellF
  have zx := Bx.out.lt
  have xq := Bq.out.cellF
  have zq := Bq.out.lt
  have n1 : w1.heap.size + 1 ≠ w.heap.size + 1 := by have := hs1.out; omega
  have n2 : w1.heap.size ≠ w.heap.size + 1 := by have := hs1.out; omega
  clear hb2 hz2 hn HW xf zf
  go_wp2_with fail
  have KE : Hid (Keep (fun b => b ≠ w.heap.size + 1) w2 ((w2.setCell ⟨w.heap.size + 1, 0, none⟩ (.slice na wm.fs.length nc)).setCell ⟨w.heap.size + 1, 1, none⟩ (.slice va2 wm.us.length vc2))) := hid (by with_reducible repeat (first | exact Keep.refl _ _ | refine kpS ?_ (by first | (simp; done) | (simp; omega) | omega)))
  have Bm3 : Hid (Blk ((w2.setCell ⟨w.heap.size + 1, 0, none⟩ (.slice na wm.fs.length nc)).setCell ⟨w.heap.size + 1, 1, none⟩ (.slice va2 wm.us.length vc2)) (w.heap.size + 1) 35 #[.slice na wm.fs.length nc, .slice va2 wm.us.length vc2]) := hid (((Bm.out.set 0 _).set 1 _).is (by simp))
  generalize ((w2.setCell ⟨w.heap.size + 1, 0, none⟩ (.slice na wm.fs.length nc)).setCell ⟨w.heap.size + 1, 1, none⟩ (.slice va2 wm.us.length vc2)) = w3 at *
  have HB3 : Hid (Below w.heap.size w w3) := hid (below_keepB HB2.out KE.out (fun k hk => by omega))
  replace Br := hid (Br.out.keep KE.out (by omega))
  have HN3 : Hid (MsgE w3 AnyZ (d + 1) [.slice na wm.fs.length nc, .slice va2 wm.us.length vc2] wm) := hid (MsgE.go KE.out (fun b hz => by rcases hz with hz | hz; (have := hY b hz; omega); (have := hs1.out; omega)) (fun _ _ => trivial) _ _ _ HN.out)
  have hs3 : w2.heap.size ≤ w3.heap.size := KE.out.size
  clear xm ym zm xx zx xq zq HN HB2 Bm Bx Bq KE
  refine (HK.out _ HB3.out _ _ HN3.out).mono ?_
  rintro e w4 ⟨rfl, hb4⟩
  have Bm4 := hid (Bm3.out.kept hb4)
  replace Br := hid (Br.out.kept hb4)
  replace HB3 := hid (below_trans HB3.out hb4)
  replace HN3 := hid (HN3.out.kept hb4)
  have hs4 := hb4.size
  clear HK hb4 Bm3
  have xm := Bm4.out.cellF
  have zm := Bm4.out.lt
  have zt1 : w.heap.size < w4.heap.size := by have := hs1.out; have := hs2.out; omega
  have zr1 : w.heap.size + 1 + 1 + 1 < w4.heap.size := by have := hs1.out; have := hs2.out; omega
  cases kb with
  | false =>
    have xr := Br.out.cellF
    have yr := Br.out.frz
    have zr := Br.out.lt
    go_wp2
    exact bodyPost_ret (v := .tuple #[.agg #[.slice none 0 0, .slice none 0 0], .int .i64 10]) (by simp [results, Tryz.results25, go_sem, xr, yr, zr]) rfl ⟨fun q => (by cases q), fun _ => rfl, by have := HB3.out; exact blBy⟩
  | true =>
    go_wp2_with fail
    refine (copyT (d + 1) _ AnyZ _ wm HN3.out).mono ?_
    rintro e w5 ⟨es, rfl, hn, hb5⟩
    have HN5 : Hid (MsgE w5 (w.heap.size + 4 ≤ ·) (d + 1) es wm) := hid (MsgE.go (Keep.refl (fun _ => True) w5) (fun _ _ => trivial) (fun k hk => by have := hs1.out; have := hs2.out; have hk2 : w4.heap.size ≤ k := hk; omega) _ _ _ hn)
    replace Br := hid (Br.out.kept hb5)
    replace HB3 := hid (below_trans HB3.out hb5)
    obtain ⟨ea, ec, ga, gc, rfl, -⟩ := msg_openD HN5.out
    have xr := Br.out.cellF
    have yr := Br.out.frz
    have zr := Br.out.lt
    clear hn hb5 xm zm HN3 Bm4
    go_wp2
    exact bodyPost_ret (v := .tuple #[.agg #[.slice ea wm.fs.length ec, .slice ga wm.us.length gc], .int .i64 0]) (by simp [results, Tryz.results25, go_sem, xr, yr, zr]) rfl ⟨fun _ => ⟨[.slice ea wm.fs.length ec, .slice ga wm.us.length gc], rfl, MsgE.go (f := (w.heap.size + 4 ≤ ·)) (by with_reducible repeat (first | exact Keep.refl _ _ | refine kpS ?_ (by first | (simp; done) | (simp; omega) | omega) | refine kpA ?_ _ | refine kpD ?_ | refine kpN ?_ _)) (fun _ h => h) (fun k hk => by omega) _ _ _ HN5.out⟩, fun q => (by cases q), by have := HB3.out; exact blBy⟩
theorem norm_no {l : List TV} {d : Nat} {x : TV} {m : CM} (h : keptB l d x m = false) : normB l d x m = false := by
  unfold normB
  rw [h]
  rfl
theorem norm_set {l : List TV} {d : Nat} {x : TV} {m : CM} (h : keptB l d x m = true) : normB l d x (setM l d x m) = true := by
  unfold normB
  rw [set_kept l d x m h, (norm_iff l d x _).2 (set_idem l d x m)]
  rfl
theorem norm_eq {l : List TV} {d : Nat} {x : TV} {m : CM} (h : keptB l d x m = true) : normB l d x m = true ↔ setM l d x m = m := by
  unfold normB
  rw [h, Bool.true_and]
  exact norm_iff l d x m
theorem with_get {l : List TV} {x : TV} {d : Nat} {fs : List FT} {m : CM} {f : CF CM} (h : keptB l (d + 1) x (withM fs m f) = true) : (withM fs m f).fs.find? (isN f.num) = some f := with_find h
end Go.Proofs.YtnfdlnelfnigdaaGreatDoor
