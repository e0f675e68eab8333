/-
  The reader's tree, over what file answers.
  The last struct of a row of declarations is stored anew.
  The reader of the program parse: which member it is.
  The reader of the program parse: a member, over what a message answers.
  A declaration more in a declaration that is built: appended as a zero, then stored.
  The reader of the program parse: members that are fields with a mark.
  The reader of the program parse: a member that is a map.
  The reader of the program parse: a member that is a field without a mark.
  The reader of the program parse: members that are oneofs and ranges.
  The reader of the program parse: a member that is an enum.
-/
import Derived.Test.YtidimdbnnnpplaaGreatDoorCPO
import Derived.Test.YtidimdbnnnpplaaGreatDoorCPMb
import Derived.Laws.OwnMore
import Derived.Test.YtidimdbnnnpplaaGreatDoorCPKb
namespace Go.Proofs.YtidimdbnnnpplaaGreatDoor
open Go.RowKit
set_option maxRecDepth 1000000
set_option linter.unusedVariables false
set_option linter.unusedSimpArgs false
set_option maxHeartbeats 4000000
theorem treeW (w0 : World) (b off cap : Nat) (ms : List Mw) (p : Nat) (w : World) (i : Nat) (S : PS) (F : World → Value → Value → Prop)
    (hst : ∀ W W' v1 v2, F W v1 v2 → Keep (fun k => k ≠ w.heap.size ∧ k ≠ w.heap.size + 1) W W' → F W' v1 v2)
    (HF : ∀ W, PR w0 b off cap ms p W i → w.heap.size + 1 < W.heap.size → Calls Tryz.prog 37 #[.pointer (some ⟨p, 0, none⟩)] W fun e w' => Keep (· ≠ p) W w' ∧ ((∃ a1 n1 c1 a2 n2 c2, e = .returned (.agg #[.slice a1 n1 c1, .slice a2 n2 c2]) ∧ S.cd = 0 ∧ Hid (F w' (.slice a1 n1 c1) (.slice a2 n2 c2))) ∨ Fell S e))
    (h : PR w0 b off cap ms p w i) :
    Calls Tryz.prog 15 #[.pointer (some ⟨p, 0, none⟩)] w fun e w' => Keep (· ≠ p) w w' ∧ ((∃ a1 n1 c1 a2 n2 c2, e = .returned (.tuple #[.agg #[.slice a1 n1 c1, .slice a2 n2 c2], .agg #[.int .i64 0, .int .i64 0, .int .i64 0, .int .i64 0]]) ∧ S.cd = 0 ∧ F w' (.slice a1 n1 c1) (.slice a2 n2 c2)) ∨
      (S.cd ≠ 0 ∧ e = .returned (.tuple #[.agg #[.slice none 0 0, .slice none 0 0], .agg #[.int .i64 S.cd, .int .i64 0, .int .i64 S.ln, .int .i64 S.cl]]))) := by
  have hmf : ∀ (fn : Fn) (first cap : Array Value) (w : World), (Instr.makeFunc fn first cap).run Tryz.prog w = .ok (.func fn first cap) w := fun _ _ _ _ => rfl
  have hpl : p < w.heap.size := h.blk.lt
  have HR := hid h
  replace HF := hid HF
  replace hst := hid hst
  clear h
  go_enter_defers Tryz.func15, Tryz.ntmps15
  go_wp2_with fail
  refine (HF.out _ (by have := HR.out; exact prBy) (by simp)).mono ?_
  rintro e w1 ⟨hK1, (⟨a1, n1, c1, a2, n2, c2, rfl, hcd, hF⟩ | ⟨hcd, rfl⟩)⟩
  · have B1 : Blk w1 w.heap.size 25 #[.slice none 0 0, .slice none 0 0] := Blk.keep ((Blk.newAt rfl).kept (below_alloc _)) hK1 (show w.heap.size ≠ p by omega)
    have B2 : Blk w1 (w.heap.size + 1) 28 #[.int .i64 0, .int .i64 0, .int .i64 0, .int .i64 0] := Blk.keep (Blk.newAt (by simp)) hK1 (show w.heap.size + 1 ≠ p by omega)
    have x1 := B1.cellF
    have y1 := B1.frz
    have x2 := B2.cellF
    have y2 := B2.frz
    have hk1 := hid (Keep.trans (kp_alloc (kp_alloc (Keep.refl _ _) _) _ : Keep (· ≠ p) w _) hK1)
    clear hK1
    go_wp2
    refine leaves_cons (f := 36) (args := #[.pointer (some ⟨w.heap.size, 0, none⟩), .pointer (some ⟨w.heap.size + 1, 0, none⟩)]) (by simp) (by simp [go_sem]) ?_
    refine (catchIdle _ _ _).mono ?_
    rintro e u' w'' ⟨rfl, rfl, hb⟩
    have D1 : Blk w'' w.heap.size 25 #[.slice a1 n1 c1, .slice a2 n2 c2] := Blk.kept (((((((B1.set 0 _).set 1 _).other (show w.heap.size ≠ w.heap.size + 1 by omega) _).other (show w.heap.size ≠ w.heap.size + 1 by omega) _).other (show w.heap.size ≠ w.heap.size + 1 by omega) _).other (show w.heap.size ≠ w.heap.size + 1 by omega) _).is (by simp)) hb
    have D2 : Blk w'' (w.heap.size + 1) 28 #[.int .i64 0, .int .i64 0, .int .i64 0, .int .i64 0] := Blk.kept (((((((B2.other (show w.heap.size + 1 ≠ w.heap.size by omega) _).other (show w.heap.size + 1 ≠ w.heap.size by omega) _).set 0 _).set 1 _).set 2 _).set 3 _).is (by simp)) hb
    have d1 := D1.cellF
    have d2 := D2.cellF
    refine ⟨.tuple #[.agg #[.slice a1 n1 c1, .slice a2 n2 c2], .agg #[.int .i64 0, .int .i64 0, .int .i64 0, .int .i64 0]], by simp [results, Tryz.results15, go_sem, d1, d2], ?_, .inl ⟨a1, n1, c1, a2, n2, c2, rfl, hcd, ?_⟩⟩
    · refine Keep.trans ?_ (Keep.ofBelow hb)
      have := hk1.out
      exact kpBy
    · refine hst.out _ _ _ _ (hst.out _ _ _ _ hF.out ?_) (Keep.ofBelow hb)
      exact kp_set (kp_set (kp_set (kp_set (kp_set (kp_set (Keep.refl _ _) (.inl (by simp)) _) (.inl (by simp)) _) (.inl (by simp)) _) (.inl (by simp)) _) (.inl (by simp)) _) (.inl (by simp)) _
  · have B1 : Blk w1 w.heap.size 25 #[.slice none 0 0, .slice none 0 0] := Blk.keep ((Blk.newAt rfl).kept (below_alloc _)) hK1 (show w.heap.size ≠ p by omega)
    have B2 : Blk w1 (w.heap.size + 1) 28 #[.int .i64 0, .int .i64 0, .int .i64 0, .int .i64 0] := Blk.keep (Blk.newAt (by simp)) hK1 (show w.heap.size + 1 ≠ p by omega)
    have hk1 := hid (Keep.trans (kp_alloc (kp_alloc (Keep.refl _ _) _) _ : Keep (· ≠ p) w _) hK1)
    clear hK1
    go_wp2
    refine leaves_cons (f := 36) (args := #[.pointer (some ⟨w.heap.size, 0, none⟩), .pointer (some ⟨w.heap.size + 1, 0, none⟩)]) (by simp) (by simp [go_sem]) ?_
    refine (catchP _ _ S.cd S.ln S.cl _ _ _ _ _ _ [] _ B1 B2 (by omega)).mono ?_
    rintro e u' w'' ⟨rfl, rfl, D1, D2, hK⟩
    have d1 := D1.cellF
    have d2 := D2.cellF
    refine ⟨.tuple #[.agg #[.slice none 0 0, .slice none 0 0], .agg #[.int .i64 S.cd, .int .i64 0, .int .i64 S.ln, .int .i64 S.cl]], by simp [results, Tryz.results15, go_sem, d1, d2], ?_, .inr ⟨hcd, rfl⟩⟩
    exact ⟨hK.os.trans hk1.out.os, hK.tape.trans hk1.out.tape, hK.output.trans hk1.out.output, Nat.le_trans hk1.out.size hK.size, fun q hq hf => by rw [hK.block q (Nat.lt_of_lt_of_le hq hk1.out.size) ⟨by omega, by omega⟩, hk1.out.block q hq hf]⟩
theorem set_last (fl : List Value) (zs : List Value) (n i : Nat) (y : Value) (hf : fl.length = n * 9) : (fl ++ zs).set (n * 9 + i) y = fl ++ zs.set i y := by
  rw [List.set_append_right _ _ (by omega)]
  congr 2
  omega
theorem own_last {w : World} {base g n cap : Nat} {e : TypeId} {fl : List Value} {z0 z1 z2 z3 z4 z5 z6 z7 z8 y0 y1 y2 y3 y4 y5 y6 y7 y8 : Value} (hf : fl.length = n * 9)
    (h : w.ownsRow base e 9 (.slice (some ⟨g, 0, none⟩) (n + 1) cap) (n + 1) (fl ++ [z0, z1, z2, z3, z4, z5, z6, z7, z8])) :
    (((((((((w.setCell ⟨g, n * 9 + 0, none⟩ y0).setCell ⟨g, n * 9 + 1, none⟩ y1).setCell ⟨g, n * 9 + 2, none⟩ y2).setCell ⟨g, n * 9 + 3, none⟩ y3).setCell ⟨g, n * 9 + 4, none⟩ y4).setCell ⟨g, n * 9 + 5, none⟩ y5).setCell ⟨g, n * 9 + 6, none⟩ y6).setCell ⟨g, n * 9 + 7, none⟩ y7).setCell ⟨g, n * 9 + 8, none⟩ y8).ownsRow base e 9 (.slice (some ⟨g, 0, none⟩) (n + 1) cap) (n + 1) (fl ++ [y0, y1, y2, y3, y4, y5, y6, y7, y8]) := by
  have h0 := (h.stored (n * 9 + 0) y0).1
  rw [set_last fl _ n 0 y0 hf] at h0
  have h1 := (h0.stored (n * 9 + 1) y1).1
  rw [set_last fl _ n 1 y1 hf] at h1
  have h2 := (h1.stored (n * 9 + 2) y2).1
  rw [set_last fl _ n 2 y2 hf] at h2
  have h3 := (h2.stored (n * 9 + 3) y3).1
  rw [set_last fl _ n 3 y3 hf] at h3
  have h4 := (h3.stored (n * 9 + 4) y4).1
  rw [set_last fl _ n 4 y4 hf] at h4
  have h5 := (h4.stored (n * 9 + 5) y5).1
  rw [set_last fl _ n 5 y5 hf] at h5
  have h6 := (h5.stored (n * 9 + 6) y6).1
  rw [set_last fl _ n 6 y6 hf] at h6
  have h7 := (h6.stored (n * 9 + 7) y7).1
  rw [set_last fl _ n 7 y7 hf] at h7
  have h8 := (h7.stored (n * 9 + 8) y8).1
  rw [set_last fl _ n 8 y8 hf] at h8
  exact h8
theorem own_cells9 {w : World} {base g n cap : Nat} {e : TypeId} {fl : List Value} {z0 z1 z2 z3 z4 z5 z6 z7 z8 : Value} (hf : fl.length = n * 9)
    (h : w.ownsRow base e 9 (.slice (some ⟨g, 0, none⟩) (n + 1) cap) (n + 1) (fl ++ [z0, z1, z2, z3, z4, z5, z6, z7, z8])) : (w.cell? ⟨g, n * 9, none⟩ = some z0 ∧ w.cell? ⟨g, n * 9 + 1, none⟩ = some z1 ∧ w.cell? ⟨g, n * 9 + 2, none⟩ = some z2 ∧ w.cell? ⟨g, n * 9 + 3, none⟩ = some z3 ∧ w.cell? ⟨g, n * 9 + 4, none⟩ = some z4 ∧ w.cell? ⟨g, n * 9 + 5, none⟩ = some z5 ∧ w.cell? ⟨g, n * 9 + 6, none⟩ = some z6 ∧ w.cell? ⟨g, n * 9 + 7, none⟩ = some z7 ∧ w.cell? ⟨g, n * 9 + 8, none⟩ = some z8) ∧ ∀ i, w.frozen? ⟨g, i, none⟩ = false := by
  have hc : ∀ k u, [z0, z1, z2, z3, z4, z5, z6, z7, z8][k]? = some u → w.cell? ⟨g, n * 9 + k, none⟩ = some u := fun k u hu => by
    have := h.cells (g := g) rfl (n * 9 + k) u (by rw [List.getElem?_append_right (by omega), hf, show n * 9 + k - n * 9 = k by omega]; exact hu)
    have hadd : (⟨g, 0, none⟩ : Addr).add (n * 9 + k) = ⟨g, n * 9 + k, none⟩ := by unfold Addr.add; split <;> simp_all
    rwa [hadd] at this
  refine ⟨⟨hc 0 _ rfl, hc 1 _ rfl, hc 2 _ rfl, hc 3 _ rfl, hc 4 _ rfl, hc 5 _ rfl, hc 6 _ rfl, hc 7 _ rfl, hc 8 _ rfl⟩, fun i => ?_⟩
  obtain ⟨_, _, cur, hk⟩ := own_type (k := g) h rfl
  exact Blk.frozen (w := w) (p := g) (t := e) (cs := cur) hk i
theorem grow_put {w w' : World} {v v' : Value} {g : Nat} (h : Grow w w' v v') (hg : v'.ownBlock = some g) (j : Nat) (u : Value) : Grow w (w'.setCell ⟨g, j, none⟩ u) v v' := by
  refine ⟨h.os, h.tape, h.output, by simp only [World.setCell, Array.size_modify]; exact h.size, fun k hk hv => ?_, h.own⟩
  rw [Below.heap_setCell _ _ _ _ (fun e => ?_)]
  · exact h.block k hk hv
  · simp only [] at e
    subst e
    rcases h.own with h1 | h1
    · exact hv (h1.symm.trans hg)
    · have := h1 k hg; omega
def zD9 : Value := .agg #[.bool false, .string ⟨#[]⟩, .int .i64 0, .int .i64 0, .slice none 0 0, .slice none 0 0, .slice none 0 0, .slice none 0 0, .slice none 0 0]
theorem Tryz.infoD : (Tryz.prog.info? 102).map (fun i => (i.zero, i.size, i.bytes)) = some (some zD9, 9, 160) := by kernel_rfl
/-- A zero declaration more. -/
theorem appendZ (base : Nat) (v : Value) (n : Nat) (fl : List Value) (w : World) (h : w.ownsRow base 102 9 v n fl) (hb : base ≤ w.heap.size) (hn : n ≤ 400000) :
    ∃ g c w', (Builtin.append_ #[23, 23] 23 #[v, .slice (some ⟨w.heap.size, 0, none⟩) 1 1]).run Tryz.prog (w.alloc (.cells #[.bool false, .string ⟨#[]⟩, .int .i64 0, .int .i64 0, .slice none 0 0, .slice none 0 0, .slice none 0 0, .slice none 0 0, .slice none 0 0] 102)) = .ok (.slice (some ⟨g, 0, none⟩) (n + 1) c) w' ∧
      w'.ownsRow base 102 9 (.slice (some ⟨g, 0, none⟩) (n + 1) c) (n + 1) (fl ++ [.bool false, .string ⟨#[]⟩, .int .i64 0, .int .i64 0, .slice none 0 0, .slice none 0 0, .slice none 0 0, .slice none 0 0, .slice none 0 0]) ∧ Grow w w' v (.slice (some ⟨g, 0, none⟩) (n + 1) c) := by
  obtain ⟨v', w', h1, h2, h3⟩ := append_st 102 23 9 160 zD9 Tryz.underlying23 Tryz.infoD rfl (by decide) (by decide) base v n fl w #[.bool false, .string ⟨#[]⟩, .int .i64 0, .int .i64 0, .slice none 0 0, .slice none 0 0, .slice none 0 0, .slice none 0 0, .slice none 0 0] rfl (fun u hu => by simp at hu; rcases hu with rfl | rfl | rfl | rfl <;> rfl) h hb hn
  rcases h2.2 with ⟨rfl, h0⟩ | ⟨g, cap, cur, rfl, _⟩
  · omega
  · exact ⟨g, cap, w', h1, h2, h3⟩
/-- A zero declaration more, where it lies already. -/
theorem appendZ2 (base : Nat) (v : Value) (n : Nat) (fl : List Value) (w : World) (q : Nat) (hq : Blk w q 102 #[.bool false, .string ⟨#[]⟩, .int .i64 0, .int .i64 0, .slice none 0 0, .slice none 0 0, .slice none 0 0, .slice none 0 0, .slice none 0 0]) (h : w.ownsRow base 102 9 v n fl) (hb : base ≤ w.heap.size) (hn : n ≤ 400000) :
    ∃ g c w', (Builtin.append_ #[23, 23] 23 #[v, .slice (some ⟨q, 0, none⟩) 1 1]).run Tryz.prog w = .ok (.slice (some ⟨g, 0, none⟩) (n + 1) c) w' ∧
      w'.ownsRow base 102 9 (.slice (some ⟨g, 0, none⟩) (n + 1) c) (n + 1) (fl ++ [.bool false, .string ⟨#[]⟩, .int .i64 0, .int .i64 0, .slice none 0 0, .slice none 0 0, .slice none 0 0, .slice none 0 0, .slice none 0 0]) ∧ Grow w w' v (.slice (some ⟨g, 0, none⟩) (n + 1) c) := by
  obtain ⟨i0, hi, hz0, hz1, hz2⟩ := info_parts Tryz.infoD
  have hcell : ∀ j u, ([.bool false, .string ⟨#[]⟩, .int .i64 0, .int .i64 0, .slice none 0 0, .slice none 0 0, .slice none 0 0, .slice none 0 0, .slice none 0 0] : List Value)[j]? = some u → w.cell? ((⟨q, 0, none⟩ : Addr).add j) = some u := by
    intro j u hu
    have hadd : (⟨q, 0, none⟩ : Addr).add j = ⟨q, j, none⟩ := by unfold Addr.add; split <;> simp_all
    rw [hadd, hq.cellF j]
    simpa using hu
  obtain ⟨v', w', h1, h2, h3⟩ := run_append_mine (P := Tryz.prog) w base 23 23 102 i0 zD9 9 160 Tryz.underlying23 hi hz0 hz1 hz2 rfl (by decide) v n fl h ⟨q, 0, none⟩ 1 1 [.bool false, .string ⟨#[]⟩, .int .i64 0, .int .i64 0, .slice none 0 0, .slice none 0 0, .slice none 0 0, .slice none 0 0, .slice none 0 0] rfl hcell (fun u hu => by simp at hu; rcases hu with rfl | rfl | rfl | rfl <;> rfl) (by unfold maxLen; omega) (by omega) hb
  rcases h2.2 with ⟨rfl, h0⟩ | ⟨g, cap, cur, rfl, _⟩
  · omega
  · exact ⟨g, cap, w', h1, h2, h3⟩
section
variable {w0 : World} {b off cap : Nat} {ms : List Mw} {p : Nat} {w : World} {base pd n : Nat} {wr w' : World} {j : Nat} {x : DV}
theorem DI.addD (h : DI w0 b off cap ms p w base pd n wr j x) {N : Nat} {y : DV} (hN : base ≤ N) (hm : ∀ k, x.mine k ∨ k = pd → k < N) (hy : RD n wr (fun k => N ≤ k ∧ k < wr.heap.size) y) {v' : Value}
    {Z : Nat → Prop} {dvs : List DV} (e : dvs.map DV.d = x.d.decls) (hd : wr.ownsRow base 102 9 x.dd dvs.length (dvs.flatMap cD)) (hz : ∀ k, Z k → base ≤ k ∧ k < wr.heap.size) (hmz : ∀ k, x.mine k ∨ k = pd → ¬ Z k) (hys : ∀ y ∈ dvs, RD n wr Z y)
    (g : Grow wr w' x.dd v') (ho : w'.ownsRow base 102 9 v' (dvs.length + 1) (dvs.flatMap cD ++ cD y)) :
    DI w0 b off cap ms p w base pd n (w'.setCell ⟨pd, 6, none⟩ v') j ⟨{ x.d with decls := x.d.decls ++ [y.d] }, x.f, x.o, v', x.r, x.s⟩ := by
  have hb : Blk w' pd 102 #[.bool x.d.enum, .string (strOfNums x.d.name), .int .i64 x.d.at1.1, .int .i64 x.d.at1.2, x.f, x.o, x.dd, x.r, x.s] := h.blk.keep (Keep.ofGrow (f := fun q => x.dd.ownBlock ≠ some q) g (fun _ hk => hk)) (fun hk => h.own.me pd (.inr (.inr (.inl hk))) rfl)
  have ho' := h.own.addD (by decide) (by decide) (by decide) (by decide) (Zy := fun k => N ≤ k ∧ k < wr.heap.size) (fun k hk => ⟨by omega, hk.2⟩) (fun k hk hk2 => by have := hm k hk; omega) hy Z e hd hz hmz hys g ho
  have hpr := grow_pr g hd h.lo h.pr
  refine ⟨hpr.set (by have := h.lo; have := h.up; show p < pd; omega) _, ?_, (hb.set 6 _).is (by simp), ho'.keep (f := (· ≠ pd)) (Keep.setCell _ _ _ (by simp)) (fun q _ hq => hq), h.lo, h.up⟩
  exact (h.fr.trans ((grow_keep g hd h.lo).weak (fun q hq => hq.2))).trans (Keep.setCell _ _ _ (fun hq => by have := hq.2; have := h.up; simp at *; omega))
end
set_option maxHeartbeats 8000000
theorem plain_msg : plainW wMessage := ⟨by decide, 109, [101, 115, 115, 97, 103, 101], rfl, by decide, by decide⟩
theorem plain_opt : plainW wOptional := ⟨by decide, 111, [112, 116, 105, 111, 110, 97, 108], rfl, by decide, by decide⟩
theorem plain_rep : plainW wRepeated := ⟨by decide, 114, [101, 112, 101, 97, 116, 101, 100], rfl, by decide, by decide⟩
theorem wordB {m : Mw} (h : okW m) {x : List Int} (hx : plainW x) {X : List UInt8} (hX : (strOfNums x).toList = X) : ((strOfNums m.s).toList == X) = decide (m.s = x) := by
  rw [← hX]
  exact str_eq h.bd hx.1
/-- The seven words that a member is told by. -/
structure WB (m : Mw) : Prop where
  e0 : ((strOfNums m.s).toList == [109, 101, 115, 115, 97, 103, 101]) = decide (m.s = wMessage)
  e1 : ((strOfNums m.s).toList == [101, 110, 117, 109]) = decide (m.s = wEnum)
  e2 : ((strOfNums m.s).toList == [111, 110, 101, 111, 102]) = decide (m.s = wOneof)
  e3 : ((strOfNums m.s).toList == [114, 101, 115, 101, 114, 118, 101, 100]) = decide (m.s = wReserved)
  e4 : ((strOfNums m.s).toList == [111, 112, 116, 105, 111, 110, 97, 108]) = decide (m.s = wOptional)
  e5 : ((strOfNums m.s).toList == [114, 101, 112, 101, 97, 116, 101, 100]) = decide (m.s = wRepeated)
  e6 : ((strOfNums m.s).toList == [109, 97, 112]) = decide (m.s = wMap)
theorem WB.of {m : Mw} (h : okW m) : WB m :=
  ⟨wordB h plain_msg (by rw [str_list]; rfl), wordB h plain_enum (by rw [str_list]; rfl), wordB h plain_oneof (by rw [str_list]; rfl), wordB h plain_res (by rw [str_list]; rfl), wordB h plain_opt (by rw [str_list]; rfl), wordB h plain_rep (by rw [str_list]; rfl), wordB h plain_map (by rw [str_list]; rfl)⟩
/-- What a call that reads a declaration answers. -/
def DeclP (w0 : World) (b off cap : Nat) (ms : List Mw) (p n : Nat) (M : MD × PS) (W : World) (e : Ending) (w' : World) : Prop :=
  Keep (· ≠ p) W w' ∧ ((∃ j y, Hid (M.2 = stA ms j) ∧ Hid (y.d = M.1) ∧ e = .returned (.agg #[.bool y.d.enum, .string (strOfNums y.d.name), .int .i64 y.d.at1.1, .int .i64 y.d.at1.2, y.f, y.o, y.dd, y.r, y.s]) ∧ Hid (RD n w' (fun k => W.heap.size ≤ k ∧ k < w'.heap.size) y) ∧ Hid (PR w0 b off cap ms p w' j)) ∨ Fell M.2 e)
/-- What message answers, where so many messages may still be around. -/
def MsgC (w0 : World) (b off cap : Nat) (ms : List Mw) (p L : Nat) : Prop := ∀ (ar : Int) (W : World) (i : Nat), ar + L = 8 → isM (stA ms i) wMessage = true → PR w0 b off cap ms p W i →
  Calls Tryz.prog 77 #[.pointer (some ⟨p, 0, none⟩), .int .i64 ar] W (DeclP w0 b off cap ms p (L + 1) (dclM L (stA ms i)) W)
theorem is_other {s : PS} {x y : List Int} (h : isM s x = true) (hne : x ≠ y) : isM s y = false := by
  obtain ⟨h0, hk, hs⟩ := is_parts h
  unfold isM
  simp [hs, hne]
theorem dcl_enum {s : PS} (h : isM s wEnum = true) (L : Nat) : dclM L s = enmM s := by
  cases L <;> (unfold dclM; rw [if_pos h])
theorem dcl_msg {s : PS} (h : isM s wMessage = true) (L : Nat) : dclM (L + 1) s = msgM (dclM L) s := by
  unfold dclM
  rw [if_neg (by rw [is_other h (by decide)]; decide)]
theorem set_comm (w : World) {a c : Addr} (h : a.block ≠ c.block) (u v : Value) : (w.setCell a u).setCell c v = (w.setCell c v).setCell a u := by
  simp only [World.setCell]
  congr 1
  apply Array.ext
  · simp
  · intro k h1 h2
    simp only [Array.getElem_modify]
    by_cases e1 : a.block = k
    · by_cases e2 : c.block = k
      · omega
      · simp [e1, e2]
    · by_cases e2 : c.block = k
      · simp [e1, e2]
      · simp [e1, e2]
section
variable {w0 : World} {b off cap : Nat} {ms : List Mw} {p : Nat} {w : World} {base pd n : Nat} {w1 w2 : World} {i j2 : Nat} {xd : MD} {xf xo xr xs : Value} {da : Option Addr} {dc : Nat} {dvs : List DV} {Z : Nat → Prop} {y : DV}
/-- What is known of the declaration's lists ahead of the call that reads one more. -/
structure ZH (w0 : World) (b off cap : Nat) (ms : List Mw) (p : Nat) (w : World) (base pd n : Nat) (w1 : World) (i : Nat) (xd : MD) (xf xo : Value) (da : Option Addr) (dc : Nat) (xr xs : Value) (dvs : List DV) (Z : Nat → Prop) : Prop where
  di : DI w0 b off cap ms p w base pd n w1 i ⟨xd, xf, xo, .slice da dvs.length dc, xr, xs⟩
  ee : dvs.map DV.d = xd.decls
  hd : w1.ownsRow base 102 9 (.slice da dvs.length dc) dvs.length (dvs.flatMap cD)
  hz : ∀ k, Z k → base ≤ k ∧ k < w1.heap.size
  hmz : ∀ k, DV.mine ⟨xd, xf, xo, .slice da dvs.length dc, xr, xs⟩ k ∨ k = pd → ¬ Z k
  hys : ∀ y ∈ dvs, RD n w1 Z y
  hl : dvs.length ≤ 300000
theorem ZH.own2 (h : ZH w0 b off cap ms p w base pd n w1 i xd xf xo da dc xr xs dvs Z) (hK : Keep (· ≠ p) w1 w2) : w2.ownsRow base 102 9 (.slice da dvs.length dc) dvs.length (dvs.flatMap cD) := by
  have hlo := h.di.lo
  exact own_keep (f := (· ≠ p)) h.hd (fun q hq (e : q = p) => by have := (own_type h.hd hq).1; omega) hK
variable {w3 : World} {g lc : Nat}
/-- What is known behind the append. -/
structure ZC (w0 : World) (b off cap : Nat) (ms : List Mw) (p : Nat) (w : World) (base pd n : Nat) (w3 : World) (j2 : Nat) (xd : MD) (xf xo : Value) (da : Option Addr) (dc : Nat) (xr xs : Value) (dvs : List DV) (y : DV) (g lc : Nat) : Prop where
  k0 : w3.cell? ⟨g, dvs.length * 9, none⟩ = some (.bool false)
  k1 : w3.cell? ⟨g, dvs.length * 9 + 1, none⟩ = some (.string ⟨#[]⟩)
  k2 : w3.cell? ⟨g, dvs.length * 9 + 2, none⟩ = some (.int .i64 0)
  k3 : w3.cell? ⟨g, dvs.length * 9 + 3, none⟩ = some (.int .i64 0)
  k4 : w3.cell? ⟨g, dvs.length * 9 + 4, none⟩ = some (.slice none 0 0)
  k5 : w3.cell? ⟨g, dvs.length * 9 + 5, none⟩ = some (.slice none 0 0)
  k6 : w3.cell? ⟨g, dvs.length * 9 + 6, none⟩ = some (.slice none 0 0)
  k7 : w3.cell? ⟨g, dvs.length * 9 + 7, none⟩ = some (.slice none 0 0)
  k8 : w3.cell? ⟨g, dvs.length * 9 + 8, none⟩ = some (.slice none 0 0)
  kf : ∀ i, w3.frozen? ⟨g, i, none⟩ = false
  blk : Blk w3 pd 102 #[.bool xd.enum, .string (strOfNums xd.name), .int .i64 xd.at1.1, .int .i64 xd.at1.2, xf, xo, .slice da dvs.length dc, xr, xs]
  ne : g ≠ pd
  lt : g < w3.heap.size
  finA : DI w0 b off cap ms p w base pd n ((((((((((w3.setCell ⟨g, dvs.length * 9, none⟩ (.bool y.d.enum)).setCell ⟨g, dvs.length * 9 + 1, none⟩ (.string (strOfNums y.d.name))).setCell ⟨g, dvs.length * 9 + 2, none⟩ (.int .i64 y.d.at1.1)).setCell ⟨g, dvs.length * 9 + 3, none⟩ (.int .i64 y.d.at1.2)).setCell ⟨g, dvs.length * 9 + 4, none⟩ (y.f)).setCell ⟨g, dvs.length * 9 + 5, none⟩ (y.o)).setCell ⟨g, dvs.length * 9 + 6, none⟩ (y.dd)).setCell ⟨g, dvs.length * 9 + 7, none⟩ (y.r)).setCell ⟨g, dvs.length * 9 + 8, none⟩ (y.s)).setCell ⟨pd, 6, none⟩ (.slice (some ⟨g, 0, none⟩) (dvs.length + 1) lc)) j2 ⟨{ xd with decls := xd.decls ++ [y.d] }, xf, xo, (.slice (some ⟨g, 0, none⟩) (dvs.length + 1) lc), xr, xs⟩
  finB : DI w0 b off cap ms p w base pd n ((((((((((w3.setCell ⟨pd, 6, none⟩ (.slice (some ⟨g, 0, none⟩) (dvs.length + 1) lc)).setCell ⟨g, dvs.length * 9, none⟩ (.bool y.d.enum)).setCell ⟨g, dvs.length * 9 + 1, none⟩ (.string (strOfNums y.d.name))).setCell ⟨g, dvs.length * 9 + 2, none⟩ (.int .i64 y.d.at1.1)).setCell ⟨g, dvs.length * 9 + 3, none⟩ (.int .i64 y.d.at1.2)).setCell ⟨g, dvs.length * 9 + 4, none⟩ (y.f)).setCell ⟨g, dvs.length * 9 + 5, none⟩ (y.o)).setCell ⟨g, dvs.length * 9 + 6, none⟩ (y.dd)).setCell ⟨g, dvs.length * 9 + 7, none⟩ (y.r)).setCell ⟨g, dvs.length * 9 + 8, none⟩ (y.s)) j2 ⟨{ xd with decls := xd.decls ++ [y.d] }, xf, xo, (.slice (some ⟨g, 0, none⟩) (dvs.length + 1) lc), xr, xs⟩
theorem ZH.after (h : ZH w0 b off cap ms p w base pd n w1 i xd xf xo da dc xr xs dvs Z) (hK : Keep (· ≠ p) w1 w2) (R2 : PR w0 b off cap ms p w2 j2) (hy : RD n w2 (fun k => w1.heap.size ≤ k ∧ k < w2.heap.size) y)
    (hown : w3.ownsRow base 102 9 (.slice (some ⟨g, 0, none⟩) (dvs.length + 1) lc) (dvs.length + 1) (dvs.flatMap cD ++ [.bool false, .string ⟨#[]⟩, .int .i64 0, .int .i64 0, .slice none 0 0, .slice none 0 0, .slice none 0 0, .slice none 0 0, .slice none 0 0])) (hgrow : Grow w2 w3 (.slice da dvs.length dc) (.slice (some ⟨g, 0, none⟩) (dvs.length + 1) lc)) :
    ZC w0 b off cap ms p w base pd n w3 j2 xd xf xo da dc xr xs dvs y g lc := by
  have hlo := h.di.lo
  have HI2 : DI w0 b off cap ms p w base pd n w2 j2 ⟨xd, xf, xo, .slice da dvs.length dc, xr, xs⟩ := h.di.reader hK R2
  have hgb := (own_type (k := g) hown rfl).1
  have hgl := (own_type (k := g) hown rfl).2.1
  have hgp : g ≠ pd := fun hq => by
    rcases hgrow.own with h1 | h1
    · exact HI2.own.me g (.inr (.inr (.inl (h1.symm.trans rfl)))) hq
    · have h2 := h1 g rfl; have h3 := HI2.blk.lt; omega
  have hA : DI w0 b off cap ms p w base pd n ((((((((((w3.setCell ⟨g, dvs.length * 9, none⟩ (.bool y.d.enum)).setCell ⟨g, dvs.length * 9 + 1, none⟩ (.string (strOfNums y.d.name))).setCell ⟨g, dvs.length * 9 + 2, none⟩ (.int .i64 y.d.at1.1)).setCell ⟨g, dvs.length * 9 + 3, none⟩ (.int .i64 y.d.at1.2)).setCell ⟨g, dvs.length * 9 + 4, none⟩ (y.f)).setCell ⟨g, dvs.length * 9 + 5, none⟩ (y.o)).setCell ⟨g, dvs.length * 9 + 6, none⟩ (y.dd)).setCell ⟨g, dvs.length * 9 + 7, none⟩ (y.r)).setCell ⟨g, dvs.length * 9 + 8, none⟩ (y.s)).setCell ⟨pd, 6, none⟩ (.slice (some ⟨g, 0, none⟩) (dvs.length + 1) lc)) j2 ⟨{ xd with decls := xd.decls ++ [y.d] }, xf, xo, (.slice (some ⟨g, 0, none⟩) (dvs.length + 1) lc), xr, xs⟩ := by
    have hl := own_last (y0 := .bool y.d.enum) (y1 := .string (strOfNums y.d.name)) (y2 := .int .i64 y.d.at1.1) (y3 := .int .i64 y.d.at1.2) (y4 := y.f) (y5 := y.o) (y6 := y.dd) (y7 := y.r) (y8 := y.s) (flatM_len cD_len dvs) hown
    refine HI2.addD (N := w1.heap.size) (y := y) (Z := Z) (dvs := dvs) h.di.base_le (fun k hk => ?_) hy h.ee (h.own2 hK) (fun k hk => ⟨(h.hz k hk).1, Nat.lt_of_lt_of_le (h.hz k hk).2 hK.size⟩) h.hmz (fun y' h' => RD.keep (f := (· ≠ p)) hK (fun q hq (e : q = p) => by have := (h.hz q hq).1; omega) n y' (h.hys y' h')) ?_ ?_
    · rcases hk with hk | rfl
      · exact (h.di.own.lt hk).2
      · exact h.di.blk.lt
    · exact grow_put (grow_put (grow_put (grow_put (grow_put (grow_put (grow_put (grow_put (grow_put hgrow rfl _ _) rfl _ _) rfl _ _) rfl _ _) rfl _ _) rfl _ _) rfl _ _) rfl _ _) rfl _ _
    · exact hl
  obtain ⟨⟨k0, k1, k2, k3, k4, k5, k6, k7, k8⟩, kf⟩ := own_cells9 (flatM_len cD_len dvs) hown
  refine ⟨k0, k1, k2, k3, k4, k5, k6, k7, k8, kf, HI2.blk.keep (Keep.ofGrow (f := fun q => (Value.slice da dvs.length dc).ownBlock ≠ some q) hgrow (fun _ hk => hk)) (fun hk => HI2.own.me pd (.inr (.inr (.inl hk))) rfl), hgp, hgl, hA, ?_⟩
  have hc : ∀ (W : World) (k : Nat) (u : Value), (W.setCell ⟨g, k, none⟩ u).setCell ⟨pd, 6, none⟩ (.slice (some ⟨g, 0, none⟩) (dvs.length + 1) lc) = (W.setCell ⟨pd, 6, none⟩ (.slice (some ⟨g, 0, none⟩) (dvs.length + 1) lc)).setCell ⟨g, k, none⟩ u := fun W k u => set_comm W (show g ≠ pd from hgp) _ _
  rw [hc, hc, hc, hc, hc, hc, hc, hc, hc] at hA
  exact hA
theorem ZH.behind (h : ZH w0 b off cap ms p w base pd n w1 i xd xf xo da dc xr xs dvs Z) (hK : Keep (· ≠ p) w1 w2) (R2 : PR w0 b off cap ms p w2 j2) (hy : RD n w2 (fun k => w1.heap.size ≤ k ∧ k < w2.heap.size) y) :
    ∃ g lc w3, Hid ((Builtin.append_ #[23, 23] 23 #[.slice da dvs.length dc, .slice (some ⟨w2.heap.size, 0, none⟩) 1 1]).run Tryz.prog (w2.alloc (.cells #[.bool false, .string ⟨#[]⟩, .int .i64 0, .int .i64 0, .slice none 0 0, .slice none 0 0, .slice none 0 0, .slice none 0 0, .slice none 0 0] 102)) = .ok (.slice (some ⟨g, 0, none⟩) (dvs.length + 1) lc) w3) ∧ Hid (ZC w0 b off cap ms p w base pd n w3 j2 xd xf xo da dc xr xs dvs y g lc) := by
  obtain ⟨g, lc, w3, h1, h2, h3⟩ := appendZ base (.slice da dvs.length dc) dvs.length (dvs.flatMap cD) w2 (h.own2 hK) (h.di.reader hK R2).base_le (by have := h.hl; omega)
  exact ⟨g, lc, w3, hid h1, hid (h.after hK R2 hy h2 h3)⟩
theorem ZH.ahead (h : ZH w0 b off cap ms p w base pd n w1 i xd xf xo da dc xr xs dvs Z) (hK : Keep (· ≠ p) w1 w2) (R2 : PR w0 b off cap ms p w2 j2) (hy : RD n w2 (fun k => w1.heap.size ≤ k ∧ k < w2.heap.size) y) (q : Nat) (hq : Blk w2 q 102 #[.bool false, .string ⟨#[]⟩, .int .i64 0, .int .i64 0, .slice none 0 0, .slice none 0 0, .slice none 0 0, .slice none 0 0, .slice none 0 0]) :
    ∃ g lc w3, Hid ((Builtin.append_ #[23, 23] 23 #[.slice da dvs.length dc, .slice (some ⟨q, 0, none⟩) 1 1]).run Tryz.prog w2 = .ok (.slice (some ⟨g, 0, none⟩) (dvs.length + 1) lc) w3) ∧ Hid (ZC w0 b off cap ms p w base pd n w3 j2 xd xf xo da dc xr xs dvs y g lc) := by
  obtain ⟨g, lc, w3, h1, h2, h3⟩ := appendZ2 base (.slice da dvs.length dc) dvs.length (dvs.flatMap cD) w2 q hq (h.own2 hK) (h.di.reader hK R2).base_le (by have := h.hl; omega)
  exact ⟨g, lc, w3, hid h1, hid (h.after hK R2 hy h2 h3)⟩
theorem ZH.start {xdd : Value} (h : DI w0 b off cap ms p w base pd n w1 i ⟨xd, xf, xo, xdd, xr, xs⟩) (ht : tot xd + 3 * muM (stA ms i) ≤ 300000) : ∃ da dc dvs Z, xdd = .slice da dvs.length dc ∧ ZH w0 b off cap ms p w base pd n w1 i xd xf xo da dc xr xs dvs Z := by
  obtain ⟨Z, dvs, ee, hd, hz, hm, hys⟩ := h.own.dd
  dsimp only at ee hd hm
  obtain ⟨da, dc, rfl⟩ : ∃ da dc, xdd = .slice da dvs.length dc := own_shape hd
  exact ⟨da, dc, dvs, Z, rfl, h, ee, hd, hz, hm, hys, by
    have h2 : dvs.length = xd.decls.length := by rw [← ee]; simp
    unfold tot at ht
    omega⟩
/-- What a call answers that reads one more: the slices of its answer are laid open. -/
theorem ZH.call (h : ZH w0 b off cap ms p w base pd n w1 i xd xf xo da dc xr xs dvs Z) {W : World} {e : Ending} {M : MD × PS} {m : Nat} (hb : Keep (· ≠ p) w1 W) (hm : m ≤ n) (hc : DeclP w0 b off cap ms p m M W e w2) :
    (∃ j2 yd a1 n1 c1 a2 n2 c2 a3 n3 c3 a4 n4 c4 a5 n5 c5, e = .returned (.agg #[.bool yd.enum, .string (strOfNums yd.name), .int .i64 yd.at1.1, .int .i64 yd.at1.2, .slice a1 n1 c1, .slice a2 n2 c2, .slice a3 n3 c3, .slice a4 n4 c4, .slice a5 n5 c5]) ∧ Hid (M.2 = stA ms j2) ∧ Hid (yd = M.1) ∧ Hid (Keep (· ≠ p) W w2) ∧ Hid (Keep (· ≠ p) w1 w2) ∧ Hid (PR w0 b off cap ms p w2 j2) ∧ Hid (RD n w2 (fun k => w1.heap.size ≤ k ∧ k < w2.heap.size) ⟨yd, .slice a1 n1 c1, .slice a2 n2 c2, .slice a3 n3 c3, .slice a4 n4 c4, .slice a5 n5 c5⟩)) ∨
    (Fell M.2 e ∧ Hid (Keep (fun k => k ≠ p ∧ k < base) w w2)) := by
  obtain ⟨hK, (⟨j2, y, h1, h2, rfl, hrd, hR⟩ | hF)⟩ := hc
  · have hrd2 := RD.upto hm y (RD.weak (fun k (hk : W.heap.size ≤ k ∧ k < w2.heap.size) => (⟨Nat.le_trans hb.size hk.1, hk.2⟩ : w1.heap.size ≤ k ∧ k < w2.heap.size)) m y hrd.out)
    obtain ⟨yd, yf, yo, ydd, yr, ys⟩ := y
    cases m with
    | zero => exact hrd.out.elim
    | succ m =>
      obtain ⟨⟨a1, c1, r1, _⟩, ⟨a2, c2, r2, _⟩, ⟨a4, c4, r4, _⟩, ⟨a5, c5, r5, _⟩, dvs', _, ⟨a3, c3, r3, _⟩, _⟩ := hrd.out
      dsimp only at r1 r2 r3 r4 r5 h2
      subst r1 r2 r3 r4 r5
      exact .inl ⟨j2, yd, a1, _, c1, a2, _, c2, a3, _, c3, a4, _, c4, a5, _, c5, rfl, h1, h2, hid hK, hid (hb.trans hK), hR, hid hrd2⟩
  · exact .inr ⟨hF, hid (h.di.frame (hb.trans hK))⟩
end
section
variable (w0 : World) (b off cap : Nat) (ms : List Mw) (p : Nat) (w : World) (i : Nat) (base pd n : Nat)
theorem memberOpt (x : DV) (ar : Int) (hml : ms.length ≤ 70000) (htot : tot x.d + 3 * muM (stA ms i) ≤ 300000) (hi : isM (stA ms i) wOptional = true) (h : DI w0 b off cap ms p w base pd n w i x) : Calls Tryz.prog 102 #[.pointer (some ⟨p, 0, none⟩), .pointer (some ⟨pd, 0, none⟩), .int .i64 ar] w fun e w' => (∃ j x', Hid ((fB (fZ 1 0 [] (atM (hdM (stA ms i)))) (nxM (stA ms i))).2 = stA ms j) ∧ Hid (x'.d = { x.d with fields := x.d.fields ++ [(fB (fZ 1 0 [] (atM (hdM (stA ms i)))) (nxM (stA ms i))).1] }) ∧ e = .returned (.tuple #[]) ∧ Hid (DI w0 b off cap ms p w base pd n w' j x')) ∨ (Fell (fB (fZ 1 0 [] (atM (hdM (stA ms i)))) (nxM (stA ms i))).2 e ∧ Keep (fun k => k ≠ p ∧ k < base) w w') := by
  have hpl : p < w.heap.size := h.pr.blk.lt
  have HI0 := hid h
  have HML := hid hml
  have HTT := hid htot
  have WBh := WB.of h.pr.okW
  have hms := (is_parts hi).2.2
  have e0 : ((strOfNums (hdM (stA ms i)).s).toList == [109, 101, 115, 115, 97, 103, 101]) = false := by rw [WBh.e0, hms]; decide
  have e1 : ((strOfNums (hdM (stA ms i)).s).toList == [101, 110, 117, 109]) = false := by rw [WBh.e1, hms]; decide
  have e2 : ((strOfNums (hdM (stA ms i)).s).toList == [111, 110, 101, 111, 102]) = false := by rw [WBh.e2, hms]; decide
  have e3 : ((strOfNums (hdM (stA ms i)).s).toList == [114, 101, 115, 101, 114, 118, 101, 100]) = false := by rw [WBh.e3, hms]; decide
  have e4 : ((strOfNums (hdM (stA ms i)).s).toList == [111, 112, 116, 105, 111, 110, 97, 108]) = true := by rw [WBh.e4, hms]; decide
  clear hms WBh
  have HHI := hid hi
  clear h hml htot hi
  obtain ⟨xd, xf, xo, xdd, xr, xs⟩ := x
  dsimp only at *
  obtain ⟨fa, fc, rfl⟩ : ∃ fa fc, xf = .slice fa xd.fields.length fc := own_shape HI0.out.own.f
  have HTF : Hid (xd.fields.length ≤ 300000) := hid (by have := HTT.out; unfold tot at this; omega)
  have hf := wordF1
  have hlo := HI0.out.lo
  have hup := HI0.out.up
  go_enter Tryz.func102, Tryz.ntmps102
  go_wp2_with fail
  refine (nextW w0 b off cap ms p _ i HI0.out.pr).mono ?_
  rintro e w1 ⟨⟨sa, sc, rfl, hr⟩, hb1⟩
  have HI1 := hid (HI0.out.kept hb1)
  have hs1 := hb1.size
  clear hb1 hr
  have xb1 := HI1.out.blk.cellF
  have yb1 := HI1.out.blk.frz
  have zb1 := HI1.out.blk.lt
  go_wp2_with fail
  go_region_law (first | (refine step_append_ran rfl _ _ 97 97 rfl rfl _ _ (.slice law2 (xd.fields.length + 1) lcw2) w3 rfl rfl HRUNw2.out ?_) | (go_simp; go_wp2_with (go_at_call 120; refine (markedW w0 b off cap ms p _ i ⟨#[111, 112, 116, 105, 111, 110, 97, 108]⟩ wOptional rfl plain_opt 1 HHI.out HML.out (by have := HI1.out.pr; exact prBy)).mono ?_; rintro e w2 ⟨hKw2, (⟨jw2, yw2, hy1w2, hy2w2, rfl, HRw2⟩ | ⟨hcd, rfl⟩)⟩; rotate_left; (have hkw2 := hid (HI1.out.frame (show Keep (· ≠ p) _ w2 from ⟨hKw2.os, hKw2.tape, hKw2.output, hKw2.size, hKw2.block⟩)); exact ⟨rfl, .inr ⟨by skip; exact ⟨hcd, rfl⟩, by have := hkw2.out; exact kpBy⟩⟩); have HIw2 : Hid (DI w0 b off cap ms p w base pd n w2 jw2 ⟨xd, .slice fa xd.fields.length fc, xo, xdd, xr, xs⟩) := hid ((HI1.out.kept (by first | exact Below.refl _ _ | exact below_drew1 _)).reader hKw2 HRw2.out); have hsw2 := hKw2.size; (try simp at hsw2); clear hKw2; obtain ⟨law2, lcw2, w3, hrunw2, hownw2, hgroww2⟩ := appendF base (.slice fa xd.fields.length fc) xd.fields yw2 w2 HIw2.out.own.f HIw2.out.base_le (by have := HTF.out; omega); have HRUNw2 := hid hrunw2; have HIw3 := hid (HIw2.out.addF hgroww2 hownw2); have xbw2 := HIw2.out.blk.cellF; have zbw2 := HIw2.out.blk.lt; have HBw3 : Blk w3 pd 102 _ := (HIw2.out.blk.keep (Keep.ofGrow (f := fun q => (Value.slice fa xd.fields.length fc).ownBlock ≠ some q) hgroww2 (fun _ hk => hk)) (fun hk => HIw2.out.own.me pd (.inl hk) rfl)); have xbw3 := HBw3.cellF; have ybw3 := HBw3.frz; clear hrunw2 hownw2 hgroww2 HBw3)))
  all_goals (go_wp2; go_end0; exact .inl ⟨jw2, ⟨{ xd with fields := xd.fields ++ [yw2] }, _, xo, xdd, xr, xs⟩, hy1w2, hid (by rw [← hy2w2.out]), rfl, HIw3⟩)
theorem memberRep (x : DV) (ar : Int) (hml : ms.length ≤ 70000) (htot : tot x.d + 3 * muM (stA ms i) ≤ 300000) (hi : isM (stA ms i) wRepeated = true) (h : DI w0 b off cap ms p w base pd n w i x) : Calls Tryz.prog 102 #[.pointer (some ⟨p, 0, none⟩), .pointer (some ⟨pd, 0, none⟩), .int .i64 ar] w fun e w' => (∃ j x', Hid ((fB (fZ 2 0 [] (atM (hdM (stA ms i)))) (nxM (stA ms i))).2 = stA ms j) ∧ Hid (x'.d = { x.d with fields := x.d.fields ++ [(fB (fZ 2 0 [] (atM (hdM (stA ms i)))) (nxM (stA ms i))).1] }) ∧ e = .returned (.tuple #[]) ∧ Hid (DI w0 b off cap ms p w base pd n w' j x')) ∨ (Fell (fB (fZ 2 0 [] (atM (hdM (stA ms i)))) (nxM (stA ms i))).2 e ∧ Keep (fun k => k ≠ p ∧ k < base) w w') := by
  have hpl : p < w.heap.size := h.pr.blk.lt
  have HI0 := hid h
  have HML := hid hml
  have HTT := hid htot
  have WBh := WB.of h.pr.okW
  have hms := (is_parts hi).2.2
  have e0 : ((strOfNums (hdM (stA ms i)).s).toList == [109, 101, 115, 115, 97, 103, 101]) = false := by rw [WBh.e0, hms]; decide
  have e1 : ((strOfNums (hdM (stA ms i)).s).toList == [101, 110, 117, 109]) = false := by rw [WBh.e1, hms]; decide
  have e2 : ((strOfNums (hdM (stA ms i)).s).toList == [111, 110, 101, 111, 102]) = false := by rw [WBh.e2, hms]; decide
  have e3 : ((strOfNums (hdM (stA ms i)).s).toList == [114, 101, 115, 101, 114, 118, 101, 100]) = false := by rw [WBh.e3, hms]; decide
  have e4 : ((strOfNums (hdM (stA ms i)).s).toList == [111, 112, 116, 105, 111, 110, 97, 108]) = false := by rw [WBh.e4, hms]; decide
  have e5 : ((strOfNums (hdM (stA ms i)).s).toList == [114, 101, 112, 101, 97, 116, 101, 100]) = true := by rw [WBh.e5, hms]; decide
  clear hms WBh
  have HHI := hid hi
  clear h hml htot hi
  obtain ⟨xd, xf, xo, xdd, xr, xs⟩ := x
  dsimp only at *
  obtain ⟨fa, fc, rfl⟩ : ∃ fa fc, xf = .slice fa xd.fields.length fc := own_shape HI0.out.own.f
  have HTF : Hid (xd.fields.length ≤ 300000) := hid (by have := HTT.out; unfold tot at this; omega)
  have hf := wordF1
  have hlo := HI0.out.lo
  have hup := HI0.out.up
  go_enter Tryz.func102, Tryz.ntmps102
  go_wp2_with fail
  refine (nextW w0 b off cap ms p _ i HI0.out.pr).mono ?_
  rintro e w1 ⟨⟨sa, sc, rfl, hr⟩, hb1⟩
  have HI1 := hid (HI0.out.kept hb1)
  have hs1 := hb1.size
  clear hb1 hr
  have xb1 := HI1.out.blk.cellF
  have yb1 := HI1.out.blk.frz
  have zb1 := HI1.out.blk.lt
  go_wp2_with fail
  go_region_law (first | (refine step_append_ran rfl _ _ 97 97 rfl rfl _ _ (.slice law2 (xd.fields.length + 1) lcw2) w3 rfl rfl HRUNw2.out ?_) | (go_simp; go_wp2_with (go_at_call 120; refine (markedW w0 b off cap ms p _ i ⟨#[114, 101, 112, 101, 97, 116, 101, 100]⟩ wRepeated rfl plain_rep 2 HHI.out HML.out (by have := HI1.out.pr; exact prBy)).mono ?_; rintro e w2 ⟨hKw2, (⟨jw2, yw2, hy1w2, hy2w2, rfl, HRw2⟩ | ⟨hcd, rfl⟩)⟩; rotate_left; (have hkw2 := hid (HI1.out.frame (show Keep (· ≠ p) _ w2 from ⟨hKw2.os, hKw2.tape, hKw2.output, hKw2.size, hKw2.block⟩)); exact ⟨rfl, .inr ⟨by skip; exact ⟨hcd, rfl⟩, by have := hkw2.out; exact kpBy⟩⟩); have HIw2 : Hid (DI w0 b off cap ms p w base pd n w2 jw2 ⟨xd, .slice fa xd.fields.length fc, xo, xdd, xr, xs⟩) := hid ((HI1.out.kept (by first | exact Below.refl _ _ | exact below_drew1 _)).reader hKw2 HRw2.out); have hsw2 := hKw2.size; (try simp at hsw2); clear hKw2; obtain ⟨law2, lcw2, w3, hrunw2, hownw2, hgroww2⟩ := appendF base (.slice fa xd.fields.length fc) xd.fields yw2 w2 HIw2.out.own.f HIw2.out.base_le (by have := HTF.out; omega); have HRUNw2 := hid hrunw2; have HIw3 := hid (HIw2.out.addF hgroww2 hownw2); have xbw2 := HIw2.out.blk.cellF; have zbw2 := HIw2.out.blk.lt; have HBw3 : Blk w3 pd 102 _ := (HIw2.out.blk.keep (Keep.ofGrow (f := fun q => (Value.slice fa xd.fields.length fc).ownBlock ≠ some q) hgroww2 (fun _ hk => hk)) (fun hk => HIw2.out.own.me pd (.inl hk) rfl)); have xbw3 := HBw3.cellF; have ybw3 := HBw3.frz; clear hrunw2 hownw2 hgroww2 HBw3)))
  all_goals (go_wp2; go_end0; exact .inl ⟨jw2, ⟨{ xd with fields := xd.fields ++ [yw2] }, _, xo, xdd, xr, xs⟩, hy1w2, hid (by rw [← hy2w2.out]), rfl, HIw3⟩)
end
section
variable (w0 : World) (b off cap : Nat) (ms : List Mw) (p : Nat) (w : World) (i : Nat) (base pd n : Nat)
theorem memberMap (x : DV) (ar : Int) (hml : ms.length ≤ 70000) (htot : tot x.d + 3 * muM (stA ms i) ≤ 300000) (hi : isM (stA ms i) wMap = true) (h : DI w0 b off cap ms p w base pd n w i x) : Calls Tryz.prog 102 #[.pointer (some ⟨p, 0, none⟩), .pointer (some ⟨pd, 0, none⟩), .int .i64 ar] w fun e w' => (∃ j x', Hid ((prsM (stA ms i)).2 = stA ms j) ∧ Hid (x'.d = { x.d with fields := x.d.fields ++ [(prsM (stA ms i)).1] }) ∧ e = .returned (.tuple #[]) ∧ Hid (DI w0 b off cap ms p w base pd n w' j x')) ∨ (Fell (prsM (stA ms i)).2 e ∧ Keep (fun k => k ≠ p ∧ k < base) w w') := by
  have hpl : p < w.heap.size := h.pr.blk.lt
  have HI0 := hid h
  have HML := hid hml
  have HTT := hid htot
  have WBh := WB.of h.pr.okW
  have hms := (is_parts hi).2.2
  have e0 : ((strOfNums (hdM (stA ms i)).s).toList == [109, 101, 115, 115, 97, 103, 101]) = false := by rw [WBh.e0, hms]; decide
  have e1 : ((strOfNums (hdM (stA ms i)).s).toList == [101, 110, 117, 109]) = false := by rw [WBh.e1, hms]; decide
  have e2 : ((strOfNums (hdM (stA ms i)).s).toList == [111, 110, 101, 111, 102]) = false := by rw [WBh.e2, hms]; decide
  have e3 : ((strOfNums (hdM (stA ms i)).s).toList == [114, 101, 115, 101, 114, 118, 101, 100]) = false := by rw [WBh.e3, hms]; decide
  have e4 : ((strOfNums (hdM (stA ms i)).s).toList == [111, 112, 116, 105, 111, 110, 97, 108]) = false := by rw [WBh.e4, hms]; decide
  have e5 : ((strOfNums (hdM (stA ms i)).s).toList == [114, 101, 112, 101, 97, 116, 101, 100]) = false := by rw [WBh.e5, hms]; decide
  have e6 : ((strOfNums (hdM (stA ms i)).s).toList == [109, 97, 112]) = true := by rw [WBh.e6, hms]; decide
  clear hms WBh
  have HHI := hid hi
  clear h hml htot hi
  obtain ⟨xd, xf, xo, xdd, xr, xs⟩ := x
  dsimp only at *
  obtain ⟨fa, fc, rfl⟩ : ∃ fa fc, xf = .slice fa xd.fields.length fc := own_shape HI0.out.own.f
  have HTF : Hid (xd.fields.length ≤ 300000) := hid (by have := HTT.out; unfold tot at this; omega)
  have hf := wordF1
  have hlo := HI0.out.lo
  have hup := HI0.out.up
  go_enter Tryz.func102, Tryz.ntmps102
  go_wp2_with fail
  refine (nextW w0 b off cap ms p _ i HI0.out.pr).mono ?_
  rintro e w1 ⟨⟨sa, sc, rfl, hr⟩, hb1⟩
  have HI1 := hid (HI0.out.kept hb1)
  have hs1 := hb1.size
  clear hb1 hr
  have xb1 := HI1.out.blk.cellF
  have yb1 := HI1.out.blk.frz
  have zb1 := HI1.out.blk.lt
  go_wp2_with fail
  go_region_law (first | (refine step_append_ran rfl _ _ 97 97 rfl rfl _ _ (.slice law2 (xd.fields.length + 1) lcw2) w3 rfl rfl HRUNw2.out ?_) | (go_simp; go_wp2_with (go_at_call 121; refine (mappedW w0 b off cap ms p _ i HML.out (by have := HI1.out.pr; exact prBy)).mono ?_; rintro e w2 ⟨hKw2, (⟨jw2, yw2, hy1w2, hy2w2, rfl, HRw2⟩ | ⟨hcd, rfl⟩)⟩; rotate_left; (have hkw2 := hid (HI1.out.frame (show Keep (· ≠ p) _ w2 from ⟨hKw2.os, hKw2.tape, hKw2.output, hKw2.size, hKw2.block⟩)); exact ⟨rfl, .inr ⟨by skip; exact ⟨hcd, rfl⟩, by have := hkw2.out; exact kpBy⟩⟩); have HIw2 : Hid (DI w0 b off cap ms p w base pd n w2 jw2 ⟨xd, .slice fa xd.fields.length fc, xo, xdd, xr, xs⟩) := hid ((HI1.out.kept (by first | exact Below.refl _ _ | exact below_drew1 _)).reader hKw2 HRw2.out); have hsw2 := hKw2.size; (try simp at hsw2); clear hKw2; obtain ⟨law2, lcw2, w3, hrunw2, hownw2, hgroww2⟩ := appendF base (.slice fa xd.fields.length fc) xd.fields yw2 w2 HIw2.out.own.f HIw2.out.base_le (by have := HTF.out; omega); have HRUNw2 := hid hrunw2; have HIw3 := hid (HIw2.out.addF hgroww2 hownw2); have xbw2 := HIw2.out.blk.cellF; have zbw2 := HIw2.out.blk.lt; have HBw3 : Blk w3 pd 102 _ := (HIw2.out.blk.keep (Keep.ofGrow (f := fun q => (Value.slice fa xd.fields.length fc).ownBlock ≠ some q) hgroww2 (fun _ hk => hk)) (fun hk => HIw2.out.own.me pd (.inl hk) rfl)); have xbw3 := HBw3.cellF; have ybw3 := HBw3.frz; clear hrunw2 hownw2 hgroww2 HBw3)))
  all_goals (go_wp2; go_end0; exact .inl ⟨jw2, ⟨{ xd with fields := xd.fields ++ [yw2] }, _, xo, xdd, xr, xs⟩, hy1w2, hid (by rw [← hy2w2.out]), rfl, HIw3⟩)
end
/-- None of the seven words is next. -/
structure WN (s : PS) : Prop where
  n0 : isM s wMessage = false
  n1 : isM s wEnum = false
  n2 : isM s wOneof = false
  n3 : isM s wReserved = false
  n4 : isM s wOptional = false
  n5 : isM s wRepeated = false
  n6 : isM s wMap = false
section
variable (w0 : World) (b off cap : Nat) (ms : List Mw) (p : Nat) (w : World) (i : Nat) (base pd n : Nat)
theorem memberFld (x : DV) (ar : Int) (hml : ms.length ≤ 70000) (htot : tot x.d + 3 * muM (stA ms i) ≤ 300000) (hi : WN (stA ms i)) (h : DI w0 b off cap ms p w base pd n w i x) : Calls Tryz.prog 102 #[.pointer (some ⟨p, 0, none⟩), .pointer (some ⟨pd, 0, none⟩), .int .i64 ar] w fun e w' => (∃ j x', Hid ((fB (fZ 0 0 [] (0, 0)) (stA ms i)).2 = stA ms j) ∧ Hid (x'.d = { x.d with fields := x.d.fields ++ [(fB (fZ 0 0 [] (0, 0)) (stA ms i)).1] }) ∧ e = .returned (.tuple #[]) ∧ Hid (DI w0 b off cap ms p w base pd n w' j x')) ∨ (Fell (fB (fZ 0 0 [] (0, 0)) (stA ms i)).2 e ∧ Keep (fun k => k ≠ p ∧ k < base) w w') := by
  have hpl : p < w.heap.size := h.pr.blk.lt
  have HI0 := hid h
  have HML := hid hml
  have HTT := hid htot
  have WBh := WB.of h.pr.okW
  have e0 : ((strOfNums (hdM (stA ms i)).s).toList == [109, 101, 115, 115, 97, 103, 101]) = false := by rw [WBh.e0, ← is_plain (s := stA ms i) (x := wMessage) rfl h.pr.okW plain_msg]; exact hi.n0
  have e1 : ((strOfNums (hdM (stA ms i)).s).toList == [101, 110, 117, 109]) = false := by rw [WBh.e1, ← is_plain (s := stA ms i) (x := wEnum) rfl h.pr.okW plain_enum]; exact hi.n1
  have e2 : ((strOfNums (hdM (stA ms i)).s).toList == [111, 110, 101, 111, 102]) = false := by rw [WBh.e2, ← is_plain (s := stA ms i) (x := wOneof) rfl h.pr.okW plain_oneof]; exact hi.n2
  have e3 : ((strOfNums (hdM (stA ms i)).s).toList == [114, 101, 115, 101, 114, 118, 101, 100]) = false := by rw [WBh.e3, ← is_plain (s := stA ms i) (x := wReserved) rfl h.pr.okW plain_res]; exact hi.n3
  have e4 : ((strOfNums (hdM (stA ms i)).s).toList == [111, 112, 116, 105, 111, 110, 97, 108]) = false := by rw [WBh.e4, ← is_plain (s := stA ms i) (x := wOptional) rfl h.pr.okW plain_opt]; exact hi.n4
  have e5 : ((strOfNums (hdM (stA ms i)).s).toList == [114, 101, 112, 101, 97, 116, 101, 100]) = false := by rw [WBh.e5, ← is_plain (s := stA ms i) (x := wRepeated) rfl h.pr.okW plain_rep]; exact hi.n5
  have e6 : ((strOfNums (hdM (stA ms i)).s).toList == [109, 97, 112]) = false := by rw [WBh.e6, ← is_plain (s := stA ms i) (x := wMap) rfl h.pr.okW plain_map]; exact hi.n6
  clear WBh
  have HHI := hid hi
  clear h hml htot hi
  obtain ⟨xd, xf, xo, xdd, xr, xs⟩ := x
  dsimp only at *
  obtain ⟨fa, fc, rfl⟩ : ∃ fa fc, xf = .slice fa xd.fields.length fc := own_shape HI0.out.own.f
  have HTF : Hid (xd.fields.length ≤ 300000) := hid (by have := HTT.out; unfold tot at this; omega)
  have hf := wordF1
  have hlo := HI0.out.lo
  have hup := HI0.out.up
  go_enter Tryz.func102, Tryz.ntmps102
  go_wp2_with fail
  refine (nextW w0 b off cap ms p _ i HI0.out.pr).mono ?_
  rintro e w1 ⟨⟨sa, sc, rfl, hr⟩, hb1⟩
  have HI1 := hid (HI0.out.kept hb1)
  have hs1 := hb1.size
  clear hb1 hr
  have xb1 := HI1.out.blk.cellF
  have yb1 := HI1.out.blk.frz
  have zb1 := HI1.out.blk.lt
  go_wp2_with fail
  go_region_law (first | (refine step_append_ran rfl _ _ 97 97 rfl rfl _ _ (.slice law2 (xd.fields.length + 1) lcw2) w3 rfl rfl HRUNw2.out ?_) | (go_simp; go_wp2_with (go_at_call 122; refine (fieldW w0 b off cap ms p _ i (fZ 0 0 [] (0, 0)) HML.out (by have := HI1.out.pr; exact prBy)).mono ?_; rintro e w2 ⟨hKw2, (⟨jw2, yw2, hy1w2, hy2w2, rfl, HRw2⟩ | ⟨hcd, rfl⟩)⟩; rotate_left; (have hkw2 := hid (HI1.out.frame (show Keep (· ≠ p) _ w2 from ⟨hKw2.os, hKw2.tape, hKw2.output, hKw2.size, hKw2.block⟩)); exact ⟨rfl, .inr ⟨by skip; exact ⟨hcd, rfl⟩, by have := hkw2.out; exact kpBy⟩⟩); have HIw2 : Hid (DI w0 b off cap ms p w base pd n w2 jw2 ⟨xd, .slice fa xd.fields.length fc, xo, xdd, xr, xs⟩) := hid ((HI1.out.kept (by first | exact Below.refl _ _ | exact below_drew1 _)).reader hKw2 HRw2.out); have hsw2 := hKw2.size; (try simp at hsw2); clear hKw2; obtain ⟨law2, lcw2, w3, hrunw2, hownw2, hgroww2⟩ := appendF base (.slice fa xd.fields.length fc) xd.fields yw2 w2 HIw2.out.own.f HIw2.out.base_le (by have := HTF.out; omega); have HRUNw2 := hid hrunw2; have HIw3 := hid (HIw2.out.addF hgroww2 hownw2); have xbw2 := HIw2.out.blk.cellF; have zbw2 := HIw2.out.blk.lt; have HBw3 : Blk w3 pd 102 _ := (HIw2.out.blk.keep (Keep.ofGrow (f := fun q => (Value.slice fa xd.fields.length fc).ownBlock ≠ some q) hgroww2 (fun _ hk => hk)) (fun hk => HIw2.out.own.me pd (.inl hk) rfl)); have xbw3 := HBw3.cellF; have ybw3 := HBw3.frz; clear hrunw2 hownw2 hgroww2 HBw3)))
  all_goals (go_wp2; go_end0; exact .inl ⟨jw2, ⟨{ xd with fields := xd.fields ++ [yw2] }, _, xo, xdd, xr, xs⟩, hy1w2, hid (by rw [← hy2w2.out]), rfl, HIw3⟩)
end
section
variable {w0 : World} {b off cap : Nat} {ms : List Mw} {p : Nat} {w : World} {base pd n : Nat} {wr w' : World} {j : Nat} {x : DV}
theorem DI.here (h : DI w0 b off cap ms p w base pd n wr j x) : DI w0 b off cap ms p wr base pd n wr j x := ⟨h.pr, Keep.refl _ _, h.blk, h.own, h.lo, h.up⟩
theorem DI.since (g : Keep (fun k => k ≠ p ∧ k < base) w wr) (h : DI w0 b off cap ms p wr base pd n w' j x) : DI w0 b off cap ms p w base pd n w' j x := ⟨h.pr, g.trans h.fr, h.blk, h.own, h.lo, h.up⟩
end
section
variable (w0 : World) (b off cap : Nat) (ms : List Mw) (p : Nat) (w : World) (i : Nat) (base pd n : Nat)
theorem memberOneof (x : DV) (ar : Int) (hml : ms.length ≤ 70000) (htot : tot x.d + 3 * muM (stA ms i) ≤ 300000) (hi : isM (stA ms i) wOneof = true) (h : DI w0 b off cap ms p w base pd n w i x) : Calls Tryz.prog 102 #[.pointer (some ⟨p, 0, none⟩), .pointer (some ⟨pd, 0, none⟩), .int .i64 ar] w fun e w' => (∃ j x', Hid ((oneofM x.d (stA ms i)).2 = stA ms j) ∧ Hid (x'.d = (oneofM x.d (stA ms i)).1) ∧ e = .returned (.tuple #[]) ∧ Hid (DI w0 b off cap ms p w base pd n w' j x')) ∨ (Fell (oneofM x.d (stA ms i)).2 e ∧ Keep (fun k => k ≠ p ∧ k < base) w w') := by
  have hpl : p < w.heap.size := h.pr.blk.lt
  have HI0 := hid h
  have HML := hid hml
  have HTT := hid htot
  have WBh := WB.of h.pr.okW
  have hms := (is_parts hi).2.2
  have e0 : ((strOfNums (hdM (stA ms i)).s).toList == [109, 101, 115, 115, 97, 103, 101]) = false := by rw [WBh.e0, hms]; decide
  have e1 : ((strOfNums (hdM (stA ms i)).s).toList == [101, 110, 117, 109]) = false := by rw [WBh.e1, hms]; decide
  have e2 : ((strOfNums (hdM (stA ms i)).s).toList == [111, 110, 101, 111, 102]) = true := by rw [WBh.e2, hms]; decide
  clear hms WBh
  clear h hml htot hi
  have hf := wordF1
  go_enter Tryz.func102, Tryz.ntmps102
  go_wp2_with fail
  refine (nextW w0 b off cap ms p _ i HI0.out.pr).mono ?_
  rintro e w1 ⟨⟨sa, sc, rfl, hr⟩, hb1⟩
  have HI1 := hid (HI0.out.kept hb1)
  clear hb1 hr
  go_wp2_with fail
  refine (oneofW w0 b off cap ms p _ i base pd n x HML.out HTT.out HI1.out.here).mono ?_
  rintro e w2 (⟨j, x', h1, h2, rfl, h3⟩ | ⟨⟨hcd, rfl⟩, hK⟩)
  · have HI2 := hid (h3.out.since HI1.out.fr)
    clear h3
    go_wp2
    go_end0
    exact .inl ⟨j, x', h1, h2, rfl, HI2⟩
  · have hk2 := hid (HI1.out.fr.trans hK)
    clear hK
    go_wp2
    exact ⟨rfl, .inr ⟨⟨hcd, rfl⟩, hk2.out⟩⟩
theorem memberRes (x : DV) (ar : Int) (hml : ms.length ≤ 70000) (htot : tot x.d + 3 * muM (stA ms i) ≤ 300000) (hi : isM (stA ms i) wReserved = true) (h : DI w0 b off cap ms p w base pd n w i x) : Calls Tryz.prog 102 #[.pointer (some ⟨p, 0, none⟩), .pointer (some ⟨pd, 0, none⟩), .int .i64 ar] w fun e w' => (∃ j x', Hid ((resM x.d (stA ms i)).2 = stA ms j) ∧ Hid (x'.d = (resM x.d (stA ms i)).1) ∧ e = .returned (.tuple #[]) ∧ Hid (DI w0 b off cap ms p w base pd n w' j x')) ∨ (Fell (resM x.d (stA ms i)).2 e ∧ Keep (fun k => k ≠ p ∧ k < base) w w') := by
  have hpl : p < w.heap.size := h.pr.blk.lt
  have HI0 := hid h
  have HML := hid hml
  have HTT := hid htot
  have WBh := WB.of h.pr.okW
  have hms := (is_parts hi).2.2
  have e0 : ((strOfNums (hdM (stA ms i)).s).toList == [109, 101, 115, 115, 97, 103, 101]) = false := by rw [WBh.e0, hms]; decide
  have e1 : ((strOfNums (hdM (stA ms i)).s).toList == [101, 110, 117, 109]) = false := by rw [WBh.e1, hms]; decide
  have e2 : ((strOfNums (hdM (stA ms i)).s).toList == [111, 110, 101, 111, 102]) = false := by rw [WBh.e2, hms]; decide
  have e3 : ((strOfNums (hdM (stA ms i)).s).toList == [114, 101, 115, 101, 114, 118, 101, 100]) = true := by rw [WBh.e3, hms]; decide
  clear hms WBh
  clear h hml htot hi
  have hf := wordF1
  go_enter Tryz.func102, Tryz.ntmps102
  go_wp2_with fail
  refine (nextW w0 b off cap ms p _ i HI0.out.pr).mono ?_
  rintro e w1 ⟨⟨sa, sc, rfl, hr⟩, hb1⟩
  have HI1 := hid (HI0.out.kept hb1)
  clear hb1 hr
  go_wp2_with fail
  refine (reservedW w0 b off cap ms p _ i base pd n x HTT.out HI1.out.here).mono ?_
  rintro e w2 (⟨j, x', h1, h2, rfl, h3⟩ | ⟨⟨hcd, rfl⟩, hK⟩)
  · have HI2 := hid (h3.out.since HI1.out.fr)
    clear h3
    go_wp2
    go_end0
    exact .inl ⟨j, x', h1, h2, rfl, HI2⟩
  · have hk2 := hid (HI1.out.fr.trans hK)
    clear hK
    go_wp2
    exact ⟨rfl, .inr ⟨⟨hcd, rfl⟩, hk2.out⟩⟩
end
section
variable (w0 : World) (b off cap : Nat) (ms : List Mw) (p : Nat) (w : World) (i : Nat) (base pd n : Nat)
theorem memberEnum (x : DV) (ar : Int) (hml : ms.length ≤ 70000) (htot : tot x.d + 3 * muM (stA ms i) ≤ 300000) (hi : isM (stA ms i) wEnum = true) (hn : 1 ≤ n) (h : DI w0 b off cap ms p w base pd n w i x) : Calls Tryz.prog 102 #[.pointer (some ⟨p, 0, none⟩), .pointer (some ⟨pd, 0, none⟩), .int .i64 ar] w fun e w' => (∃ j x', Hid ((enmM (stA ms i)).2 = stA ms j) ∧ Hid (x'.d = { x.d with decls := x.d.decls ++ [(enmM (stA ms i)).1] }) ∧ e = .returned (.tuple #[]) ∧ Hid (DI w0 b off cap ms p w base pd n w' j x')) ∨ (Fell (enmM (stA ms i)).2 e ∧ Keep (fun k => k ≠ p ∧ k < base) w w') := by
  have hpl : p < w.heap.size := h.pr.blk.lt
  have HI0 := hid h
  have HML := hid hml
  have HTT := hid htot
  have HHI := hid hi
  have WBh := WB.of h.pr.okW
  have hms := (is_parts hi).2.2
  have e0 : ((strOfNums (hdM (stA ms i)).s).toList == [109, 101, 115, 115, 97, 103, 101]) = false := by rw [WBh.e0, hms]; decide
  have e1 : ((strOfNums (hdM (stA ms i)).s).toList == [101, 110, 117, 109]) = true := by rw [WBh.e1, hms]; decide
  clear hms WBh
  clear h hml htot hi
  obtain ⟨xd, xf, xo, xdd, xr, xs⟩ := x
  dsimp only at *
  have hf := wordF1
  have hlo := HI0.out.lo
  have hup := HI0.out.up
  go_enter Tryz.func102, Tryz.ntmps102
  go_wp2_with fail
  refine (nextW w0 b off cap ms p _ i HI0.out.pr).mono ?_
  rintro e w1 ⟨⟨sa, sc, rfl, hr⟩, hb1⟩
  have HI1 := hid (HI0.out.kept hb1)
  have hs1 := hb1.size
  clear hb1 hr
  obtain ⟨da, dc, dvs, Z, rfl, hzh⟩ := ZH.start HI1.out HTT.out
  have HZH := hid hzh
  have hdl : (dvs.length : Int) ≤ 300000 := by have := hzh.hl; omega
  have hix : (dvs.length : Int) < (dvs.length : Int) + 1 := by omega
  have hix0 : (0 : Int) ≤ (dvs.length : Int) := by omega
  clear hzh
  have xb1 := HI1.out.blk.cellF
  have yb1 := HI1.out.blk.frz
  have zb1 := HI1.out.blk.lt
  go_wp2_with fail
  go_region_law (first | (have hB := Bz; obtain ⟨g, lc, w3, HRUN, HZC⟩ := HZH.out.ahead hK2.out HR2.out hrd.out w1.heap.size Bz.out; refine step_append_ran rfl _ _ 23 23 rfl rfl _ _ (.slice (some ⟨g, 0, none⟩) (dvs.length + 1) lc) w3 rfl rfl HRUN.out ?_; have k0 := HZC.out.k0; have k1 := HZC.out.k1; have k2 := HZC.out.k2; have k3 := HZC.out.k3; have k4 := HZC.out.k4; have k5 := HZC.out.k5; have k6 := HZC.out.k6; have k7 := HZC.out.k7; have k8 := HZC.out.k8; have kf := HZC.out.kf; have xb3 := HZC.out.blk.cellF; have yb3 := HZC.out.blk.frz; have hne := HZC.out.ne; have hne' : pd ≠ g := Ne.symm hne; have hgl := HZC.out.lt; have hpl3 := HZC.out.blk.lt) | (obtain ⟨g, lc, w3, HRUN, HZC⟩ := HZH.out.behind hK2.out HR2.out hrd.out; refine step_append_ran rfl _ _ 23 23 rfl rfl _ _ (.slice (some ⟨g, 0, none⟩) (dvs.length + 1) lc) w3 rfl rfl HRUN.out ?_; have k0 := HZC.out.k0; have k1 := HZC.out.k1; have k2 := HZC.out.k2; have k3 := HZC.out.k3; have k4 := HZC.out.k4; have k5 := HZC.out.k5; have k6 := HZC.out.k6; have k7 := HZC.out.k7; have k8 := HZC.out.k8; have kf := HZC.out.kf; have xb3 := HZC.out.blk.cellF; have yb3 := HZC.out.blk.frz; have hne := HZC.out.ne; have hne' : pd ≠ g := Ne.symm hne; have hgl := HZC.out.lt; have hpl3 := HZC.out.blk.lt) | (go_simp; go_wp2_with (go_at_call 78; refine (enumW w0 b off cap ms p _ i HML.out (by have := HI1.out.pr; exact prBy)).mono ?_; rintro e w2 hc; obtain (⟨j2, yd, a1, n1, c1, a2, n2, c2, a3, n3, c3, a4, n4, c4, a5, n5, c5, rfl, hy1, hy2, hKW, hK2, HR2, hrd⟩ | ⟨⟨hcd, rfl⟩, hkf⟩) := HZH.out.call (m := 1) (by first | exact Keep.refl _ _ | exact kp_drew (Keep.refl _ _) | exact kp_alloc (Keep.refl _ _) _ | exact kp_drew (kp_alloc (Keep.refl _ _) _) | exact kp_alloc (kp_drew (Keep.refl _ _)) _) (by omega) hc; rotate_left; (exact ⟨rfl, .inr ⟨⟨hcd, rfl⟩, by have := hkf.out; exact kpBy⟩⟩); clear hc; have xb2 := (HZH.out.di.reader hK2.out HR2.out).blk.cellF; have zb2 := (HZH.out.di.reader hK2.out HR2.out).blk.lt; have hs2 := hK2.out.size; (try have Bz : Hid (Blk w2 w1.heap.size 102 #[.bool false, .string ⟨#[]⟩, .int .i64 0, .int .i64 0, .slice none 0 0, .slice none 0 0, .slice none 0 0, .slice none 0 0, .slice none 0 0]) := hid (Blk.keep ((Blk.newAt (w := w1) rfl).kept (below_drew1 _)) hKW.out (show w1.heap.size ≠ p by omega))))))
  all_goals (go_wp2; go_end0; exact .inl ⟨j2, ⟨{ xd with decls := xd.decls ++ [yd] }, xf, xo, _, xr, xs⟩, hy1, hid (by rw [← hy2.out]), rfl, by first | with_reducible exact hid HZC.out.finA | with_reducible exact hid HZC.out.finB⟩)
end
end Go.Proofs.YtidimdbnnnpplaaGreatDoor
