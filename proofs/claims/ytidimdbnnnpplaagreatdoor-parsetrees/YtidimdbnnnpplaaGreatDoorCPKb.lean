/-
  The reader of the program parse: imports.
  Appending to the lists of a declaration that is being built.
  strings.Builder, as this program has it: what is written into it, what it tells.
  The reader of the program parse: a field's type, out of a builder.
  The reader of the program parse: fields of each sort.
  The reader of the program parse: fields.
  The reader of the program parse: fields.
  The reader of the program parse: fields.
-/
import Derived.Test.YtidimdbnnnpplaaGreatDoorCPJb
import Derived.Test.YtidimdbnnnpplaaGreatDoorCG
import Derived.Test.YtidimdbnnnpplaaGreatDoorCYB
import Derived.Test.YtidimdbnnnpplaaGreatDoorShelf
import Derived.Shelf.Strings.Builder1
namespace Go.Proofs.YtidimdbnnnpplaaGreatDoor
open Go.RowKit
set_option maxRecDepth 1000000
set_option linter.unusedVariables false
set_option linter.unusedSimpArgs false
set_option maxHeartbeats 8000000
section
variable (w0 : World) (b off cap : Nat) (ms : List Mw) (p : Nat) (w : World) (i : Nat)
theorem importedW (h : PR w0 b off cap ms p w i) : Calls Tryz.prog 76 #[.pointer (some ⟨p, 0, none⟩)] w fun e w' => Keep (· ≠ p) w w' ∧ ((∃ j y, Hid ((impM (stA ms i)).2 = stA ms j) ∧ Hid (y = (impM (stA ms i)).1) ∧ e = .returned (.agg #[.string (strOfNums y.name), .int .i64 y.at1.1, .int .i64 y.at1.2]) ∧ Hid (PR w0 b off cap ms p w' j)) ∨ Fell (impM (stA ms i)).2 e) := by
  have hk0 : Hid (Keep (· ≠ p) w w) := hid (Keep.refl _ _)
  have hpl : p < w.heap.size := h.blk.lt
  have HR0 := hid h
  clear h
  go_enter Tryz.func76, Tryz.ntmps76
  go_wp2_with fail
  refine (skipW w0 b off cap ms p _ i ⟨#[105, 109, 112, 111, 114, 116]⟩ wImport rfl plain_import (by have := HR0.out; exact prBy)).mono ?_
  rintro e w1 ⟨hK1, (⟨j1, ua, uc, he1, rfl, HR1⟩ | ⟨hcd, rfl⟩)⟩
  case inr =>
    have hk1 : Hid (Keep (· ≠ p) w w1) := hid (Keep.trans (by have := hk0.out; exact kpBy) hK1)
    clear hK1
    go_wp2
    exact ⟨rfl, by have := hk1.out; exact kpBy, .inr (by rw [show (impM (stA ms i)).2 = eatM (stA ms i) wImport by unfold impM; simp only [take_bad hcd, eat_bad hcd]]; exact ⟨hcd, rfl⟩)⟩
  have Br : Blk w1 (w.heap.size) 81 #[.string ⟨#[]⟩, .int .i64 0, .int .i64 0] := Blk.keep ((Blk.newAt (by simp)).is (by first | rfl | simp)) hK1 (show w.heap.size ≠ p by omega)
  have hs1 := hK1.size
  try simp at hs1
  have xr := Br.cellF
  have yr := Br.frz
  have zr : w.heap.size < w1.heap.size := by omega
  have hp1 : p < w1.heap.size := by omega
  have hq1 : w.heap.size ≤ w1.heap.size := by omega
  have hk1 : Hid (Keep (· ≠ p) w w1) := hid (Keep.trans (by have := hk0.out; exact kpBy) hK1)
  clear hK1
  go_wp2_with fail
  refine (takeW w0 b off cap ms p _ j1 3 (by decide) (by have := HR1.out; exact prBy)).mono ?_
  rintro e w2 ⟨hK2, (⟨j2, m1, sa, sc, he2, hm1, rfl, hr1, ho1, HR2⟩ | ⟨hcd, rfl⟩)⟩
  case inr =>
    have hk2 : Hid (Keep (· ≠ p) w w2) := hid (Keep.trans (by have := hk1.out; exact kpBy) hK2)
    clear hK2
    go_wp2
    exact ⟨rfl, by have := hk2.out; exact kpBy, .inr (by rw [show (impM (stA ms i)).2 = (takeM (stA ms j1) 3).2 by unfold impM; rw [he1.out]; simp only [eat_bad hcd]]; exact ⟨hcd, rfl⟩)⟩
  replace Br : Blk w2 (w.heap.size) 81 #[.string ⟨#[]⟩, .int .i64 0, .int .i64 0] := Blk.keep (Br.is (by first | rfl | simp)) hK2 (show w.heap.size ≠ p by omega)
  clear xr yr
  have hs2 := hK2.size
  try simp at hs2
  have xr := Br.cellF
  have yr := Br.frz
  replace zr : w.heap.size < w2.heap.size := by omega
  have hp2 : p < w2.heap.size := by omega
  have hq2 : w.heap.size ≤ w2.heap.size := by omega
  have hk2 : Hid (Keep (· ≠ p) w w2) := hid (Keep.trans (by have := hk1.out; exact kpBy) hK2)
  clear hK2
  go_wp2_with fail
  refine (skipW w0 b off cap ms p _ j2 ⟨#[59]⟩ [59] rfl plain_sc (by have := HR2.out; exact prBy)).mono ?_
  rintro e w3 ⟨hK3, (⟨j3, va, vc, he3, rfl, HR3⟩ | ⟨hcd, rfl⟩)⟩
  case inr =>
    have hk3 : Hid (Keep (· ≠ p) w w3) := hid (Keep.trans (by have := hk2.out; exact kpBy) hK3)
    clear hK3
    go_wp2
    exact ⟨rfl, by have := hk3.out; exact kpBy, .inr (by rw [show (impM (stA ms i)).2 = eatM (stA ms j2) [59] by unfold impM; rw [he1.out, he2.out]]; exact ⟨hcd, rfl⟩)⟩
  replace Br : Blk w3 (w.heap.size) 81 #[.string ⟨#[]⟩, .int .i64 0, .int .i64 0] := Blk.keep ((Br.kept (below_alloc _)).is (by first | rfl | simp)) hK3 (show w.heap.size ≠ p by omega)
  have Bm : Blk w3 (w2.heap.size) 159 #[.int .i64 m1.kind, .string (strOfNums m1.s), .int .u64 m1.n, .slice sa m1.b.length sc, .int .i64 m1.line, .int .i64 m1.col] := Blk.keep ((Blk.newAt (by simp)).is (by first | rfl | simp)) hK3 (show w2.heap.size ≠ p by omega)
  clear xr yr
  have hs3 := hK3.size
  try simp at hs3
  have xr := Br.cellF
  have yr := Br.frz
  replace zr : w.heap.size < w3.heap.size := by omega
  have xm := Bm.cellF
  have ym := Bm.frz
  have zm : w2.heap.size < w3.heap.size := by omega
  have hp3 : p < w3.heap.size := by omega
  have hq3 : w.heap.size ≤ w3.heap.size := by omega
  have hk3 : Hid (Keep (· ≠ p) w w3) := hid (Keep.trans (by have := hk2.out; exact kpBy) hK3)
  clear hK3
  have hcv : ∀ W : World, Below w0.heap.size w0 W → (convert 56 9 (.slice sa m1.b.length sc)).run Tryz.prog W = .ok (.string (strOfNums m1.b)) W := fun W g => conv (reads_kept hr1.out g)
  replace hcv := hid hcv
  have hw0 : w0.heap.size ≤ w.heap.size := HR0.out.base.size
  go_wp2_with fail
  go_region_held3 (fun W => (W.cell? ⟨w2.heap.size, 0, none⟩ = some (.int .i64 m1.kind) ∧ W.cell? ⟨w2.heap.size, 1, none⟩ = some (.string (strOfNums m1.s)) ∧ W.cell? ⟨w2.heap.size, 2, none⟩ = some (.int .u64 m1.n) ∧ W.cell? ⟨w2.heap.size, 3, none⟩ = some (.slice sa m1.b.length sc) ∧ W.cell? ⟨w2.heap.size, 4, none⟩ = some (.int .i64 m1.line) ∧ W.cell? ⟨w2.heap.size, 5, none⟩ = some (.int .i64 m1.col)) ∧ (convert 56 9 (.slice sa m1.b.length sc)).run Tryz.prog W = .ok (.string (strOfNums m1.b)) W) (first | exact ⟨blkc6 ((((V4m.out.other (show w2.heap.size ≠ w.heap.size by omega) _).other (show w2.heap.size ≠ w.heap.size by omega) _).other (show w2.heap.size ≠ w.heap.size by omega) _)), hcv.out _ (((HR4.out.base.setCell (p := ⟨w.heap.size, 0, none⟩) hw0 _).setCell (p := ⟨w.heap.size, 1, none⟩) hw0 _).setCell (p := ⟨w.heap.size, 2, none⟩) hw0 _)⟩ | exact ⟨blkc6 (V4m.out), hcv.out _ HR4.out.base⟩ | exact ⟨blkc6 ((Bm.kept (below_drew1 _))), hcv.out _ HR3.out.drew.base⟩) (first | (go_at_call 100; refine (placeOfW _ m1 sa sc).mono ?_; rintro e w4 ⟨rfl, hbu4⟩; have V4r : Hid (Blk w4 (w.heap.size) 81 #[.string ⟨#[]⟩, .int .i64 0, .int .i64 0]) := hid (Blk.kept ((Br.kept (below_drew1 _))) hbu4); have v4xr := V4r.out.cellF; have v4yr := V4r.out.frz; have V4m : Hid (Blk w4 (w2.heap.size) 159 #[.int .i64 m1.kind, .string (strOfNums m1.s), .int .u64 m1.n, .slice sa m1.b.length sc, .int .i64 m1.line, .int .i64 m1.col]) := hid (Blk.kept ((Bm.kept (below_drew1 _))) hbu4); have v4xm := V4m.out.cellF; have v4ym := V4m.out.frz; have HR4 : Hid (PR w0 b off cap ms p w4 (j3)) := hid (PR.kept ((by have := HR3.out; exact prBy)) hbu4); have hk4 : Hid (Keep (· ≠ p) w w4) := hid (Keep.trans ((by have := hk3.out; exact kpBy)) (Keep.ofBelow hbu4)); have hs4 := hbu4.size; (try simp at hs4); have hp4 : p < w4.heap.size := (by omega); have hq4 : w.heap.size ≤ w4.heap.size := (by omega); have v4zr : w.heap.size < w4.heap.size := (by omega); have v4zm : w2.heap.size < w4.heap.size := (by omega); clear hbu4))
  clear Br xr yr zr Bm xm ym zm
  have Br := V4r.out
  have xr := v4xr
  have yr := v4yr
  have zr := v4zr
  clear V4r v4xr v4yr v4zr
  have Bm := V4m.out
  have xm := v4xm
  have ym := v4ym
  have zm := v4zm
  clear V4m v4xm v4ym v4zm
  go_wp2
  exact bodyPost_ret (v := .agg #[.string (strOfNums m1.b), .int .i64 m1.line, .int .i64 m1.col]) (by simp [results, Tryz.results76, go_sem, xr, zr]) rfl ⟨by have := hk4.out; exact kpBy, .inl ⟨j3, ⟨m1.b, atM m1⟩, hid (by unfold impM; rw [he1.out, he2.out]; exact he3.out), hid (by unfold impM; rw [he1.out, hm1.out]), rfl, hid (by have := HR4.out; exact prBy)⟩⟩
end
set_option maxHeartbeats 4000000
def ixW (w : World) (p : Nat) : Nat := match w.cell? ⟨p, 1, none⟩ with
  | some (.int _ n) => n.toNat
  | _ => 0
theorem PR.ix {w0 w : World} {b off cap : Nat} {ms : List Mw} {p i : Nat} (h : PR w0 b off cap ms p w i) : ixW w p = i := by
  unfold ixW
  rw [h.blk.cellF 1]
  simp
theorem stA_mu {ms : List Mw} {i j : Nat} (h : i < ms.length) (hj : j < ms.length) (e : muM (stA ms j) < muM (stA ms i)) : i < j := by
  unfold muM stA at e
  simp at e
  omega
theorem mu_st (ms : List Mw) (i : Nat) (h : ms.length ≤ 70000) : muM (stA ms i) ≤ 70001 := by unfold muM stA; simp; omega
def zS : Value := .agg #[.string ⟨#[]⟩, .int .u64 0, .int .i64 0, .int .i64 0, .int .i64 0, .int .i64 0]
theorem Tryz.infoS : (Tryz.prog.info? 154).map (fun i => (i.zero, i.size, i.bytes)) = some (some zS, 6, 56) := by kernel_rfl
/-- One symbol more. -/
theorem appendS (base : Nat) (v : Value) (l : List MS) (y : MS) (w : World) (h : w.ownsRow base 154 6 v l.length (l.flatMap cS)) (hb : base ≤ w.heap.size) (hn : l.length ≤ 400000) :
    ∃ a c w', (Builtin.append_ #[100, 100] 100 #[v, .slice (some ⟨w.heap.size, 0, none⟩) 1 1]).run Tryz.prog (w.alloc (.cells #[.string (strOfNums y.name), .int .u64 y.num, .int .i64 y.at1.1, .int .i64 y.at1.2, .int .i64 y.nat1.1, .int .i64 y.nat1.2] 154)) = .ok (.slice a (l.length + 1) c) w' ∧
      w'.ownsRow base 154 6 (.slice a (l.length + 1) c) (l ++ [y]).length ((l ++ [y]).flatMap cS) ∧ Grow w w' v (.slice a (l.length + 1) c) := by
  obtain ⟨v', w', h1, h2, h3⟩ := append_st 154 100 6 56 zS Tryz.underlying100 Tryz.infoS rfl (by decide) (by decide) base v l.length (l.flatMap cS) w #[.string (strOfNums y.name), .int .u64 y.num, .int .i64 y.at1.1, .int .i64 y.at1.2, .int .i64 y.nat1.1, .int .i64 y.nat1.2] rfl (fun u hu => by simp at hu; rcases hu with rfl | rfl | rfl | rfl | rfl | rfl <;> rfl) h hb hn
  obtain ⟨a, c, rfl⟩ := own_shape h2
  exact ⟨a, c, w', h1, by rw [List.flatMap_append, List.length_append]; exact h2, h3⟩
section
variable {w w' : World} {v v' : Value} {base e size n : Nat} {fl : List Value}
/-- A block of another type stays, where a row of one's own grows. -/
theorem grow_blk (g : Grow w w' v v') (ho : w.ownsRow base e size v n fl) {p : Nat} {t : TypeId} {cs : Array Value} (h : Blk w p t cs) (hne : t ≠ e) : Blk w' p t cs := by
  refine h.keep (Keep.ofGrow (f := fun k => v.ownBlock ≠ some k) g (fun _ hk => hk)) ?_
  intro hk
  obtain ⟨_, _, cur, hc⟩ := own_type ho hk
  rw [show w.heap[p]? = _ from h] at hc
  cases hc
  exact hne rfl
theorem grow_keep (g : Grow w w' v v') (ho : w.ownsRow base e size v n fl) {p : Nat} (hp : p < base) : Keep (· < base) w w' :=
  Keep.ofGrow g (fun k hk e => by have := (own_type ho e).1; omega)
theorem grow_pr {w0 : World} {b off cap : Nat} {ms : List Mw} {p i : Nat} (g : Grow w w' v v') (ho : w.ownsRow base e size v n fl) (hp : p < base) (h : PR w0 b off cap ms p w i) : PR w0 b off cap ms p w' i :=
  h.keep (grow_keep g ho hp) hp (fun k hk => by have := h.hp; omega)
theorem grow_kp {w1 : World} {p : Nat} (g : Grow w w' v v') (ho : w.ownsRow base e size v n fl) (hB : w1.heap.size ≤ base) (h : Keep (· ≠ p) w1 w) : Keep (· ≠ p) w1 w' :=
  ⟨g.os.trans h.os, g.tape.trans h.tape, g.output.trans h.output, Nat.le_trans h.size g.size, fun k hk hf => by
    rw [g.block k (Nat.lt_of_lt_of_le hk h.size) (fun e => by have := (own_type ho e).1; omega), h.block k hk hf]⟩
end
theorem rowS_nil (w : World) (Z : Nat → Prop) (k : Nat) : RowS w Z k (.slice none 0 0) 0 [] := ⟨none, 0, rfl, by simp, Nat.le_refl _, by omega, .inl ⟨rfl, fun _ => rfl⟩⟩
theorem symL_go {l : List MS} {s : PS} (h0 : s.cd = 0) (h : isM s [125] = false) : symL (l, s) = symL (l ++ [(symM s).1], (symM s).2) := by
  unfold symL
  exact whM_go (p := fun x : List MS × PS => x.2) (x := (l, s)) sym_dec (by unfold endC; simp [h0, h])
theorem symL_stop {l : List MS} {s : PS} (h : isM s [125] = true) : symL (l, s) = (l, s) := by
  unfold symL
  exact whM_stop (by unfold endC; simp [h])
theorem Tryz.sizeBld : (Tryz.prog.info? 86).map (·.size) = some 2 := by kernel_rfl
theorem Tryz.liesBld : liesAt Tryz.prog Tryz.prog.depth 86 (2 / Tryz.prog.cellsOf 86) 0 86 1 = true := by kernel_rfl
theorem copyUsed (b : Nat) (w : World) (h0 : w.cell? ⟨b, 0, none⟩ = some (.pointer (some ⟨b, 0, none⟩))) :
    Calls Tryz.prog 105 #[.pointer (some ⟨b, 0, none⟩)] w fun e w' => e = .returned (.tuple #[]) ∧ w' = w := by
  obtain ⟨j, hj, _⟩ := Option.map_eq_some_iff.1 Tryz.sizeBld
  go_enter Tryz.func105, Tryz.ntmps105
  go_wp2
  rw [Lib.run_neq_ptr_same w _ Tryz.underlying84 hj]
  go_wp2
  go_end0
  exact ⟨rfl, rfl⟩
theorem copyFresh (b : Nat) (w : World) (h0 : w.cell? ⟨b, 0, none⟩ = some (.pointer none)) (hsh : w.shape? b = some (86, 2)) (hfz : w.frozen? ⟨b, 0, none⟩ = false) :
    Calls Tryz.prog 105 #[.pointer (some ⟨b, 0, none⟩)] w fun e w' => e = .returned (.tuple #[]) ∧ w' = w.setCell ⟨b, 0, none⟩ (.pointer (some ⟨b, 0, none⟩)) := by
  obtain ⟨j, hj, hjs⟩ := Option.map_eq_some_iff.1 Tryz.sizeBld
  go_enter Tryz.func105, Tryz.ntmps105
  go_wp2
  rw [Lib.run_to_unsafe w ⟨b, 0, none⟩ Tryz.underlying84 Tryz.underlying205 hj (by rw [hjs]; decide) hsh (Nat.zero_lt_succ 1)]
  simp only [Result.andThen]
  rw [Oper.upon_value]
  go_wp2
  rw [run_callFunc_extern Tryz.func124 (by kernel_rfl) (by kernel_rfl) (by kernel_rfl) (e := Extern.AbiNoEscape.same) (by kernel_rfl)]
  rw [Lib.run_noEscape]
  simp only [Result.andThen]
  rw [Oper.upon_value]
  go_wp2
  rw [Lib.run_from_unsafe w ⟨b, 0, none⟩ Tryz.underlying205 Tryz.underlying84 hj hsh Tryz.liesBld]
  simp only [Result.andThen]
  rw [Oper.upon_value]
  go_wp2
  go_end0
  exact ⟨rfl, rfl⟩
theorem copyW (B b : Nat) (bs : List Value) (w : World) (h : Lib.IsBuilder 86 5 B b bs w) :
    Calls Tryz.prog 105 #[.pointer (some ⟨b, 0, none⟩)] w fun e w' => e = .returned (.tuple #[]) ∧ (Lib.BuilderAt 86 5 B b (.pointer (some ⟨b, 0, none⟩)) bs w' ∧ Below B w w') := by
  rcases h with h | h
  · refine (copyFresh b w h.cell0 h.shape h.frozen0).mono ?_
    rintro e w' ⟨rfl, rfl⟩
    exact ⟨rfl, h.used _, (Below.refl B w).setCell (p := ⟨b, 0, none⟩) h.1 _⟩
  · refine (copyUsed b w h.cell0).mono ?_
    rintro e w' ⟨rfl, rfl⟩
    exact ⟨rfl, h, Below.refl B _⟩
theorem writeW (B b : Nat) (bs : List Value) (s : ByteArray) (w : World) (h : Lib.IsBuilder 86 5 B b bs w) (hlen : bs.length + s.size ≤ 140737488355328) (hBw : B ≤ w.heap.size) :
    Calls Tryz.prog 84 #[.pointer (some ⟨b, 0, none⟩), .string s] w fun e w' => e = .returned (.tuple #[.int .i64 s.size, .nilIface]) ∧ (Lib.BuilderAt 86 5 B b (.pointer (some ⟨b, 0, none⟩)) (bs ++ Lib.strCells s) w' ∧ Below B w w') := by
  obtain ⟨i0, hi, hz0, hz1, hz2⟩ := info_parts Tryz.info5
  go_enter Tryz.func84, Tryz.ntmps84
  go_wp2_with fail
  refine (copyW B b bs _ h).mono ?_
  rintro e w1 ⟨rfl, h1, hb1⟩
  obtain ⟨hB, v, hbk, hown, hne⟩ := h1
  have c0 : w1.cell? ⟨b, 0, none⟩ = some (.pointer (some ⟨b, 0, none⟩)) := by rw [Lib.cell_of_heap hbk]; rfl
  have c1 : w1.cell? ⟨b, 1, none⟩ = some v := by rw [Lib.cell_of_heap hbk]; rfl
  go_wp2_with (at_builtin; refine Lib.wpList_append_own_string _ rfl _ _ 56 9 rfl B 5 i0 Tryz.underlying56 Tryz.underlying9 hi hz0 hz1 hz2 _ _ _ rfl hown s rfl ?c3 ?c4 ?c5 ?_)
  case c3 => unfold maxLen; omega
  case c4 => omega
  case c5 => have := hb1.size; omega
  intro v' w2 hown' hgrow _
  have hlt : b < w1.heap.size := by
    rcases Nat.lt_or_ge b w1.heap.size with h' | h'
    · exact h'
    · simp [Array.getElem?_eq_none h'] at hbk
  have hb2 : w2.heap[b]? = some (.cells #[.pointer (some ⟨b, 0, none⟩), v] 86 (0, 0)) := by
    rw [hgrow.block b hlt (fun e => hne e.symm)]
    exact hbk
  have d0 : w2.cell? ⟨b, 0, none⟩ = some (.pointer (some ⟨b, 0, none⟩)) := by rw [Lib.cell_of_heap hb2]; rfl
  have d1 : w2.cell? ⟨b, 1, none⟩ = some v := by rw [Lib.cell_of_heap hb2]; rfl
  have f1 : w2.frozen? ⟨b, 1, none⟩ = false := Lib.frozen_of_heap hb2 1
  obtain ⟨ao, n', cap, rfl⟩ : ∃ ao n' cap, v' = .slice ao n' cap := by
    rcases hown'.2 with ⟨hv, _⟩ | ⟨g, cap, cur, hv, _⟩
    · exact ⟨_, _, _, hv⟩
    · exact ⟨_, _, _, hv⟩
  go_wp2
  go_ret2
  refine ⟨rfl, ?_, ?_⟩
  · exact Lib.BuilderAt.put (T := 86) (e := 5) hB hb2 (bs' := bs ++ Lib.strCells s) (by simpa [Lib.strCells_length] using hown') (by decide)
  · exact (hb1.grown hgrow (by have := hb1.size; omega) (fun k hk => (hown.lt k hk).1)).setCell (p := ⟨b, 1, none⟩) hB _
set_option maxHeartbeats 8000000
theorem plain_dot : plainW [46] := ⟨by decide, 46, [], rfl, by decide, by decide⟩
theorem strC_app (xs ys : List Int) : Lib.strCells (strOfNums xs) ++ Lib.strCells (strOfNums ys) = Lib.strCells (strOfNums (xs ++ ys)) := by
  unfold Lib.strCells
  rw [strOfNums_data, strOfNums_data, strOfNums_data, List.map_append, List.map_append]
theorem strC_len (xs : List Int) : (Lib.strCells (strOfNums xs)).length = xs.length := by rw [Lib.strCells_length, strOfNums_size]
theorem bld_keep {f : Nat → Prop} {w w' : World} {t e : TypeId} {B k : Nat} {v : Value} {bs : List Value} (h : Lib.BuilderAt t e B k v bs w) (g : Keep f w w') (hf : ∀ q, B ≤ q → f q) : Lib.BuilderAt t e B k v bs w' := by
  obtain ⟨h1, u, h2, h3, h4⟩ := h
  exact ⟨h1, u, by rw [g.block k (Array.getElem?_eq_some_iff.1 h2).1 (hf k h1)]; exact h2, own_keep h3 (fun q hq => hf q (own_type h3 hq).1) g, h4⟩
theorem blk_below {w w' : World} {p B : Nat} {t : TypeId} {cs : Array Value} (h : Blk w p t cs) (g : Below B w w') (hp : p < B) : Blk w' p t cs := (g.block p hp).trans h
theorem kp_below {f : Nat → Prop} {w w1 w2 : World} {B : Nat} (h : Keep f w w1) (hB : w.heap.size ≤ B) (g : Below B w1 w2) : Keep f w w2 :=
  ⟨g.os.trans h.os, g.tape.trans h.tape, g.output.trans h.output, Nat.le_trans h.size g.size, fun k hk hf => by rw [g.block k (by omega), h.block k hk hf]⟩
theorem PR.below {w0 w w' : World} {b off cap : Nat} {ms : List Mw} {p i B : Nat} (h : PR w0 b off cap ms p w i) (g : Below B w w') (hp : p < B) : PR w0 b off cap ms p w' i :=
  ⟨blk_below h.blk g hp, h.base.trans (g.mono (by have := h.hp; omega)), h.hp, h.rd, h.ws, h.lt⟩
theorem typL_go {t : List Int} {s : PS} (h : isM s [46] = true) : typL (t, s) = typL (t ++ 46 :: (takeM (eatM s [46]) 1).1.s, (takeM (eatM s [46]) 1).2) := by
  unfold typL
  exact whM_go (p := fun x : List Int × PS => x.2) typ_dec (x := (t, s)) (show typC (t, s) = true from h)
theorem typL_stop {t : List Int} {s : PS} (h : isM s [46] = false) : typL (t, s) = (t, s) := whM_stop (show typC (t, s) = false from h)
theorem typL_bad {t : List Int} {s : PS} (h : s.cd ≠ 0) : typL (t, s) = (t, s) := typL_stop (is_bad h _)
/-- While a type is read: the reader, the blocks, the builder. -/
structure TyI (w0 : World) (b off cap : Nat) (ms : List Mw) (p : Nat) (w : World) (N : Nat) (cf cr cm : Array Value) (wr : World) (j : Nat) (t : List Int) : Prop where
  pr : PR w0 b off cap ms p wr j
  hk : Keep (· ≠ p) w wr
  sz : N + 1 < wr.heap.size
  f : Blk wr w.heap.size 143 cf
  r : Blk wr (w.heap.size + 1) 143 cr
  m : Blk wr N 159 cm
  bd : Lib.BuilderAt 86 5 (N + 1) (N + 1) (.pointer (some ⟨N + 1, 0, none⟩)) (Lib.strCells (strOfNums t)) wr
  lo : w.heap.size + 1 < N
  hp : p < w.heap.size
section
variable {w0 : World} {b off cap : Nat} {ms : List Mw} {p : Nat} {w : World} {N : Nat} {cf cr cm : Array Value} {wr w' : World} {j k : Nat} {t x : List Int}
theorem TyI.reader (h : TyI w0 b off cap ms p w N cf cr cm wr j t) (K : Keep (· ≠ p) wr w') (R : PR w0 b off cap ms p w' k) : TyI w0 b off cap ms p w N cf cr cm w' k t :=
  ⟨R, h.hk.trans K, Nat.lt_of_lt_of_le h.sz K.size, h.f.keep K (by have := h.hp; omega), h.r.keep K (by have := h.hp; omega), h.m.keep K (by have := h.hp; have := h.lo; omega), bld_keep h.bd K (fun q hq (e : q = p) => by have := h.hp; have := h.lo; omega), h.lo, h.hp⟩
theorem TyI.kept (h : TyI w0 b off cap ms p w N cf cr cm wr j t) (g : Below wr.heap.size wr w') : TyI w0 b off cap ms p w N cf cr cm w' j t := h.reader (Keep.ofBelow g) (h.pr.kept g)
theorem TyI.wrote (h : TyI w0 b off cap ms p w N cf cr cm wr j t) (g : Below (N + 1) wr w') (B : Lib.BuilderAt 86 5 (N + 1) (N + 1) (.pointer (some ⟨N + 1, 0, none⟩)) (Lib.strCells (strOfNums t) ++ Lib.strCells (strOfNums x)) w') : TyI w0 b off cap ms p w N cf cr cm w' j (t ++ x) :=
  ⟨h.pr.below g (by have := h.hp; have := h.lo; omega), kp_below h.hk (by have := h.lo; omega) g, Nat.lt_of_lt_of_le h.sz g.size, blk_below h.f g (by have := h.lo; omega), blk_below h.r g (by have := h.lo; omega), blk_below h.m g (by omega), by rw [← strC_app]; exact B, h.lo, h.hp⟩
end
theorem stringW (B k : Nat) (t : List Int) (w : World) (h : Lib.IsBuilder 86 5 B k (Lib.strCells (strOfNums t)) w) (hB : B ≤ w.heap.size) : Calls Tryz.prog 26 #[.pointer (some ⟨k, 0, none⟩)] w fun e w' => e = .returned (.string (strOfNums t)) ∧ Below B w w' := by
  refine (Tryz.Builder_String_any B k (strOfNums t).data.toList w h hB).mono ?_
  rintro e w' ⟨rfl, hb⟩
  exact ⟨by rw [Array.toArray_toList], hb⟩
section
variable (w0 : World) (b off cap : Nat) (ms : List Mw) (p : Nat) (w : World) (i : Nat)
theorem typedW (f : MF) (hml : ms.length ≤ 70000) (h : PR w0 b off cap ms p w i) : Calls Tryz.prog 143 #[.pointer (some ⟨p, 0, none⟩), .agg #[.string (strOfNums f.name), .string (strOfNums f.ty), .string (strOfNums f.key), .int .u64 f.num, .int .i64 f.label, .int .i64 f.packed, .int .i64 f.oneof, .int .i64 f.at1.1, .int .i64 f.at1.2, .int .i64 f.nat1.1, .int .i64 f.nat1.2, .int .i64 f.tat.1, .int .i64 f.tat.2, .int .i64 f.mat.1, .int .i64 f.mat.2]] w fun e w' => Keep (· ≠ p) w w' ∧ ((∃ j g, Hid ((typM (stA ms i)).2.2 = stA ms j) ∧ Hid (g = { f with ty := (typM (stA ms i)).1, tat := (typM (stA ms i)).2.1 }) ∧ e = .returned (.agg #[.string (strOfNums g.name), .string (strOfNums g.ty), .string (strOfNums g.key), .int .u64 g.num, .int .i64 g.label, .int .i64 g.packed, .int .i64 g.oneof, .int .i64 g.at1.1, .int .i64 g.at1.2, .int .i64 g.nat1.1, .int .i64 g.nat1.2, .int .i64 g.tat.1, .int .i64 g.tat.2, .int .i64 g.mat.1, .int .i64 g.mat.2]) ∧ Hid (PR w0 b off cap ms p w' j)) ∨ Fell (typM (stA ms i)).2.2 e) := by
  have HX : Hid (typM (stA ms i) = ((typL ((takeM (stA ms i) 1).1.s, (takeM (stA ms i) 1).2)).1, atM (takeM (stA ms i) 1).1, (typL ((takeM (stA ms i) 1).1.s, (takeM (stA ms i) 1).2)).2)) := hid rfl
  have HML := hid hml
  clear hml
  have hk0 : Hid (Keep (· ≠ p) w w) := hid (Keep.refl _ _)
  have hpl : p < w.heap.size := h.blk.lt
  have HR0 := hid h
  clear h
  go_enter Tryz.func143, Tryz.ntmps143
  go_wp2_with fail
  refine (takeW w0 b off cap ms p _ i 1 (by decide) (by have := HR0.out; exact prBy)).mono ?_
  rintro e w1 ⟨hK1, (⟨j1, m1, sa, sc, he1, hm1, rfl, hr1, ho1, HR1⟩ | ⟨hcd, rfl⟩)⟩
  case inr =>
    have hk1 : Hid (Keep (· ≠ p) w w1) := hid (Keep.trans (by have := hk0.out; exact kpBy) hK1)
    clear hK1
    go_wp2
    exact ⟨rfl, by have := hk1.out; exact kpBy, .inr (by rw [HX.out, typL_bad hcd]; exact ⟨hcd, rfl⟩)⟩
  have Bf : Blk w1 (w.heap.size) 143 #[.string (strOfNums f.name), .string (strOfNums f.ty), .string (strOfNums f.key), .int .u64 f.num, .int .i64 f.label, .int .i64 f.packed, .int .i64 f.oneof, .int .i64 f.at1.1, .int .i64 f.at1.2, .int .i64 f.nat1.1, .int .i64 f.nat1.2, .int .i64 f.tat.1, .int .i64 f.tat.2, .int .i64 f.mat.1, .int .i64 f.mat.2] := Blk.keep (((Blk.newAt (by simp)).kept (below_alloc _)).is (by first | rfl | simp)) hK1 (show w.heap.size ≠ p by omega)
  have Br : Blk w1 (w.heap.size + 1) 143 #[.string ⟨#[]⟩, .string ⟨#[]⟩, .string ⟨#[]⟩, .int .u64 0, .int .i64 0, .int .i64 0, .int .i64 0, .int .i64 0, .int .i64 0, .int .i64 0, .int .i64 0, .int .i64 0, .int .i64 0, .int .i64 0, .int .i64 0] := Blk.keep ((Blk.newAt (by simp)).is (by first | rfl | simp)) hK1 (show w.heap.size + 1 ≠ p by omega)
  have hs1 := hK1.size
  try simp at hs1
  have xf := Bf.cellF
  have yf := Bf.frz
  have zf : w.heap.size < w1.heap.size := by omega
  have xr := Br.cellF
  have yr := Br.frz
  have zr : w.heap.size + 1 < w1.heap.size := by omega
  have hp1 : p < w1.heap.size := by omega
  have hq1 : w.heap.size ≤ w1.heap.size := by omega
  have hk1 : Hid (Keep (· ≠ p) w w1) := hid (Keep.trans (by have := hk0.out; exact kpBy) hK1)
  clear hK1
  go_wp2_with fail
  refine (writeW (w1.heap.size + 1) (w1.heap.size + 1) [] (strOfNums m1.s) _ (.inl ⟨Nat.le_refl _, .slice none 0 0, Blk.newAt (by simp), World.ownsRow_nil _ _ _ _, by simp [Value.ownBlock]⟩) (by have := ho1.out.sl; rw [strOfNums_size]; simp; omega) (by simp)).mono ?_
  rintro e w2 ⟨rfl, HBD, hb2⟩
  have Cf : Hid (Blk w2 (w.heap.size) 143 #[.string (strOfNums f.name), .string (strOfNums f.ty), .string (strOfNums f.key), .int .u64 f.num, .int .i64 f.label, .int .i64 f.packed, .int .i64 f.oneof, .int .i64 f.at1.1, .int .i64 f.at1.2, .int .i64 f.nat1.1, .int .i64 f.nat1.2, .int .i64 f.tat.1, .int .i64 f.tat.2, .int .i64 f.mat.1, .int .i64 f.mat.2]) := hid (blk_below (((Bf.kept (below_alloc _)).kept (below_alloc _)).is (by first | rfl | simp)) hb2 (by omega))
  have Cr : Hid (Blk w2 (w.heap.size + 1) 143 #[.string ⟨#[]⟩, .string ⟨#[]⟩, .string ⟨#[]⟩, .int .u64 0, .int .i64 0, .int .i64 0, .int .i64 0, .int .i64 0, .int .i64 0, .int .i64 0, .int .i64 0, .int .i64 0, .int .i64 0, .int .i64 0, .int .i64 0]) := hid (blk_below (((Br.kept (below_alloc _)).kept (below_alloc _)).is (by first | rfl | simp)) hb2 (by omega))
  have Cm : Hid (Blk w2 (w1.heap.size) 159 #[.int .i64 m1.kind, .string (strOfNums m1.s), .int .u64 m1.n, .slice sa m1.b.length sc, .int .i64 m1.line, .int .i64 m1.col]) := hid (blk_below (((Blk.newAt (by simp)).kept (below_alloc _)).is (by first | rfl | simp)) hb2 (by omega))
  clear Bf xf yf Br xr yr
  have hs2 := hb2.size
  simp at hs2
  have HR2 : Hid (PR w0 b off cap ms p w2 j1) := hid (PR.below (by have := HR1.out; exact prBy) hb2 (by omega))
  have hk2 : Hid (Keep (· ≠ p) w w2) := hid (kp_below (by have := hk1.out; exact kpBy) (by omega) hb2)
  replace HBD := hid HBD
  clear hb2
  have HSL := hid ho1.out.sl
  go_wp2
  have HI2 : Hid (TyI w0 b off cap ms p w w1.heap.size #[.string (strOfNums f.name), .string (strOfNums f.ty), .string (strOfNums f.key), .int .u64 f.num, .int .i64 f.label, .int .i64 f.packed, .int .i64 f.oneof, .int .i64 f.at1.1, .int .i64 f.at1.2, .int .i64 f.nat1.1, .int .i64 f.nat1.2, .int .i64 f.tat.1, .int .i64 f.tat.2, .int .i64 f.mat.1, .int .i64 f.mat.2] #[.string ⟨#[]⟩, .string ⟨#[]⟩, .string ⟨#[]⟩, .int .u64 0, .int .i64 0, .int .i64 0, .int .i64 0, .int .i64 0, .int .i64 0, .int .i64 0, .int .i64 0, .int .i64 0, .int .i64 0, .int .i64 0, .int .i64 0] #[.int .i64 m1.kind, .string (strOfNums m1.s), .int .u64 m1.n, .slice sa m1.b.length sc, .int .i64 m1.line, .int .i64 m1.col] w2 j1 m1.s) := hid ⟨HR2.out, hk2.out, by omega, Cf.out, Cr.out, Cm.out, HBD.out, by omega, hpl⟩
  clear HR2 hk2 Cf Cr Cm HBD
  go_loopw [] (fun wr => ∃ j t, Hid (typL (m1.s, stA ms j1) = typL (t, stA ms j)) ∧ Hid (TyI w0 b off cap ms p w w1.heap.size #[.string (strOfNums f.name), .string (strOfNums f.ty), .string (strOfNums f.key), .int .u64 f.num, .int .i64 f.label, .int .i64 f.packed, .int .i64 f.oneof, .int .i64 f.at1.1, .int .i64 f.at1.2, .int .i64 f.nat1.1, .int .i64 f.nat1.2, .int .i64 f.tat.1, .int .i64 f.tat.2, .int .i64 f.mat.1, .int .i64 f.mat.2] #[.string ⟨#[]⟩, .string ⟨#[]⟩, .string ⟨#[]⟩, .int .u64 0, .int .i64 0, .int .i64 0, .int .i64 0, .int .i64 0, .int .i64 0, .int .i64 0, .int .i64 0, .int .i64 0, .int .i64 0, .int .i64 0, .int .i64 0] #[.int .i64 m1.kind, .string (strOfNums m1.s), .int .u64 m1.n, .slice sa m1.b.length sc, .int .i64 m1.line, .int .i64 m1.col] wr j t) ∧ Hid (t.length + 70000 * muM (stA ms j) ≤ 65536 + 70000 * 70001)) (fun wr => ms.length - ixW wr p)
  case atStart => exact ⟨j1, m1.s, hid rfl, HI2, hid (by have := HSL.out; have := mu_st ms j1 HML.out; omega)⟩
  case round =>
    obtain ⟨j, t, hty, HI, hln⟩ := hrel
    have hf := wordF1
    cases hi : isM (stA ms j) [46] with
    | true =>
      have hm0 := HI.out.pr.ix
      go_wp2_with fail
      refine (isNextW w0 b off cap ms p _ j ⟨#[46]⟩ [46] rfl plain_dot HI.out.pr).mono ?_
      rintro e v1 ⟨rfl, hb1⟩
      have HI1 := hid (HI.out.kept hb1)
      clear hb1
      rw [hi]
      go_wp2_with fail
      refine (skipW w0 b off cap ms p _ j ⟨#[46]⟩ [46] rfl plain_dot HI1.out.pr).mono ?_
      rintro e v2 ⟨hK2, (⟨k2, ua, uc, he2, rfl, HR2⟩ | ⟨hcd, rfl⟩)⟩
      case inr =>
        have hk2 := hid (HI1.out.hk.trans hK2)
        clear hK2
        go_wp2
        exact ⟨rfl, by have := hk2.out; exact kpBy, .inr (by rw [HX.out, ← hm1.out, he1.out, hty.out, typL_go hi, take_bad hcd, typL_bad hcd]; exact ⟨hcd, rfl⟩)⟩
      have HI2 := hid (HI1.out.reader hK2 HR2.out)
      clear hK2
      go_wp2_with fail
      refine (writeW (w1.heap.size + 1) (w1.heap.size + 1) _ (strOfNums [46]) _ (.inr HI2.out.bd) (by rw [strC_len, strOfNums_size]; have := hln.out; simp; omega) (by have := HI2.out.sz; omega)).mono ?_
      rintro e v3 ⟨rfl, HB3, hb3⟩
      have HI3 := hid (HI2.out.wrote hb3 HB3)
      clear hb3 HB3
      go_wp2_with fail
      refine (takeW w0 b off cap ms p _ k2 1 (by decide) HI3.out.pr).mono ?_
      rintro e v4 ⟨hK4, (⟨k4, m4, ta, tc, he4, hm4, rfl, hr4, ho4, HR4⟩ | ⟨hcd, rfl⟩)⟩
      case inr =>
        have hk4 := hid (HI3.out.hk.trans hK4)
        clear hK4
        go_wp2
        exact ⟨rfl, by have := hk4.out; exact kpBy, .inr (by rw [HX.out, ← hm1.out, he1.out, hty.out, typL_go hi, he2.out, typL_bad hcd]; exact ⟨hcd, rfl⟩)⟩
      have HI4 := hid (HI3.out.reader hK4 HR4.out)
      clear hK4
      go_wp2_with fail
      refine (writeW (w1.heap.size + 1) (w1.heap.size + 1) _ (strOfNums m4.s) _ (.inr HI4.out.bd) (by rw [strC_len, strOfNums_size]; have := hln.out; have := ho4.out.sl; simp; omega) (by have := HI4.out.sz; omega)).mono ?_
      rintro e v5 ⟨rfl, HB5, hb5⟩
      have HI5 := hid (HI4.out.wrote hb5 HB5)
      clear hb5 HB5
      have HMU : Hid (muM (stA ms k4) < muM (stA ms j)) := hid (by rw [← he4.out, ← he2.out]; exact Nat.lt_of_le_of_lt (mu_take _ (by decide)) (mu_eat_lt rfl _))
      have hlt := stA_mu HI.out.pr.lt HI5.out.pr.lt HMU.out
      have hlt2 := HI5.out.pr.lt
      have hm5 := HI5.out.pr.ix
      go_wp2
      exact ⟨⟨k4, t ++ [46] ++ m4.s, hid (by rw [hty.out, typL_go hi, he2.out, he4.out, ← hm4.out]; simp), HI5, hid (by have := hln.out; have := HMU.out; have := ho4.out.sl; simp; omega)⟩, by rw [hm0, hm5]; omega⟩
    | false =>
      go_wp2_with fail
      refine (isNextW w0 b off cap ms p _ j ⟨#[46]⟩ [46] rfl plain_dot HI.out.pr).mono ?_
      rintro e v1 ⟨rfl, hb1⟩
      have HI1 := hid (HI.out.kept hb1)
      clear hb1
      rw [hi]
      have Bm := HI1.out.m
      have hsz := HI1.out.sz
      have hlo := HI1.out.lo
      have xm := Bm.cellF
      go_wp2_with fail
      go_region_held3 (fun W => W.cell? ⟨w1.heap.size, 0, none⟩ = some (.int .i64 m1.kind) ∧ W.cell? ⟨w1.heap.size, 1, none⟩ = some (.string (strOfNums m1.s)) ∧ W.cell? ⟨w1.heap.size, 2, none⟩ = some (.int .u64 m1.n) ∧ W.cell? ⟨w1.heap.size, 3, none⟩ = some (.slice sa m1.b.length sc) ∧ W.cell? ⟨w1.heap.size, 4, none⟩ = some (.int .i64 m1.line) ∧ W.cell? ⟨w1.heap.size, 5, none⟩ = some (.int .i64 m1.col)) (first | with_reducible exact blkc6 (((C3m.out.other (show w1.heap.size ≠ w.heap.size by omega) _).other (show w1.heap.size ≠ w.heap.size by omega) _).other (show w1.heap.size ≠ w.heap.size by omega) _) | with_reducible exact blkc6 (C3m.out.other (show w1.heap.size ≠ w.heap.size by omega) _) | with_reducible exact blkc6 C3m.out | with_reducible exact blkc6 C2m.out | with_reducible exact blkc6 (Bm.kept (below_drew1 _))) (first | (go_at_call 26; refine (stringW (w1.heap.size + 1) (w1.heap.size + 1) t _ (.inr (bld_keep HI1.out.bd (kp_drew (Keep.refl (fun _ => True) _)) (fun _ _ => trivial))) (Nat.le_of_lt HI1.out.sz)).mono ?_; rintro e v2 ⟨rfl, hb2⟩; have C2m := hid (blk_below (Bm.kept (below_drew1 _)) hb2 (by omega)); have C2f := hid (blk_below (HI1.out.f.kept (below_drew1 _)) hb2 (by omega)); have C2r := hid (blk_below (HI1.out.r.kept (below_drew1 _)) hb2 (by omega)); have HR2 := hid (HI1.out.pr.drew.below hb2 (by omega)); have hk2 := hid (kp_below (kp_drew HI1.out.hk) (by omega) hb2); have hs2x := hb2.size; (try simp at hs2x); clear hb2) | (go_at_call 100; refine (placeOfW _ m1 sa sc).mono ?_; rintro e v3 ⟨rfl, hb3⟩; have C3m := hid (C2m.out.kept hb3); have C3f := hid (C2f.out.kept hb3); have C3r := hid (C2r.out.kept hb3); have HR3 := hid (HR2.out.kept hb3); have hk3 := hid (hk2.out.trans (Keep.ofBelow hb3)); have hs3x := hb3.size; have xf := C3f.out.cellF; have yf := C3f.out.frz; have xr := C3r.out.cellF; have yr := C3r.out.frz; have zr : w.heap.size + 1 < v3.heap.size := (by omega); clear hb3))
      go_wp2
      exact bodyPost_ret (v := .agg #[.string (strOfNums f.name), .string (strOfNums t), .string (strOfNums f.key), .int .u64 f.num, .int .i64 f.label, .int .i64 f.packed, .int .i64 f.oneof, .int .i64 f.at1.1, .int .i64 f.at1.2, .int .i64 f.nat1.1, .int .i64 f.nat1.2, .int .i64 m1.line, .int .i64 m1.col, .int .i64 f.mat.1, .int .i64 f.mat.2]) (by simp [results, Tryz.results143, go_sem, xf, xr, zr]) rfl ⟨by have := hk3.out; exact kpBy, .inl ⟨j, { f with ty := t, tat := atM m1 }, hid (by rw [HX.out, ← hm1.out, he1.out, hty.out, typL_stop hi]), hid (by rw [HX.out, ← hm1.out, he1.out, hty.out, typL_stop hi]), rfl, hid (by have := HR3.out; exact prBy)⟩⟩
end
theorem plain_map : plainW [109, 97, 112] := ⟨by decide, 109, [97, 112], rfl, by decide, by decide⟩
theorem plain_lt : plainW [60] := ⟨by decide, 60, [], rfl, by decide, by decide⟩
theorem plain_gt : plainW [62] := ⟨by decide, 62, [], rfl, by decide, by decide⟩
theorem plain_comma : plainW [44] := ⟨by decide, 44, [], rfl, by decide, by decide⟩
/-- A field with its type, its name, its number. -/
def fA (f : MF) (s : PS) : MF × PS := ({ f with ty := (typM s).1, tat := (typM s).2.1, name := (namM (typM s).2.2).1.s, at1 := atM (namM (typM s).2.2).1, num := (namM (typM s).2.2).2.1.n, nat1 := atM (namM (typM s).2.2).2.1 }, (namM (typM s).2.2).2.2)
def fB (f : MF) (s : PS) : MF × PS :=
  if isM (fA f s).2 [91] = true then ((opM (fA f s).1 (fA f s).2).1, eatM (opM (fA f s).1 (fA f s).2).2 [59]) else ((fA f s).1, eatM (fA f s).2 [59])
def fZ (label oneof : Int) (key : List Int) (mark : Int × Int) : MF := ⟨[], [], key, 0, label, 0, oneof, (0, 0), (0, 0), (0, 0), mark⟩
theorem fB_is {label : Int} (h : label ≠ 4) (mark : Int × Int) (s : PS) : fB (fZ label 0 [] mark) s = fldM s label mark := by
  unfold fB fldM
  have e : fA (fZ label 0 [] mark) s = fldA s label mark := rfl
  rw [e]
  by_cases hi : isM (fldA s label mark).2 [91] = true
  · rw [if_pos hi, if_pos ⟨h, hi⟩]
  · rw [if_neg hi, if_neg (fun q => hi q.2)]
theorem fA_one (n : Int) (s : PS) : oneM n s = ((fA (fZ 4 n [] (0, 0)) s).1, eatM (fA (fZ 4 n [] (0, 0)) s).2 [59]) := by
  unfold oneM fldM
  rw [if_neg (fun q => q.1 rfl)]
  rfl
theorem prs_is (s : PS) : prsM s = ((⟨(prC s).1.s, (prB s).1, (prA s).1.s, (prC s).2.1.n, 5, 0, 0, atM (prC s).1, atM (prC s).2.1, (prB s).2.1, atM (prA s).1⟩ : MF), eatM (prC s).2.2 [59]) := rfl
section
variable (w0 : World) (b off cap : Nat) (ms : List Mw) (p : Nat) (w : World) (i : Nat)
theorem fieldW_true (f : MF) (hml : ms.length ≤ 70000) (hi0 : isM (fA f (stA ms i)).2 [91] = true) (h : PR w0 b off cap ms p w i) : Calls Tryz.prog 122 #[.pointer (some ⟨p, 0, none⟩), .agg #[.string (strOfNums f.name), .string (strOfNums f.ty), .string (strOfNums f.key), .int .u64 f.num, .int .i64 f.label, .int .i64 f.packed, .int .i64 f.oneof, .int .i64 f.at1.1, .int .i64 f.at1.2, .int .i64 f.nat1.1, .int .i64 f.nat1.2, .int .i64 f.tat.1, .int .i64 f.tat.2, .int .i64 f.mat.1, .int .i64 f.mat.2]] w fun e w' => Keep (· ≠ p) w w' ∧ ((∃ j g, Hid ((fB f (stA ms i)).2 = stA ms j) ∧ Hid (g = (fB f (stA ms i)).1) ∧ e = .returned (.agg #[.string (strOfNums g.name), .string (strOfNums g.ty), .string (strOfNums g.key), .int .u64 g.num, .int .i64 g.label, .int .i64 g.packed, .int .i64 g.oneof, .int .i64 g.at1.1, .int .i64 g.at1.2, .int .i64 g.nat1.1, .int .i64 g.nat1.2, .int .i64 g.tat.1, .int .i64 g.tat.2, .int .i64 g.mat.1, .int .i64 g.mat.2]) ∧ Hid (PR w0 b off cap ms p w' j)) ∨ Fell (fB f (stA ms i)).2 e) := by
  have HML := hid hml
  have HI0 := hid hi0
  clear hml hi0
  have HXb : Hid (∀ S, (fA f (stA ms i)).2 = S → S.cd ≠ 0 → (fB f (stA ms i)).2 = S) := hid (fun S e h => by unfold fB; rw [e, is_bad h, if_neg (by simp)]; simp only [eat_bad h])
  have hk0 : Hid (Keep (· ≠ p) w w) := hid (Keep.refl _ _)
  have hpl : p < w.heap.size := h.blk.lt
  have HR0 := hid h
  clear h
  go_enter Tryz.func122, Tryz.ntmps122
  go_wp2_with fail
  refine (typedW w0 b off cap ms p _ i f HML.out (by have := HR0.out; exact prBy)).mono ?_
  rintro e w1 ⟨hK1, (⟨j1, g1, he1, hg1, rfl, HR1⟩ | ⟨hcd, rfl⟩)⟩
  case inr =>
    have hk1 : Hid (Keep (· ≠ p) w w1) := hid (Keep.trans (by have := hk0.out; exact kpBy) hK1)
    clear hK1
    go_wp2
    exact ⟨rfl, by have := hk1.out; exact kpBy, .inr (by rw [HXb.out (typM (stA ms i)).2.2 (by unfold fA; simp only [nam_bad hcd]) hcd]; exact ⟨hcd, rfl⟩)⟩
  have Bf : Blk w1 (w.heap.size) 143 #[.string (strOfNums f.name), .string (strOfNums f.ty), .string (strOfNums f.key), .int .u64 f.num, .int .i64 f.label, .int .i64 f.packed, .int .i64 f.oneof, .int .i64 f.at1.1, .int .i64 f.at1.2, .int .i64 f.nat1.1, .int .i64 f.nat1.2, .int .i64 f.tat.1, .int .i64 f.tat.2, .int .i64 f.mat.1, .int .i64 f.mat.2] := Blk.keep (((Blk.newAt (by simp)).kept (below_alloc _)).is (by first | rfl | simp)) hK1 (show w.heap.size ≠ p by omega)
  have Br : Blk w1 (w.heap.size + 1) 143 #[.string ⟨#[]⟩, .string ⟨#[]⟩, .string ⟨#[]⟩, .int .u64 0, .int .i64 0, .int .i64 0, .int .i64 0, .int .i64 0, .int .i64 0, .int .i64 0, .int .i64 0, .int .i64 0, .int .i64 0, .int .i64 0, .int .i64 0] := Blk.keep ((Blk.newAt (by simp)).is (by first | rfl | simp)) hK1 (show w.heap.size + 1 ≠ p by omega)
  have hs1 := hK1.size
  try simp at hs1
  have xf := Bf.cellF
  have yf := Bf.frz
  have zf : w.heap.size < w1.heap.size := by omega
  have xr := Br.cellF
  have yr := Br.frz
  have zr : w.heap.size + 1 < w1.heap.size := by omega
  have hp1 : p < w1.heap.size := by omega
  have hq1 : w.heap.size ≤ w1.heap.size := by omega
  have hk1 : Hid (Keep (· ≠ p) w w1) := hid (Keep.trans (by have := hk0.out; exact kpBy) hK1)
  clear hK1
  go_wp2_with fail
  refine (namedW w0 b off cap ms p _ j1 g1 (by have := HR1.out; exact prBy)).mono ?_
  rintro e w2 ⟨hK2, (⟨j2, g2, he2, hg2, rfl, ho2, HR2⟩ | ⟨hcd, rfl⟩)⟩
  case inr =>
    have hk2 : Hid (Keep (· ≠ p) w w2) := hid (Keep.trans (by have := hk1.out; exact kpBy) hK2)
    clear hK2
    go_wp2
    exact ⟨rfl, by have := hk2.out; exact kpBy, .inr (by rw [HXb.out (namM (stA ms j1)).2.2 (by unfold fA; rw [he1.out]) hcd]; exact ⟨hcd, rfl⟩)⟩
  replace Bf : Blk w2 (w.heap.size) 143 #[.string (strOfNums f.name), .string (strOfNums f.ty), .string (strOfNums f.key), .int .u64 f.num, .int .i64 f.label, .int .i64 f.packed, .int .i64 f.oneof, .int .i64 f.at1.1, .int .i64 f.at1.2, .int .i64 f.nat1.1, .int .i64 f.nat1.2, .int .i64 f.tat.1, .int .i64 f.tat.2, .int .i64 f.mat.1, .int .i64 f.mat.2] := Blk.keep (Bf.is (by first | rfl | simp)) hK2 (show w.heap.size ≠ p by omega)
  replace Br : Blk w2 (w.heap.size + 1) 143 #[.string ⟨#[]⟩, .string ⟨#[]⟩, .string ⟨#[]⟩, .int .u64 0, .int .i64 0, .int .i64 0, .int .i64 0, .int .i64 0, .int .i64 0, .int .i64 0, .int .i64 0, .int .i64 0, .int .i64 0, .int .i64 0, .int .i64 0] := Blk.keep (Br.is (by first | rfl | simp)) hK2 (show w.heap.size + 1 ≠ p by omega)
  clear xf yf xr yr
  have hs2 := hK2.size
  try simp at hs2
  have xf := Bf.cellF
  have yf := Bf.frz
  replace zf : w.heap.size < w2.heap.size := by omega
  have xr := Br.cellF
  have yr := Br.frz
  replace zr : w.heap.size + 1 < w2.heap.size := by omega
  have hp2 : p < w2.heap.size := by omega
  have hq2 : w.heap.size ≤ w2.heap.size := by omega
  have hk2 : Hid (Keep (· ≠ p) w w2) := hid (Keep.trans (by have := hk1.out; exact kpBy) hK2)
  clear hK2
  have HFA : Hid (fA f (stA ms i) = (g2, stA ms j2)) := hid (by unfold fA; rw [he1.out, he2.out, hg2.out, hg1.out])
  have hi : isM (stA ms j2) [91] = true := by have := HI0.out; rw [HFA.out] at this; exact this
  go_wp2_with fail
  refine (isNextW w0 b off cap ms p _ j2 ⟨#[91]⟩ [91] rfl plain_lb (by have := HR2.out; exact prBy)).mono ?_
  rintro e w3 ⟨rfl, hb3⟩
  have hK3 := Keep.ofBelow (f := (· ≠ p)) hb3
  have HR3 : Hid (PR w0 b off cap ms p w3 (j2)) := hid (PR.kept (by have := HR2.out; exact prBy) hb3)
  clear hb3
  replace Bf : Blk w3 (w.heap.size) 143 #[.string (strOfNums g2.name), .string (strOfNums g2.ty), .string (strOfNums g2.key), .int .u64 g2.num, .int .i64 g2.label, .int .i64 g2.packed, .int .i64 g2.oneof, .int .i64 g2.at1.1, .int .i64 g2.at1.2, .int .i64 g2.nat1.1, .int .i64 g2.nat1.2, .int .i64 g2.tat.1, .int .i64 g2.tat.2, .int .i64 g2.mat.1, .int .i64 g2.mat.2] := Blk.keep ((blkall15 Bf).is (by first | rfl | simp)) hK3 (show w.heap.size ≠ p by omega)
  replace Br : Blk w3 (w.heap.size + 1) 143 #[.string ⟨#[]⟩, .string ⟨#[]⟩, .string ⟨#[]⟩, .int .u64 0, .int .i64 0, .int .i64 0, .int .i64 0, .int .i64 0, .int .i64 0, .int .i64 0, .int .i64 0, .int .i64 0, .int .i64 0, .int .i64 0, .int .i64 0] := Blk.keep ((blkoth15 Br (show w.heap.size + 1 ≠ w.heap.size by omega)).is (by first | rfl | simp)) hK3 (show w.heap.size + 1 ≠ p by omega)
  clear xf yf xr yr
  have hs3 := hK3.size
  try simp at hs3
  have xf := Bf.cellF
  have yf := Bf.frz
  replace zf : w.heap.size < w3.heap.size := by omega
  have xr := Br.cellF
  have yr := Br.frz
  replace zr : w.heap.size + 1 < w3.heap.size := by omega
  have hp3 : p < w3.heap.size := by omega
  have hq3 : w.heap.size ≤ w3.heap.size := by omega
  have hk3 : Hid (Keep (· ≠ p) w w3) := hid (Keep.trans (by have := hk2.out; exact kpBy) hK3)
  clear hK3
  rw [hi]
  have HFB : Hid (fB f (stA ms i) = ((opM g2 (stA ms j2)).1, eatM (opM g2 (stA ms j2)).2 [59])) := hid (by unfold fB; rw [HFA.out]; simp only []; rw [if_pos hi])
  go_wp2_with fail
  refine (optionW w0 b off cap ms p _ j2 g2 (by have := HR3.out; exact prBy)).mono ?_
  rintro e w4 ⟨hK4, (⟨j4, g4, he4, hg4, rfl, HR4⟩ | ⟨hcd, rfl⟩)⟩
  case inr =>
    have hk4 : Hid (Keep (· ≠ p) w w4) := hid (Keep.trans (by have := hk3.out; exact kpBy) hK4)
    clear hK4
    go_wp2
    exact ⟨rfl, by have := hk4.out; exact kpBy, .inr (by rw [HFB.out]; simp only [eat_bad hcd]; exact ⟨hcd, rfl⟩)⟩
  replace Bf : Blk w4 (w.heap.size) 143 #[.string (strOfNums g2.name), .string (strOfNums g2.ty), .string (strOfNums g2.key), .int .u64 g2.num, .int .i64 g2.label, .int .i64 g2.packed, .int .i64 g2.oneof, .int .i64 g2.at1.1, .int .i64 g2.at1.2, .int .i64 g2.nat1.1, .int .i64 g2.nat1.2, .int .i64 g2.tat.1, .int .i64 g2.tat.2, .int .i64 g2.mat.1, .int .i64 g2.mat.2] := Blk.keep (Bf.is (by first | rfl | simp)) hK4 (show w.heap.size ≠ p by omega)
  replace Br : Blk w4 (w.heap.size + 1) 143 #[.string ⟨#[]⟩, .string ⟨#[]⟩, .string ⟨#[]⟩, .int .u64 0, .int .i64 0, .int .i64 0, .int .i64 0, .int .i64 0, .int .i64 0, .int .i64 0, .int .i64 0, .int .i64 0, .int .i64 0, .int .i64 0, .int .i64 0] := Blk.keep (Br.is (by first | rfl | simp)) hK4 (show w.heap.size + 1 ≠ p by omega)
  clear xf yf xr yr
  have hs4 := hK4.size
  try simp at hs4
  have xf := Bf.cellF
  have yf := Bf.frz
  replace zf : w.heap.size < w4.heap.size := by omega
  have xr := Br.cellF
  have yr := Br.frz
  replace zr : w.heap.size + 1 < w4.heap.size := by omega
  have hp4 : p < w4.heap.size := by omega
  have hq4 : w.heap.size ≤ w4.heap.size := by omega
  have hk4 : Hid (Keep (· ≠ p) w w4) := hid (Keep.trans (by have := hk3.out; exact kpBy) hK4)
  clear hK4
  go_wp2_with fail
  refine (skipW w0 b off cap ms p _ j4 ⟨#[59]⟩ [59] rfl plain_sc (by have := HR4.out; exact prBy)).mono ?_
  rintro e w5 ⟨hK5, (⟨j5, ua, uc, he5, rfl, HR5⟩ | ⟨hcd, rfl⟩)⟩
  case inr =>
    have hk5 : Hid (Keep (· ≠ p) w w5) := hid (Keep.trans (by have := hk4.out; exact kpBy) hK5)
    clear hK5
    go_wp2
    exact ⟨rfl, by have := hk5.out; exact kpBy, .inr (by rw [HFB.out]; simp only [he4.out]; exact ⟨hcd, rfl⟩)⟩
  replace Bf : Blk w5 (w.heap.size) 143 #[.string (strOfNums g4.name), .string (strOfNums g4.ty), .string (strOfNums g4.key), .int .u64 g4.num, .int .i64 g4.label, .int .i64 g4.packed, .int .i64 g4.oneof, .int .i64 g4.at1.1, .int .i64 g4.at1.2, .int .i64 g4.nat1.1, .int .i64 g4.nat1.2, .int .i64 g4.tat.1, .int .i64 g4.tat.2, .int .i64 g4.mat.1, .int .i64 g4.mat.2] := Blk.keep ((blkall15 Bf).is (by first | rfl | simp)) hK5 (show w.heap.size ≠ p by omega)
  replace Br : Blk w5 (w.heap.size + 1) 143 #[.string ⟨#[]⟩, .string ⟨#[]⟩, .string ⟨#[]⟩, .int .u64 0, .int .i64 0, .int .i64 0, .int .i64 0, .int .i64 0, .int .i64 0, .int .i64 0, .int .i64 0, .int .i64 0, .int .i64 0, .int .i64 0, .int .i64 0] := Blk.keep ((blkoth15 Br (show w.heap.size + 1 ≠ w.heap.size by omega)).is (by first | rfl | simp)) hK5 (show w.heap.size + 1 ≠ p by omega)
  clear xf yf xr yr
  have hs5 := hK5.size
  try simp at hs5
  have xf := Bf.cellF
  have yf := Bf.frz
  replace zf : w.heap.size < w5.heap.size := by omega
  have xr := Br.cellF
  have yr := Br.frz
  replace zr : w.heap.size + 1 < w5.heap.size := by omega
  have hp5 : p < w5.heap.size := by omega
  have hq5 : w.heap.size ≤ w5.heap.size := by omega
  have hk5 : Hid (Keep (· ≠ p) w w5) := hid (Keep.trans (by have := hk4.out; exact kpBy) hK5)
  clear hK5
  go_wp2
  exact bodyPost_ret (v := .agg #[.string (strOfNums g4.name), .string (strOfNums g4.ty), .string (strOfNums g4.key), .int .u64 g4.num, .int .i64 g4.label, .int .i64 g4.packed, .int .i64 g4.oneof, .int .i64 g4.at1.1, .int .i64 g4.at1.2, .int .i64 g4.nat1.1, .int .i64 g4.nat1.2, .int .i64 g4.tat.1, .int .i64 g4.tat.2, .int .i64 g4.mat.1, .int .i64 g4.mat.2]) (by simp [results, Tryz.results122, go_sem, xf, zf, xr, zr]) rfl ⟨by have := hk5.out; exact kpBy, .inl ⟨j5, g4, hid (by rw [HFB.out]; simp only [he4.out]; exact he5.out), hid (by rw [HFB.out]; exact hg4.out), rfl, hid (by have := HR5.out; exact prBy)⟩⟩
end
section
variable (w0 : World) (b off cap : Nat) (ms : List Mw) (p : Nat) (w : World) (i : Nat)
theorem fieldW_false (f : MF) (hml : ms.length ≤ 70000) (hi0 : isM (fA f (stA ms i)).2 [91] = false) (h : PR w0 b off cap ms p w i) : Calls Tryz.prog 122 #[.pointer (some ⟨p, 0, none⟩), .agg #[.string (strOfNums f.name), .string (strOfNums f.ty), .string (strOfNums f.key), .int .u64 f.num, .int .i64 f.label, .int .i64 f.packed, .int .i64 f.oneof, .int .i64 f.at1.1, .int .i64 f.at1.2, .int .i64 f.nat1.1, .int .i64 f.nat1.2, .int .i64 f.tat.1, .int .i64 f.tat.2, .int .i64 f.mat.1, .int .i64 f.mat.2]] w fun e w' => Keep (· ≠ p) w w' ∧ ((∃ j g, Hid ((fB f (stA ms i)).2 = stA ms j) ∧ Hid (g = (fB f (stA ms i)).1) ∧ e = .returned (.agg #[.string (strOfNums g.name), .string (strOfNums g.ty), .string (strOfNums g.key), .int .u64 g.num, .int .i64 g.label, .int .i64 g.packed, .int .i64 g.oneof, .int .i64 g.at1.1, .int .i64 g.at1.2, .int .i64 g.nat1.1, .int .i64 g.nat1.2, .int .i64 g.tat.1, .int .i64 g.tat.2, .int .i64 g.mat.1, .int .i64 g.mat.2]) ∧ Hid (PR w0 b off cap ms p w' j)) ∨ Fell (fB f (stA ms i)).2 e) := by
  have HML := hid hml
  have HI0 := hid hi0
  clear hml hi0
  have HXb : Hid (∀ S, (fA f (stA ms i)).2 = S → S.cd ≠ 0 → (fB f (stA ms i)).2 = S) := hid (fun S e h => by unfold fB; rw [e, is_bad h, if_neg (by simp)]; simp only [eat_bad h])
  have hk0 : Hid (Keep (· ≠ p) w w) := hid (Keep.refl _ _)
  have hpl : p < w.heap.size := h.blk.lt
  have HR0 := hid h
  clear h
  go_enter Tryz.func122, Tryz.ntmps122
  go_wp2_with fail
  refine (typedW w0 b off cap ms p _ i f HML.out (by have := HR0.out; exact prBy)).mono ?_
  rintro e w1 ⟨hK1, (⟨j1, g1, he1, hg1, rfl, HR1⟩ | ⟨hcd, rfl⟩)⟩
  case inr =>
    have hk1 : Hid (Keep (· ≠ p) w w1) := hid (Keep.trans (by have := hk0.out; exact kpBy) hK1)
    clear hK1
    go_wp2
    exact ⟨rfl, by have := hk1.out; exact kpBy, .inr (by rw [HXb.out (typM (stA ms i)).2.2 (by unfold fA; simp only [nam_bad hcd]) hcd]; exact ⟨hcd, rfl⟩)⟩
  have Bf : Blk w1 (w.heap.size) 143 #[.string (strOfNums f.name), .string (strOfNums f.ty), .string (strOfNums f.key), .int .u64 f.num, .int .i64 f.label, .int .i64 f.packed, .int .i64 f.oneof, .int .i64 f.at1.1, .int .i64 f.at1.2, .int .i64 f.nat1.1, .int .i64 f.nat1.2, .int .i64 f.tat.1, .int .i64 f.tat.2, .int .i64 f.mat.1, .int .i64 f.mat.2] := Blk.keep (((Blk.newAt (by simp)).kept (below_alloc _)).is (by first | rfl | simp)) hK1 (show w.heap.size ≠ p by omega)
  have Br : Blk w1 (w.heap.size + 1) 143 #[.string ⟨#[]⟩, .string ⟨#[]⟩, .string ⟨#[]⟩, .int .u64 0, .int .i64 0, .int .i64 0, .int .i64 0, .int .i64 0, .int .i64 0, .int .i64 0, .int .i64 0, .int .i64 0, .int .i64 0, .int .i64 0, .int .i64 0] := Blk.keep ((Blk.newAt (by simp)).is (by first | rfl | simp)) hK1 (show w.heap.size + 1 ≠ p by omega)
  have hs1 := hK1.size
  try simp at hs1
  have xf := Bf.cellF
  have yf := Bf.frz
  have zf : w.heap.size < w1.heap.size := by omega
  have xr := Br.cellF
  have yr := Br.frz
  have zr : w.heap.size + 1 < w1.heap.size := by omega
  have hp1 : p < w1.heap.size := by omega
  have hq1 : w.heap.size ≤ w1.heap.size := by omega
  have hk1 : Hid (Keep (· ≠ p) w w1) := hid (Keep.trans (by have := hk0.out; exact kpBy) hK1)
  clear hK1
  go_wp2_with fail
  refine (namedW w0 b off cap ms p _ j1 g1 (by have := HR1.out; exact prBy)).mono ?_
  rintro e w2 ⟨hK2, (⟨j2, g2, he2, hg2, rfl, ho2, HR2⟩ | ⟨hcd, rfl⟩)⟩
  case inr =>
    have hk2 : Hid (Keep (· ≠ p) w w2) := hid (Keep.trans (by have := hk1.out; exact kpBy) hK2)
    clear hK2
    go_wp2
    exact ⟨rfl, by have := hk2.out; exact kpBy, .inr (by rw [HXb.out (namM (stA ms j1)).2.2 (by unfold fA; rw [he1.out]) hcd]; exact ⟨hcd, rfl⟩)⟩
  replace Bf : Blk w2 (w.heap.size) 143 #[.string (strOfNums f.name), .string (strOfNums f.ty), .string (strOfNums f.key), .int .u64 f.num, .int .i64 f.label, .int .i64 f.packed, .int .i64 f.oneof, .int .i64 f.at1.1, .int .i64 f.at1.2, .int .i64 f.nat1.1, .int .i64 f.nat1.2, .int .i64 f.tat.1, .int .i64 f.tat.2, .int .i64 f.mat.1, .int .i64 f.mat.2] := Blk.keep (Bf.is (by first | rfl | simp)) hK2 (show w.heap.size ≠ p by omega)
  replace Br : Blk w2 (w.heap.size + 1) 143 #[.string ⟨#[]⟩, .string ⟨#[]⟩, .string ⟨#[]⟩, .int .u64 0, .int .i64 0, .int .i64 0, .int .i64 0, .int .i64 0, .int .i64 0, .int .i64 0, .int .i64 0, .int .i64 0, .int .i64 0, .int .i64 0, .int .i64 0] := Blk.keep (Br.is (by first | rfl | simp)) hK2 (show w.heap.size + 1 ≠ p by omega)
  clear xf yf xr yr
  have hs2 := hK2.size
  try simp at hs2
  have xf := Bf.cellF
  have yf := Bf.frz
  replace zf : w.heap.size < w2.heap.size := by omega
  have xr := Br.cellF
  have yr := Br.frz
  replace zr : w.heap.size + 1 < w2.heap.size := by omega
  have hp2 : p < w2.heap.size := by omega
  have hq2 : w.heap.size ≤ w2.heap.size := by omega
  have hk2 : Hid (Keep (· ≠ p) w w2) := hid (Keep.trans (by have := hk1.out; exact kpBy) hK2)
  clear hK2
  have HFA : Hid (fA f (stA ms i) = (g2, stA ms j2)) := hid (by unfold fA; rw [he1.out, he2.out, hg2.out, hg1.out])
  have hi : isM (stA ms j2) [91] = false := by have := HI0.out; rw [HFA.out] at this; exact this
  go_wp2_with fail
  refine (isNextW w0 b off cap ms p _ j2 ⟨#[91]⟩ [91] rfl plain_lb (by have := HR2.out; exact prBy)).mono ?_
  rintro e w3 ⟨rfl, hb3⟩
  have hK3 := Keep.ofBelow (f := (· ≠ p)) hb3
  have HR3 : Hid (PR w0 b off cap ms p w3 (j2)) := hid (PR.kept (by have := HR2.out; exact prBy) hb3)
  clear hb3
  replace Bf : Blk w3 (w.heap.size) 143 #[.string (strOfNums g2.name), .string (strOfNums g2.ty), .string (strOfNums g2.key), .int .u64 g2.num, .int .i64 g2.label, .int .i64 g2.packed, .int .i64 g2.oneof, .int .i64 g2.at1.1, .int .i64 g2.at1.2, .int .i64 g2.nat1.1, .int .i64 g2.nat1.2, .int .i64 g2.tat.1, .int .i64 g2.tat.2, .int .i64 g2.mat.1, .int .i64 g2.mat.2] := Blk.keep ((blkall15 Bf).is (by first | rfl | simp)) hK3 (show w.heap.size ≠ p by omega)
  replace Br : Blk w3 (w.heap.size + 1) 143 #[.string ⟨#[]⟩, .string ⟨#[]⟩, .string ⟨#[]⟩, .int .u64 0, .int .i64 0, .int .i64 0, .int .i64 0, .int .i64 0, .int .i64 0, .int .i64 0, .int .i64 0, .int .i64 0, .int .i64 0, .int .i64 0, .int .i64 0] := Blk.keep ((blkoth15 Br (show w.heap.size + 1 ≠ w.heap.size by omega)).is (by first | rfl | simp)) hK3 (show w.heap.size + 1 ≠ p by omega)
  clear xf yf xr yr
  have hs3 := hK3.size
  try simp at hs3
  have xf := Bf.cellF
  have yf := Bf.frz
  replace zf : w.heap.size < w3.heap.size := by omega
  have xr := Br.cellF
  have yr := Br.frz
  replace zr : w.heap.size + 1 < w3.heap.size := by omega
  have hp3 : p < w3.heap.size := by omega
  have hq3 : w.heap.size ≤ w3.heap.size := by omega
  have hk3 : Hid (Keep (· ≠ p) w w3) := hid (Keep.trans (by have := hk2.out; exact kpBy) hK3)
  clear hK3
  rw [hi]
  have HFB : Hid (fB f (stA ms i) = (g2, eatM (stA ms j2) [59])) := hid (by unfold fB; rw [HFA.out]; simp only []; rw [if_neg (by rw [hi]; simp)])
  go_wp2_with fail
  refine (skipW w0 b off cap ms p _ j2 ⟨#[59]⟩ [59] rfl plain_sc (by have := HR3.out; exact prBy)).mono ?_
  rintro e w4 ⟨hK4, (⟨j5, ua, uc, he5, rfl, HR4⟩ | ⟨hcd, rfl⟩)⟩
  case inr =>
    have hk4 : Hid (Keep (· ≠ p) w w4) := hid (Keep.trans (by have := hk3.out; exact kpBy) hK4)
    clear hK4
    go_wp2
    exact ⟨rfl, by have := hk4.out; exact kpBy, .inr (by rw [HFB.out]; exact ⟨hcd, rfl⟩)⟩
  replace Bf : Blk w4 (w.heap.size) 143 #[.string (strOfNums g2.name), .string (strOfNums g2.ty), .string (strOfNums g2.key), .int .u64 g2.num, .int .i64 g2.label, .int .i64 g2.packed, .int .i64 g2.oneof, .int .i64 g2.at1.1, .int .i64 g2.at1.2, .int .i64 g2.nat1.1, .int .i64 g2.nat1.2, .int .i64 g2.tat.1, .int .i64 g2.tat.2, .int .i64 g2.mat.1, .int .i64 g2.mat.2] := Blk.keep (Bf.is (by first | rfl | simp)) hK4 (show w.heap.size ≠ p by omega)
  replace Br : Blk w4 (w.heap.size + 1) 143 #[.string ⟨#[]⟩, .string ⟨#[]⟩, .string ⟨#[]⟩, .int .u64 0, .int .i64 0, .int .i64 0, .int .i64 0, .int .i64 0, .int .i64 0, .int .i64 0, .int .i64 0, .int .i64 0, .int .i64 0, .int .i64 0, .int .i64 0] := Blk.keep (Br.is (by first | rfl | simp)) hK4 (show w.heap.size + 1 ≠ p by omega)
  clear xf yf xr yr
  have hs4 := hK4.size
  try simp at hs4
  have xf := Bf.cellF
  have yf := Bf.frz
  replace zf : w.heap.size < w4.heap.size := by omega
  have xr := Br.cellF
  have yr := Br.frz
  replace zr : w.heap.size + 1 < w4.heap.size := by omega
  have hp4 : p < w4.heap.size := by omega
  have hq4 : w.heap.size ≤ w4.heap.size := by omega
  have hk4 : Hid (Keep (· ≠ p) w w4) := hid (Keep.trans (by have := hk3.out; exact kpBy) hK4)
  clear hK4
  go_wp2
  exact bodyPost_ret (v := .agg #[.string (strOfNums g2.name), .string (strOfNums g2.ty), .string (strOfNums g2.key), .int .u64 g2.num, .int .i64 g2.label, .int .i64 g2.packed, .int .i64 g2.oneof, .int .i64 g2.at1.1, .int .i64 g2.at1.2, .int .i64 g2.nat1.1, .int .i64 g2.nat1.2, .int .i64 g2.tat.1, .int .i64 g2.tat.2, .int .i64 g2.mat.1, .int .i64 g2.mat.2]) (by simp [results, Tryz.results122, go_sem, xf, zf, xr, zr]) rfl ⟨by have := hk4.out; exact kpBy, .inl ⟨j5, g2, hid (by rw [HFB.out]; exact he5.out), hid (by rw [HFB.out]), rfl, hid (by have := HR4.out; exact prBy)⟩⟩
end
section
variable (w0 : World) (b off cap : Nat) (ms : List Mw) (p : Nat) (w : World) (i : Nat)
theorem fieldW (f : MF) (hml : ms.length ≤ 70000) (h : PR w0 b off cap ms p w i) : Calls Tryz.prog 122 #[.pointer (some ⟨p, 0, none⟩), .agg #[.string (strOfNums f.name), .string (strOfNums f.ty), .string (strOfNums f.key), .int .u64 f.num, .int .i64 f.label, .int .i64 f.packed, .int .i64 f.oneof, .int .i64 f.at1.1, .int .i64 f.at1.2, .int .i64 f.nat1.1, .int .i64 f.nat1.2, .int .i64 f.tat.1, .int .i64 f.tat.2, .int .i64 f.mat.1, .int .i64 f.mat.2]] w fun e w' => Keep (· ≠ p) w w' ∧ ((∃ j g, Hid ((fB f (stA ms i)).2 = stA ms j) ∧ Hid (g = (fB f (stA ms i)).1) ∧ e = .returned (.agg #[.string (strOfNums g.name), .string (strOfNums g.ty), .string (strOfNums g.key), .int .u64 g.num, .int .i64 g.label, .int .i64 g.packed, .int .i64 g.oneof, .int .i64 g.at1.1, .int .i64 g.at1.2, .int .i64 g.nat1.1, .int .i64 g.nat1.2, .int .i64 g.tat.1, .int .i64 g.tat.2, .int .i64 g.mat.1, .int .i64 g.mat.2]) ∧ Hid (PR w0 b off cap ms p w' j)) ∨ Fell (fB f (stA ms i)).2 e) := by
  cases hi : isM (fA f (stA ms i)).2 [91] with
  | true => exact fieldW_true w0 b off cap ms p w i f hml hi h
  | false => exact fieldW_false w0 b off cap ms p w i f hml hi h
end
end Go.Proofs.YtidimdbnnnpplaaGreatDoor
