/-
  The reader of the program parse: its block of two cells; its small calls.
  Stores of whole structs.
  The reader of the program parse: a word that stands for itself, a word of a kind.
  The reader of the program parse: a name and its number, a symbol, a range.
-/
import Derived.Test.YtidimdbnnnpplaaGreatDoorCPB
namespace Go.Proofs.YtidimdbnnnpplaaGreatDoor
open Go.RowKit
set_option maxRecDepth 1000000
set_option linter.unusedVariables false
set_option maxHeartbeats 4000000
/-- The words from the i-th on. -/
def stA (ms : List Mw) (i : Nat) : PS := ⟨ms.drop i, 0, 0, 0⟩
structure PR (w0 : World) (b off cap : Nat) (ms : List Mw) (p : Nat) (w : World) (i : Nat) : Prop where
  blk : Blk w p 48 #[.slice (some ⟨b, off, none⟩) ms.length cap, .int .i64 i]
  base : Below w0.heap.size w0 w
  hp : w0.heap.size ≤ p
  rd : ReadsW w0 (some ⟨b, off, none⟩) ms.length cap ms
  ws : Ws (ms.drop i)
  lt : i < ms.length
theorem drop_head {ms : List Mw} {i : Nat} (h : i < ms.length) : ms[i]? = some (hdM (stA ms i)) := by
  unfold hdM stA
  rw [List.drop_eq_getElem_cons h, List.getElem?_eq_getElem h]
  rfl
theorem nxM_stA (ms : List Mw) (i : Nat) : nxM (stA ms i) = stA ms (i + 1) := by
  unfold nxM stA
  simp [List.tail_drop]
section
variable {w0 w w' : World} {b off cap : Nat} {ms : List Mw} {p i : Nat}
theorem PR.head (h : PR w0 b off cap ms p w i) : ∃ sa sc, w.cell? ⟨b, off + i * 6, none⟩ = some (.int .i64 (hdM (stA ms i)).kind) ∧ w.cell? ⟨b, off + i * 6 + 1, none⟩ = some (.string (strOfNums (hdM (stA ms i)).s)) ∧ w.cell? ⟨b, off + i * 6 + 2, none⟩ = some (.int .u64 (hdM (stA ms i)).n) ∧
    w.cell? ⟨b, off + i * 6 + 3, none⟩ = some (.slice sa (hdM (stA ms i)).b.length sc) ∧ w.cell? ⟨b, off + i * 6 + 4, none⟩ = some (.int .i64 (hdM (stA ms i)).line) ∧ w.cell? ⟨b, off + i * 6 + 5, none⟩ = some (.int .i64 (hdM (stA ms i)).col) ∧ Reads w0 sa (hdM (stA ms i)).b.length sc (hdM (stA ms i)).b := by
  rcases h.rd.cells with ⟨h0, _⟩ | ⟨b', off', e', hc⟩
  · have := h.lt; omega
  · cases e'
    obtain ⟨sa, sc, c0, c1, c2, c3, c4, c5, hr⟩ := hc i _ (drop_head h.lt)
    exact ⟨sa, sc, cell_below c0 h.base, cell_below c1 h.base, cell_below c2 h.base, cell_below c3 h.base, cell_below c4 h.base, cell_below c5 h.base, hr⟩
theorem PR.keep {f : Nat → Prop} (h : PR w0 b off cap ms p w i) (g : Keep f w w') (hf : f p) (hl : ∀ k, k < w0.heap.size → f k) : PR w0 b off cap ms p w' i :=
  ⟨h.blk.keep g hf, h.base.trans (g.below h.base.size hl), h.hp, h.rd, h.ws, h.lt⟩
theorem PR.kept (h : PR w0 b off cap ms p w i) (hb : Below w.heap.size w w') : PR w0 b off cap ms p w' i := h.keep (f := fun _ => True) (Keep.ofBelow hb) trivial (fun _ _ => trivial)
theorem PR.okW (h : PR w0 b off cap ms p w i) : okW (hdM (stA ms i)) := Ws.hd (s := stA ms i) h.ws
theorem PR.len (h : PR w0 b off cap ms p w i) : ms.length ≤ 9223372036854775807 := Nat.le_trans h.rd.le h.rd.max
end
section
variable {f : Nat → Prop} {w w' : World}
theorem kp_set {q : Addr} (h : Keep f w w') (hq : ¬ f q.block ∨ w.heap.size ≤ q.block) (v : Value) : Keep f w (w'.setCell q v) :=
  ⟨h.os, h.tape, h.output, by simp only [World.setCell, Array.size_modify]; exact h.size, fun k hk hf => by
    rw [Below.heap_setCell _ _ _ _ (fun e => by subst e; rcases hq with hq | hq; exact hq hf; omega)]
    exact h.block k hk hf⟩
theorem kpA {q : Addr} {v : Value} (h : Keep f w w') (hq : ¬ f q.block ∨ w.heap.size ≤ q.block := by first | (refine Or.inl ?_; simp; done) | (refine Or.inr ?_; first | (simp; done) | (simp; omega) | omega)) : Keep f w (w'.setCell q v) := kp_set h hq v
theorem kp_alloc (h : Keep f w w') (o : Obj) : Keep f w (w'.alloc o) := h.trans (Keep.ofBelow (below_alloc o))
theorem kp_drew (h : Keep f w w') : Keep f w w'.drew := ⟨h.os, h.tape, h.output, h.size, h.block⟩
theorem kp_drewN (h : Keep f w w') (n : Nat) : Keep f w (w'.drewN n) := ⟨h.os, h.tape, h.output, h.size, h.block⟩
theorem kpBy (h : Keep f w w' := by (with_reducible repeat (first | assumption | refine kpF ?_ | refine kpN ?_ | refine kpX ?_ | refine kpA ?_ | refine kp_alloc ?_ _ | refine kp_drew ?_ | refine kp_drewN ?_ _ | exact Keep.refl _ _))) : Keep f w w' := h
end
section
variable {w0 w w' : World} {b off cap : Nat} {ms : List Mw} {p i j : Nat}
/-- The reader's block is as it was said; all else that was there stays. -/
theorem PR.step (h : PR w0 b off cap ms p w i) (K : Keep (· ≠ p) w w') (hB : Blk w' p 48 #[.slice (some ⟨b, off, none⟩) ms.length cap, .int .i64 j]) (hw : Ws (ms.drop j)) (hl : j < ms.length) : PR w0 b off cap ms p w' j :=
  ⟨hB, h.base.trans (K.below h.base.size (fun k hk (e : k = p) => by have := h.hp; omega)), h.hp, h.rd, hw, hl⟩
theorem PR.set (h : PR w0 b off cap ms p w i) {q : Addr} (hq : p < q.block) (v : Value) : PR w0 b off cap ms p (w.setCell q v) i :=
  h.keep (f := fun k => k ≠ q.block) (Keep.setCell _ _ _ (by simp)) (by omega) (fun k hk => by have := h.hp; omega)
theorem prW (h : PR w0 b off cap ms p w i) {q : Addr} {v : Value} (hq : p < q.block := by first | (simp; done) | (simp; omega) | omega) : PR w0 b off cap ms p (w.setCell q v) i := h.set hq v
theorem PR.alloc (h : PR w0 b off cap ms p w i) (o : Obj) : PR w0 b off cap ms p (w.alloc o) i := h.kept (below_alloc o)
theorem PR.drew (h : PR w0 b off cap ms p w i) : PR w0 b off cap ms p w.drew i := h.kept (below_drew1 w)
theorem prBy (h : PR w0 b off cap ms p w i := by (with_reducible repeat (first | assumption | refine prF ?_ | refine prN ?_ | refine prX ?_ | refine prW ?_ | refine PR.alloc ?_ _ | refine PR.drew ?_))) : PR w0 b off cap ms p w i := h
theorem PR.ok (h : PR w0 b off cap ms p w i) {k : Nat} (e : stA ms k = stA ms i) : stA ms k = stA ms i := e
end
theorem blkc2 {w : World} {p : Nat} {t : TypeId} {a0 a1 : Value} (h : Blk w p t #[a0, a1]) : w.cell? ⟨p, 0, none⟩ = some a0 ∧ w.cell? ⟨p, 1, none⟩ = some a1 := ⟨h.cellF 0, h.cellF 1⟩
theorem blkc5 {w : World} {p : Nat} {t : TypeId} {a0 a1 a2 a3 a4 : Value} (h : Blk w p t #[a0, a1, a2, a3, a4]) : w.cell? ⟨p, 0, none⟩ = some a0 ∧ w.cell? ⟨p, 1, none⟩ = some a1 ∧ w.cell? ⟨p, 2, none⟩ = some a2 ∧ w.cell? ⟨p, 3, none⟩ = some a3 ∧ w.cell? ⟨p, 4, none⟩ = some a4 := ⟨h.cellF 0, h.cellF 1, h.cellF 2, h.cellF 3, h.cellF 4⟩
theorem blkc6 {w : World} {p : Nat} {t : TypeId} {a0 a1 a2 a3 a4 a5 : Value} (h : Blk w p t #[a0, a1, a2, a3, a4, a5]) : w.cell? ⟨p, 0, none⟩ = some a0 ∧ w.cell? ⟨p, 1, none⟩ = some a1 ∧ w.cell? ⟨p, 2, none⟩ = some a2 ∧ w.cell? ⟨p, 3, none⟩ = some a3 ∧ w.cell? ⟨p, 4, none⟩ = some a4 ∧ w.cell? ⟨p, 5, none⟩ = some a5 := ⟨h.cellF 0, h.cellF 1, h.cellF 2, h.cellF 3, h.cellF 4, h.cellF 5⟩
theorem blkc9 {w : World} {p : Nat} {t : TypeId} {a0 a1 a2 a3 a4 a5 a6 a7 a8 : Value} (h : Blk w p t #[a0, a1, a2, a3, a4, a5, a6, a7, a8]) : w.cell? ⟨p, 0, none⟩ = some a0 ∧ w.cell? ⟨p, 1, none⟩ = some a1 ∧ w.cell? ⟨p, 2, none⟩ = some a2 ∧ w.cell? ⟨p, 3, none⟩ = some a3 ∧ w.cell? ⟨p, 4, none⟩ = some a4 ∧ w.cell? ⟨p, 5, none⟩ = some a5 ∧ w.cell? ⟨p, 6, none⟩ = some a6 ∧ w.cell? ⟨p, 7, none⟩ = some a7 ∧ w.cell? ⟨p, 8, none⟩ = some a8 := ⟨h.cellF 0, h.cellF 1, h.cellF 2, h.cellF 3, h.cellF 4, h.cellF 5, h.cellF 6, h.cellF 7, h.cellF 8⟩
theorem blkc15 {w : World} {p : Nat} {t : TypeId} {a0 a1 a2 a3 a4 a5 a6 a7 a8 a9 a10 a11 a12 a13 a14 : Value} (h : Blk w p t #[a0, a1, a2, a3, a4, a5, a6, a7, a8, a9, a10, a11, a12, a13, a14]) : w.cell? ⟨p, 0, none⟩ = some a0 ∧ w.cell? ⟨p, 1, none⟩ = some a1 ∧ w.cell? ⟨p, 2, none⟩ = some a2 ∧ w.cell? ⟨p, 3, none⟩ = some a3 ∧ w.cell? ⟨p, 4, none⟩ = some a4 ∧ w.cell? ⟨p, 5, none⟩ = some a5 ∧ w.cell? ⟨p, 6, none⟩ = some a6 ∧ w.cell? ⟨p, 7, none⟩ = some a7 ∧ w.cell? ⟨p, 8, none⟩ = some a8 ∧ w.cell? ⟨p, 9, none⟩ = some a9 ∧ w.cell? ⟨p, 10, none⟩ = some a10 ∧ w.cell? ⟨p, 11, none⟩ = some a11 ∧ w.cell? ⟨p, 12, none⟩ = some a12 ∧ w.cell? ⟨p, 13, none⟩ = some a13 ∧ w.cell? ⟨p, 14, none⟩ = some a14 := ⟨h.cellF 0, h.cellF 1, h.cellF 2, h.cellF 3, h.cellF 4, h.cellF 5, h.cellF 6, h.cellF 7, h.cellF 8, h.cellF 9, h.cellF 10, h.cellF 11, h.cellF 12, h.cellF 13, h.cellF 14⟩
/-- A call fell with a fault. -/
def Fell (s : PS) (e : Ending) : Prop := s.cd ≠ 0 ∧ e = .panicked [{ v := .iface 28 (.agg #[.int .i64 s.cd, .int .i64 0, .int .i64 s.ln, .int .i64 s.cl]), recovered := false }]
theorem wordF0 (a0 a1 a2 a3 a4 a5 : Value) (W : World) : (Instr.field 159 (.agg #[a0, a1, a2, a3, a4, a5]) 0).run Tryz.prog W = .ok a0 W := by rfl
theorem wordF1 (a0 a1 a2 a3 a4 a5 : Value) (W : World) : (Instr.field 159 (.agg #[a0, a1, a2, a3, a4, a5]) 1).run Tryz.prog W = .ok a1 W := by rfl
section
variable (w0 : World) (b off cap : Nat) (ms : List Mw) (p : Nat) (w : World) (i : Nat)
theorem nextW (h : PR w0 b off cap ms p w i) : Calls Tryz.prog 75 #[.pointer (some ⟨p, 0, none⟩)] w fun e w' => (∃ sa sc, e = .returned (.agg #[.int .i64 (hdM (stA ms i)).kind, .string (strOfNums (hdM (stA ms i)).s), .int .u64 (hdM (stA ms i)).n, .slice sa (hdM (stA ms i)).b.length sc, .int .i64 (hdM (stA ms i)).line, .int .i64 (hdM (stA ms i)).col]) ∧ Hid (Reads w0 sa (hdM (stA ms i)).b.length sc (hdM (stA ms i)).b)) ∧ Below w.heap.size w w' := by
  obtain ⟨sa, sc, c0, c1, c2, c3, c4, c5, hr⟩ := h.head
  have k0 := h.blk.cell 0 _ rfl
  have k1 := h.blk.cell 1 _ rfl
  have hlt : (i : Int) < (ms.length : Int) := by have := h.lt; omega
  have hge : (0 : Int) ≤ (i : Int) := by omega
  have hlen : (ms.length : Int) ≤ 9223372036854775807 := by have := h.len; omega
  have hpl : p < w.heap.size := h.blk.lt
  have hbl : b < w.heap.size := World.block_lt_of_cell? _ _ c0
  have HR := hid hr
  clear h hr
  generalize hdM (stA ms i) = m at *
  obtain ⟨kind, s, n, bb, line, col⟩ := m
  dsimp only at *
  go_enter Tryz.func75, Tryz.ntmps75
  go_wp2
  go_region
  all_goals go_wp2
  all_goals exact bodyPost_ret (v := .agg #[.int .i64 kind, .string (strOfNums s), .int .u64 n, .slice sa bb.length sc, .int .i64 line, .int .i64 col]) (by simp [results, Tryz.results75, go_sem]) rfl ⟨⟨sa, sc, rfl, HR⟩, by exact blBy⟩
theorem isNextW (X : ByteArray) (x : List Int) (hX : X = strOfNums x) (hx : plainW x) (h : PR w0 b off cap ms p w i) : Calls Tryz.prog 101 #[.pointer (some ⟨p, 0, none⟩), .string X] w fun e w' => e = .returned (.bool (isM (stA ms i) x)) ∧ Below w.heap.size w w' := by
  have HN := hid (nextW w0 b off cap ms p w i h)
  have HS : Hid (((strOfNums (hdM (stA ms i)).s).toList == X.toList) = isM (stA ms i) x) := hid (by rw [hX, str_eq h.okW.bd hx.1, is_plain rfl h.okW hx])
  clear h hX hx
  generalize isM (stA ms i) x = t at *
  go_enter Tryz.func101, Tryz.ntmps101
  go_wp2_with fail
  refine HN.out.mono ?_
  rintro e w1 ⟨⟨sa, sc, rfl, hr⟩, hb1⟩
  replace hb1 := hid hb1
  clear hr HN
  generalize hdM (stA ms i) = m at *
  obtain ⟨kind, s, n, bb, line, col⟩ := m
  dsimp only at *
  have hs := HS.out
  have hf := wordF1
  go_wp2
  go_ret
  exact ⟨rfl, hb1.out⟩
theorem placeOfW (m : Mw) (sa : Option Addr) (sc : Nat) : Calls Tryz.prog 100 #[.agg #[.int .i64 m.kind, .string (strOfNums m.s), .int .u64 m.n, .slice sa m.b.length sc, .int .i64 m.line, .int .i64 m.col]] w fun e w' => e = .returned (.agg #[.int .i64 m.line, .int .i64 m.col]) ∧ Below w.heap.size w w' := by
  obtain ⟨kind, ms, n, bb, line, col⟩ := m
  dsimp only
  go_enter Tryz.func100, Tryz.ntmps100
  go_wp2
  exact bodyPost_ret (v := .agg #[.int .i64 line, .int .i64 col]) (by simp [results, Tryz.results100, go_sem]) rfl ⟨rfl, by exact blBy⟩
theorem giveUpW (c : Int) (h : PR w0 b off cap ms p w i) : Calls Tryz.prog 79 #[.pointer (some ⟨p, 0, none⟩), .int .i64 c] w fun e w' => e = .panicked [{ v := .iface 28 (.agg #[.int .i64 c, .int .i64 0, .int .i64 (hdM (stA ms i)).line, .int .i64 (hdM (stA ms i)).col]), recovered := false }] ∧ Below w.heap.size w w' := by
  have HN := hid (nextW w0 b off cap ms p w i h)
  clear h
  generalize hdM (stA ms i) = m at *
  obtain ⟨kind, s, n, bb, line, col⟩ := m
  dsimp only at *
  go_enter Tryz.func79, Tryz.ntmps79
  go_wp2_with fail
  refine HN.out.mono ?_
  rintro e w1 ⟨⟨sa, sc, rfl, hr⟩, hb1⟩
  replace hb1 := hid hb1
  clear hr HN
  go_wp2
  exact ⟨rfl, rfl, by have := hb1.out; exact blBy⟩
/-- A word is passed. -/
theorem passPW (hk : (hdM (stA ms i)).kind ≠ 5) (h : PR w0 b off cap ms p w i) : Calls Tryz.prog 117 #[.pointer (some ⟨p, 0, none⟩)] w fun e w' => (∃ sa sc, e = .returned (.agg #[.int .i64 (hdM (stA ms i)).kind, .string (strOfNums (hdM (stA ms i)).s), .int .u64 (hdM (stA ms i)).n, .slice sa (hdM (stA ms i)).b.length sc, .int .i64 (hdM (stA ms i)).line, .int .i64 (hdM (stA ms i)).col]) ∧ Hid (Reads w0 sa (hdM (stA ms i)).b.length sc (hdM (stA ms i)).b) ∧ Hid (PR w0 b off cap ms p w' (i + 1))) ∧ Keep (· ≠ p) w w' := by
  have hpl : p < w.heap.size := h.blk.lt
  have HN := hid (fun W (g : PR w0 b off cap ms p W i) => nextW w0 b off cap ms p W i g)
  have HW := hid h
  have HT : Hid (Ws (ms.drop (i + 1))) := hid (by have := h.ws.tail hk; rwa [List.tail_drop] at this)
  have hii : (i : Int) + 1 ≤ 9223372036854775807 := by have := h.lt; have := h.len; omega
  clear h hk
  generalize hdM (stA ms i) = m at *
  obtain ⟨kind, s, n, bb, line, col⟩ := m
  dsimp only at *
  go_enter Tryz.func117, Tryz.ntmps117
  go_wp2_with fail
  refine (HN.out _ (HW.out.kept (by exact blBy))).mono ?_
  rintro e w1 ⟨⟨sa, sc, rfl, hr⟩, hb1⟩
  have HP := hid (HW.out.kept (bl_then (by exact blBy) hb1))
  have Bp := HP.out.blk
  have xp := Bp.cellF
  have yp := Bp.frz
  have hs1 := hb1.size
  simp at hs1
  have zp : p < w1.heap.size := by omega
  have zr : w.heap.size < w1.heap.size := by omega
  obtain ⟨xr, yr⟩ := bcell hb1 (p := w.heap.size) (by first | (simp; done) | (simp; omega) | omega)
  replace hb1 : Hid (Below w.heap.size w w1) := hid (bl_then (by exact blBy) hb1)
  go_wp2
  have hlt : i + 1 < ms.length := by
    rcases Nat.lt_or_ge (i + 1) ms.length with h | h
    · exact h
    · obtain ⟨x, r, e⟩ := HT.out.ne; rw [List.drop_eq_nil_of_le h] at e; cases e
  exact bodyPost_ret (v := .agg #[.int .i64 kind, .string (strOfNums s), .int .u64 n, .slice sa bb.length sc, .int .i64 line, .int .i64 col]) (by simp [results, Tryz.results117, go_sem, xr, zr]) rfl ⟨⟨sa, sc, rfl, hr, hid (PR.step HW.out (by have := Keep.ofBelow (f := (· ≠ p)) hb1.out; exact kpBy) (((((((((Bp.set 1 _).other (show p ≠ w.heap.size by omega) _).other (show p ≠ w.heap.size by omega) _).other (show p ≠ w.heap.size by omega) _).other (show p ≠ w.heap.size by omega) _).other (show p ≠ w.heap.size by omega) _).other (show p ≠ w.heap.size by omega) _).kept (below_alloc _)).is (by simp)) HT.out hlt)⟩, by have := Keep.ofBelow (f := (· ≠ p)) hb1.out; exact kpBy⟩
end
theorem blkall5 {w : World} {p : Nat} {t : TypeId} {a0 a1 a2 a3 a4 b0 b1 b2 b3 b4 : Value} (h : Blk w p t #[a0, a1, a2, a3, a4]) : Blk (((((w.setCell ⟨p, 0, none⟩ b0).setCell ⟨p, 1, none⟩ b1).setCell ⟨p, 2, none⟩ b2).setCell ⟨p, 3, none⟩ b3).setCell ⟨p, 4, none⟩ b4) p t #[b0, b1, b2, b3, b4] :=
  (((((h.set 0 _).set 1 _).set 2 _).set 3 _).set 4 _).is (by simp)
theorem blkoth5 {w : World} {p q : Nat} {t : TypeId} {cs : Array Value} {b0 b1 b2 b3 b4 : Value} (h : Blk w p t cs) (hq : p ≠ q) : Blk (((((w.setCell ⟨q, 0, none⟩ b0).setCell ⟨q, 1, none⟩ b1).setCell ⟨q, 2, none⟩ b2).setCell ⟨q, 3, none⟩ b3).setCell ⟨q, 4, none⟩ b4) p t cs := (((((h.other hq _).other hq _).other hq _).other hq _).other hq _)
theorem blkall9 {w : World} {p : Nat} {t : TypeId} {a0 a1 a2 a3 a4 a5 a6 a7 a8 b0 b1 b2 b3 b4 b5 b6 b7 b8 : Value} (h : Blk w p t #[a0, a1, a2, a3, a4, a5, a6, a7, a8]) : Blk (((((((((w.setCell ⟨p, 0, none⟩ b0).setCell ⟨p, 1, none⟩ b1).setCell ⟨p, 2, none⟩ b2).setCell ⟨p, 3, none⟩ b3).setCell ⟨p, 4, none⟩ b4).setCell ⟨p, 5, none⟩ b5).setCell ⟨p, 6, none⟩ b6).setCell ⟨p, 7, none⟩ b7).setCell ⟨p, 8, none⟩ b8) p t #[b0, b1, b2, b3, b4, b5, b6, b7, b8] :=
  (((((((((h.set 0 _).set 1 _).set 2 _).set 3 _).set 4 _).set 5 _).set 6 _).set 7 _).set 8 _).is (by simp)
theorem blkoth9 {w : World} {p q : Nat} {t : TypeId} {cs : Array Value} {b0 b1 b2 b3 b4 b5 b6 b7 b8 : Value} (h : Blk w p t cs) (hq : p ≠ q) : Blk (((((((((w.setCell ⟨q, 0, none⟩ b0).setCell ⟨q, 1, none⟩ b1).setCell ⟨q, 2, none⟩ b2).setCell ⟨q, 3, none⟩ b3).setCell ⟨q, 4, none⟩ b4).setCell ⟨q, 5, none⟩ b5).setCell ⟨q, 6, none⟩ b6).setCell ⟨q, 7, none⟩ b7).setCell ⟨q, 8, none⟩ b8) p t cs := (((((((((h.other hq _).other hq _).other hq _).other hq _).other hq _).other hq _).other hq _).other hq _).other hq _)
theorem blkall15 {w : World} {p : Nat} {t : TypeId} {a0 a1 a2 a3 a4 a5 a6 a7 a8 a9 a10 a11 a12 a13 a14 b0 b1 b2 b3 b4 b5 b6 b7 b8 b9 b10 b11 b12 b13 b14 : Value} (h : Blk w p t #[a0, a1, a2, a3, a4, a5, a6, a7, a8, a9, a10, a11, a12, a13, a14]) : Blk (((((((((((((((w.setCell ⟨p, 0, none⟩ b0).setCell ⟨p, 1, none⟩ b1).setCell ⟨p, 2, none⟩ b2).setCell ⟨p, 3, none⟩ b3).setCell ⟨p, 4, none⟩ b4).setCell ⟨p, 5, none⟩ b5).setCell ⟨p, 6, none⟩ b6).setCell ⟨p, 7, none⟩ b7).setCell ⟨p, 8, none⟩ b8).setCell ⟨p, 9, none⟩ b9).setCell ⟨p, 10, none⟩ b10).setCell ⟨p, 11, none⟩ b11).setCell ⟨p, 12, none⟩ b12).setCell ⟨p, 13, none⟩ b13).setCell ⟨p, 14, none⟩ b14) p t #[b0, b1, b2, b3, b4, b5, b6, b7, b8, b9, b10, b11, b12, b13, b14] :=
  (((((((((((((((h.set 0 _).set 1 _).set 2 _).set 3 _).set 4 _).set 5 _).set 6 _).set 7 _).set 8 _).set 9 _).set 10 _).set 11 _).set 12 _).set 13 _).set 14 _).is (by simp)
theorem blkoth15 {w : World} {p q : Nat} {t : TypeId} {cs : Array Value} {b0 b1 b2 b3 b4 b5 b6 b7 b8 b9 b10 b11 b12 b13 b14 : Value} (h : Blk w p t cs) (hq : p ≠ q) : Blk (((((((((((((((w.setCell ⟨q, 0, none⟩ b0).setCell ⟨q, 1, none⟩ b1).setCell ⟨q, 2, none⟩ b2).setCell ⟨q, 3, none⟩ b3).setCell ⟨q, 4, none⟩ b4).setCell ⟨q, 5, none⟩ b5).setCell ⟨q, 6, none⟩ b6).setCell ⟨q, 7, none⟩ b7).setCell ⟨q, 8, none⟩ b8).setCell ⟨q, 9, none⟩ b9).setCell ⟨q, 10, none⟩ b10).setCell ⟨q, 11, none⟩ b11).setCell ⟨q, 12, none⟩ b12).setCell ⟨q, 13, none⟩ b13).setCell ⟨q, 14, none⟩ b14) p t cs := (((((((((((((((h.other hq _).other hq _).other hq _).other hq _).other hq _).other hq _).other hq _).other hq _).other hq _).other hq _).other hq _).other hq _).other hq _).other hq _).other hq _)
theorem kpX {f : Nat → Prop} {w w' : World} {q : Nat} {b0 b1 b2 b3 b4 b5 : Value} (h : Keep f w w') (hq : ¬ f q ∨ w.heap.size ≤ q := by refine Or.inr ?_; first | (simp; done) | (simp; omega) | omega) : Keep f w ((((((w'.setCell ⟨q, 0, none⟩ b0).setCell ⟨q, 1, none⟩ b1).setCell ⟨q, 2, none⟩ b2).setCell ⟨q, 3, none⟩ b3).setCell ⟨q, 4, none⟩ b4).setCell ⟨q, 5, none⟩ b5) := (kp_set (kp_set (kp_set (kp_set (kp_set (kp_set h hq _) hq _) hq _) hq _) hq _) hq _)
theorem prX {w0 w : World} {b off cap : Nat} {ms : List Mw} {p i q : Nat} {b0 b1 b2 b3 b4 b5 : Value} (h : PR w0 b off cap ms p w i) (hq : p < q := by first | (simp; done) | (simp; omega) | omega) : PR w0 b off cap ms p ((((((w.setCell ⟨q, 0, none⟩ b0).setCell ⟨q, 1, none⟩ b1).setCell ⟨q, 2, none⟩ b2).setCell ⟨q, 3, none⟩ b3).setCell ⟨q, 4, none⟩ b4).setCell ⟨q, 5, none⟩ b5) i := ((((((h.set hq _).set hq _).set hq _).set hq _).set hq _).set hq _)
theorem kpN {f : Nat → Prop} {w w' : World} {q : Nat} {b0 b1 b2 b3 b4 b5 b6 b7 b8 : Value} (h : Keep f w w') (hq : ¬ f q ∨ w.heap.size ≤ q := by refine Or.inr ?_; first | (simp; done) | (simp; omega) | omega) : Keep f w (((((((((w'.setCell ⟨q, 0, none⟩ b0).setCell ⟨q, 1, none⟩ b1).setCell ⟨q, 2, none⟩ b2).setCell ⟨q, 3, none⟩ b3).setCell ⟨q, 4, none⟩ b4).setCell ⟨q, 5, none⟩ b5).setCell ⟨q, 6, none⟩ b6).setCell ⟨q, 7, none⟩ b7).setCell ⟨q, 8, none⟩ b8) := (kp_set (kp_set (kp_set (kp_set (kp_set (kp_set (kp_set (kp_set (kp_set h hq _) hq _) hq _) hq _) hq _) hq _) hq _) hq _) hq _)
theorem prN {w0 w : World} {b off cap : Nat} {ms : List Mw} {p i q : Nat} {b0 b1 b2 b3 b4 b5 b6 b7 b8 : Value} (h : PR w0 b off cap ms p w i) (hq : p < q := by first | (simp; done) | (simp; omega) | omega) : PR w0 b off cap ms p (((((((((w.setCell ⟨q, 0, none⟩ b0).setCell ⟨q, 1, none⟩ b1).setCell ⟨q, 2, none⟩ b2).setCell ⟨q, 3, none⟩ b3).setCell ⟨q, 4, none⟩ b4).setCell ⟨q, 5, none⟩ b5).setCell ⟨q, 6, none⟩ b6).setCell ⟨q, 7, none⟩ b7).setCell ⟨q, 8, none⟩ b8) i := (((((((((h.set hq _).set hq _).set hq _).set hq _).set hq _).set hq _).set hq _).set hq _).set hq _)
theorem kpF {f : Nat → Prop} {w w' : World} {q : Nat} {b0 b1 b2 b3 b4 b5 b6 b7 b8 b9 b10 b11 b12 b13 b14 : Value} (h : Keep f w w') (hq : ¬ f q ∨ w.heap.size ≤ q := by refine Or.inr ?_; first | (simp; done) | (simp; omega) | omega) : Keep f w (((((((((((((((w'.setCell ⟨q, 0, none⟩ b0).setCell ⟨q, 1, none⟩ b1).setCell ⟨q, 2, none⟩ b2).setCell ⟨q, 3, none⟩ b3).setCell ⟨q, 4, none⟩ b4).setCell ⟨q, 5, none⟩ b5).setCell ⟨q, 6, none⟩ b6).setCell ⟨q, 7, none⟩ b7).setCell ⟨q, 8, none⟩ b8).setCell ⟨q, 9, none⟩ b9).setCell ⟨q, 10, none⟩ b10).setCell ⟨q, 11, none⟩ b11).setCell ⟨q, 12, none⟩ b12).setCell ⟨q, 13, none⟩ b13).setCell ⟨q, 14, none⟩ b14) := (kp_set (kp_set (kp_set (kp_set (kp_set (kp_set (kp_set (kp_set (kp_set (kp_set (kp_set (kp_set (kp_set (kp_set (kp_set h hq _) hq _) hq _) hq _) hq _) hq _) hq _) hq _) hq _) hq _) hq _) hq _) hq _) hq _) hq _)
theorem prF {w0 w : World} {b off cap : Nat} {ms : List Mw} {p i q : Nat} {b0 b1 b2 b3 b4 b5 b6 b7 b8 b9 b10 b11 b12 b13 b14 : Value} (h : PR w0 b off cap ms p w i) (hq : p < q := by first | (simp; done) | (simp; omega) | omega) : PR w0 b off cap ms p (((((((((((((((w.setCell ⟨q, 0, none⟩ b0).setCell ⟨q, 1, none⟩ b1).setCell ⟨q, 2, none⟩ b2).setCell ⟨q, 3, none⟩ b3).setCell ⟨q, 4, none⟩ b4).setCell ⟨q, 5, none⟩ b5).setCell ⟨q, 6, none⟩ b6).setCell ⟨q, 7, none⟩ b7).setCell ⟨q, 8, none⟩ b8).setCell ⟨q, 9, none⟩ b9).setCell ⟨q, 10, none⟩ b10).setCell ⟨q, 11, none⟩ b11).setCell ⟨q, 12, none⟩ b12).setCell ⟨q, 13, none⟩ b13).setCell ⟨q, 14, none⟩ b14) i := (((((((((((((((h.set hq _).set hq _).set hq _).set hq _).set hq _).set hq _).set hq _).set hq _).set hq _).set hq _).set hq _).set hq _).set hq _).set hq _).set hq _)
set_option linter.unusedSimpArgs false
section
variable (w0 : World) (b off cap : Nat) (ms : List Mw) (p : Nat) (w : World) (i : Nat)
theorem skipW (X : ByteArray) (x : List Int) (hX : X = strOfNums x) (hx : plainW x) (h : PR w0 b off cap ms p w i) : Calls Tryz.prog 98 #[.pointer (some ⟨p, 0, none⟩), .string X] w fun e w' => Keep (· ≠ p) w w' ∧ ((∃ j sa sc, Hid (eatM (stA ms i) x = stA ms j) ∧ e = .returned (.agg #[.int .i64 (hdM (stA ms i)).kind, .string (strOfNums (hdM (stA ms i)).s), .int .u64 (hdM (stA ms i)).n, .slice sa (hdM (stA ms i)).b.length sc, .int .i64 (hdM (stA ms i)).line, .int .i64 (hdM (stA ms i)).col]) ∧ Hid (PR w0 b off cap ms p w' j)) ∨ Fell (eatM (stA ms i) x) e) := by
  have HN := hid (fun W (g : PR w0 b off cap ms p W i) => isNextW w0 b off cap ms p W i X x hX hx g)
  have HG := hid (fun W (g : PR w0 b off cap ms p W i) => giveUpW w0 b off cap ms p W i 11 g)
  cases hi : isM (stA ms i) x with
  | true =>
    have HE : Hid (eatM (stA ms i) x = stA ms (i + 1)) := hid (by unfold eatM; rw [if_pos (show (stA ms i).cd = 0 from rfl), if_pos hi, nxM_stA])
    have HP := hid (fun W (g : PR w0 b off cap ms p W i) => passPW w0 b off cap ms p W i (by have := (is_parts hi).2.1; omega) g)
    rw [hi] at HN
    clear hX hx hi HG
    have hk0 : Hid (Keep (· ≠ p) w w) := hid (Keep.refl _ _)
    have hpl : p < w.heap.size := h.blk.lt
    have HR0 := hid h
    clear h
    generalize hdM (stA ms i) = m at *
    go_enter Tryz.func98, Tryz.ntmps98
    go_wp2_with fail
    refine (HN.out _ (by have := HR0.out; exact prBy)).mono ?_
    rintro e w1 ⟨rfl, hb1⟩
    have hK1 := Keep.ofBelow (f := (· ≠ p)) hb1
    have HR1 : Hid (PR w0 b off cap ms p w1 (i)) := hid (PR.kept (by have := HR0.out; exact prBy) hb1)
    clear hb1
    have Br : Blk w1 (w.heap.size) 159 #[.int .i64 0, .string ⟨#[]⟩, .int .u64 0, .slice none 0 0, .int .i64 0, .int .i64 0] := Blk.keep ((Blk.newAt (by simp)).is (by first | rfl | simp)) hK1 (show w.heap.size ≠ p by omega)
    have hs1 := hK1.size
    try simp at hs1
    have xr := Br.cellF
    have yr := Br.frz
    have zr : w.heap.size < w1.heap.size := by omega
    have hp1 : p < w1.heap.size := by omega
    have hq1 : w.heap.size ≤ w1.heap.size := by omega
    have hk1 : Hid (Keep (· ≠ p) w w1) := hid (Keep.trans (by have := hk0.out; exact kpBy) hK1)
    clear hK1
    go_wp2_with fail
    refine (HP.out _ (by have := HR1.out; exact prBy)).mono ?_
    rintro e w2 ⟨⟨sa, sc, rfl, hr, HR2⟩, hK2⟩
    replace Br : Blk w2 (w.heap.size) 159 #[.int .i64 0, .string ⟨#[]⟩, .int .u64 0, .slice none 0 0, .int .i64 0, .int .i64 0] := Blk.keep (Br.is (by first | rfl | simp)) hK2 (show w.heap.size ≠ p by omega)
    clear xr yr
    have hs2 := hK2.size
    try simp at hs2
    have xr := Br.cellF
    have yr := Br.frz
    replace zr : w.heap.size < w2.heap.size := by omega
    have hp2 : p < w2.heap.size := by omega
    have hq2 : w.heap.size ≤ w2.heap.size := by omega
    have hk2 : Hid (Keep (· ≠ p) w w2) := hid (Keep.trans (by have := hk1.out; exact kpBy) hK2)
    clear hK2
    go_wp2
    exact bodyPost_ret (v := .agg #[.int .i64 m.kind, .string (strOfNums m.s), .int .u64 m.n, .slice sa m.b.length sc, .int .i64 m.line, .int .i64 m.col]) (by simp [results, Tryz.results98, go_sem, xr, zr]) rfl ⟨by have := hk2.out; exact kpBy, .inl ⟨i + 1, sa, sc, HE, rfl, hid (by have := HR2.out; exact prBy)⟩⟩
  | false =>
    have HE : Hid (eatM (stA ms i) x = ⟨ms.drop i, 11, (hdM (stA ms i)).line, (hdM (stA ms i)).col⟩) := hid (by unfold eatM badM; rw [if_pos (show (stA ms i).cd = 0 from rfl), if_neg (by rw [hi]; simp), if_pos (show (stA ms i).cd = 0 from rfl)]; rfl)
    rw [hi] at HN
    clear hX hx hi
    have hk0 : Hid (Keep (· ≠ p) w w) := hid (Keep.refl _ _)
    have hpl : p < w.heap.size := h.blk.lt
    have HR0 := hid h
    clear h
    generalize hdM (stA ms i) = m at *
    go_enter Tryz.func98, Tryz.ntmps98
    go_wp2_with fail
    refine (HN.out _ (by have := HR0.out; exact prBy)).mono ?_
    rintro e w1 ⟨rfl, hb1⟩
    have hK1 := Keep.ofBelow (f := (· ≠ p)) hb1
    have HR1 : Hid (PR w0 b off cap ms p w1 (i)) := hid (PR.kept (by have := HR0.out; exact prBy) hb1)
    clear hb1
    have Br : Blk w1 (w.heap.size) 159 #[.int .i64 0, .string ⟨#[]⟩, .int .u64 0, .slice none 0 0, .int .i64 0, .int .i64 0] := Blk.keep ((Blk.newAt (by simp)).is (by first | rfl | simp)) hK1 (show w.heap.size ≠ p by omega)
    have hs1 := hK1.size
    try simp at hs1
    have xr := Br.cellF
    have yr := Br.frz
    have zr : w.heap.size < w1.heap.size := by omega
    have hp1 : p < w1.heap.size := by omega
    have hq1 : w.heap.size ≤ w1.heap.size := by omega
    have hk1 : Hid (Keep (· ≠ p) w w1) := hid (Keep.trans (by have := hk0.out; exact kpBy) hK1)
    clear hK1
    go_wp2_with fail
    refine (HG.out _ (by have := HR1.out; exact prBy)).mono ?_
    rintro e w2 ⟨rfl, hb2⟩
    have hk2 := hid (Keep.trans (by have := hk1.out; exact kpBy : Keep (· ≠ p) w _) (Keep.ofBelow hb2))
    clear hb2
    go_wp2
    exact ⟨rfl, by have := hk2.out; exact kpBy, .inr ⟨by rw [HE.out]; exact (by decide : (11 : Int) ≠ 0), by rw [HE.out]⟩⟩
theorem takeW (k : Int) (hk5 : k ≠ 5) (h : PR w0 b off cap ms p w i) : Calls Tryz.prog 99 #[.pointer (some ⟨p, 0, none⟩), .int .i64 k] w fun e w' => Keep (· ≠ p) w w' ∧ ((∃ j m sa sc, Hid ((takeM (stA ms i) k).2 = stA ms j) ∧ Hid (m = (takeM (stA ms i) k).1) ∧ e = .returned (.agg #[.int .i64 m.kind, .string (strOfNums m.s), .int .u64 m.n, .slice sa m.b.length sc, .int .i64 m.line, .int .i64 m.col]) ∧ Hid (Reads w0 sa m.b.length sc m.b) ∧ Hid (okW m) ∧ Hid (PR w0 b off cap ms p w' j)) ∨ Fell (takeM (stA ms i) k).2 e) := by
  have HN := hid (fun W (g : PR w0 b off cap ms p W i) => nextW w0 b off cap ms p W i g)
  have HG := hid (fun W (g : PR w0 b off cap ms p W i) => giveUpW w0 b off cap ms p W i 11 g)
  have hf := wordF0
  have HO := hid h.okW
  by_cases hi : (hdM (stA ms i)).kind = k
  · have HE : Hid (takeM (stA ms i) k = (hdM (stA ms i), stA ms (i + 1))) := hid (by unfold takeM; rw [if_pos (show (stA ms i).cd = 0 from rfl), if_pos hi, nxM_stA])
    have HP := hid (fun W (g : PR w0 b off cap ms p W i) => passPW w0 b off cap ms p W i (by omega) g)
    have hi2 : ((hdM (stA ms i)).kind == k) = true := by simpa using hi
    clear hk5 HG hi
    have hk0 : Hid (Keep (· ≠ p) w w) := hid (Keep.refl _ _)
    have hpl : p < w.heap.size := h.blk.lt
    have HR0 := hid h
    clear h
    generalize hdM (stA ms i) = m at *
    go_enter Tryz.func99, Tryz.ntmps99
    go_wp2_with fail
    refine (HN.out _ (by have := HR0.out; exact prBy)).mono ?_
    rintro e w1 ⟨⟨ra, rc, rfl, hr0⟩, hb1⟩
    have hK1 := Keep.ofBelow (f := (· ≠ p)) hb1
    have HR1 : Hid (PR w0 b off cap ms p w1 (i)) := hid (PR.kept (by have := HR0.out; exact prBy) hb1)
    clear hb1
    have Br : Blk w1 (w.heap.size) 159 #[.int .i64 0, .string ⟨#[]⟩, .int .u64 0, .slice none 0 0, .int .i64 0, .int .i64 0] := Blk.keep ((Blk.newAt (by simp)).is (by first | rfl | simp)) hK1 (show w.heap.size ≠ p by omega)
    have hs1 := hK1.size
    try simp at hs1
    have xr := Br.cellF
    have yr := Br.frz
    have zr : w.heap.size < w1.heap.size := by omega
    have hp1 : p < w1.heap.size := by omega
    have hq1 : w.heap.size ≤ w1.heap.size := by omega
    have hk1 : Hid (Keep (· ≠ p) w w1) := hid (Keep.trans (by have := hk0.out; exact kpBy) hK1)
    clear hK1
    go_wp2_with fail
    refine (HP.out _ (by have := HR1.out; exact prBy)).mono ?_
    rintro e w2 ⟨⟨sa, sc, rfl, hr, HR2⟩, hK2⟩
    replace Br : Blk w2 (w.heap.size) 159 #[.int .i64 0, .string ⟨#[]⟩, .int .u64 0, .slice none 0 0, .int .i64 0, .int .i64 0] := Blk.keep (Br.is (by first | rfl | simp)) hK2 (show w.heap.size ≠ p by omega)
    clear xr yr
    have hs2 := hK2.size
    try simp at hs2
    have xr := Br.cellF
    have yr := Br.frz
    replace zr : w.heap.size < w2.heap.size := by omega
    have hp2 : p < w2.heap.size := by omega
    have hq2 : w.heap.size ≤ w2.heap.size := by omega
    have hk2 : Hid (Keep (· ≠ p) w w2) := hid (Keep.trans (by have := hk1.out; exact kpBy) hK2)
    clear hK2
    go_wp2
    exact bodyPost_ret (v := .agg #[.int .i64 m.kind, .string (strOfNums m.s), .int .u64 m.n, .slice sa m.b.length sc, .int .i64 m.line, .int .i64 m.col]) (by simp [results, Tryz.results99, go_sem, xr, zr]) rfl ⟨by have := hk2.out; exact kpBy, .inl ⟨i + 1, m, sa, sc, hid (by rw [HE.out]), hid (by rw [HE.out]), rfl, hr, HO, hid (by have := HR2.out; exact prBy)⟩⟩
  · have HE : Hid ((takeM (stA ms i) k).2 = ⟨ms.drop i, 11, (hdM (stA ms i)).line, (hdM (stA ms i)).col⟩) := hid (by unfold takeM badM; rw [if_pos (show (stA ms i).cd = 0 from rfl), if_neg hi]; simp only []; rw [if_pos (show (stA ms i).cd = 0 from rfl)]; rfl)
    have hi2 : ((hdM (stA ms i)).kind == k) = false := by simpa using hi
    clear hk5 hi
    have hk0 : Hid (Keep (· ≠ p) w w) := hid (Keep.refl _ _)
    have hpl : p < w.heap.size := h.blk.lt
    have HR0 := hid h
    clear h
    generalize hdM (stA ms i) = m at *
    go_enter Tryz.func99, Tryz.ntmps99
    go_wp2_with fail
    refine (HN.out _ (by have := HR0.out; exact prBy)).mono ?_
    rintro e w1 ⟨⟨ra, rc, rfl, hr0⟩, hb1⟩
    have hK1 := Keep.ofBelow (f := (· ≠ p)) hb1
    have HR1 : Hid (PR w0 b off cap ms p w1 (i)) := hid (PR.kept (by have := HR0.out; exact prBy) hb1)
    clear hb1
    have Br : Blk w1 (w.heap.size) 159 #[.int .i64 0, .string ⟨#[]⟩, .int .u64 0, .slice none 0 0, .int .i64 0, .int .i64 0] := Blk.keep ((Blk.newAt (by simp)).is (by first | rfl | simp)) hK1 (show w.heap.size ≠ p by omega)
    have hs1 := hK1.size
    try simp at hs1
    have xr := Br.cellF
    have yr := Br.frz
    have zr : w.heap.size < w1.heap.size := by omega
    have hp1 : p < w1.heap.size := by omega
    have hq1 : w.heap.size ≤ w1.heap.size := by omega
    have hk1 : Hid (Keep (· ≠ p) w w1) := hid (Keep.trans (by have := hk0.out; exact kpBy) hK1)
    clear hK1
    go_wp2_with fail
    refine (HG.out _ (by have := HR1.out; exact prBy)).mono ?_
    rintro e w2 ⟨rfl, hb2⟩
    have hk2 := hid (Keep.trans (by have := hk1.out; exact kpBy : Keep (· ≠ p) w _) (Keep.ofBelow hb2))
    clear hb2
    go_wp2
    exact ⟨rfl, by have := hk2.out; exact kpBy, .inr ⟨by rw [HE.out]; exact (by decide : (11 : Int) ≠ 0), by rw [HE.out]⟩⟩
end
set_option maxHeartbeats 8000000
theorem plain_eq : plainW [61] := ⟨by decide, 61, [], rfl, by decide, by decide⟩
theorem plain_sc : plainW [59] := ⟨by decide, 59, [], rfl, by decide, by decide⟩
theorem plain_to : plainW [116, 111] := ⟨by decide, 116, [111], rfl, by decide, by decide⟩
section
variable (w0 : World) (b off cap : Nat) (ms : List Mw) (p : Nat) (w : World) (i : Nat)
theorem numberedW (h : PR w0 b off cap ms p w i) : Calls Tryz.prog 123 #[.pointer (some ⟨p, 0, none⟩)] w fun e w' => Keep (· ≠ p) w w' ∧ ((∃ j m n sa sc ta tc, Hid ((namM (stA ms i)).2.2 = stA ms j) ∧ Hid (m = (namM (stA ms i)).1) ∧ Hid (n = (namM (stA ms i)).2.1) ∧ e = .returned (.tuple #[.agg #[.int .i64 m.kind, .string (strOfNums m.s), .int .u64 m.n, .slice sa m.b.length sc, .int .i64 m.line, .int .i64 m.col], .agg #[.int .i64 n.kind, .string (strOfNums n.s), .int .u64 n.n, .slice ta n.b.length tc, .int .i64 n.line, .int .i64 n.col]]) ∧ Hid (okW m) ∧ Hid (okW n) ∧ Hid (PR w0 b off cap ms p w' j)) ∨ Fell (namM (stA ms i)).2.2 e) := by
  have hk0 : Hid (Keep (· ≠ p) w w) := hid (Keep.refl _ _)
  have hpl : p < w.heap.size := h.blk.lt
  have HR0 := hid h
  clear h
  go_enter Tryz.func123, Tryz.ntmps123
  go_wp2_with fail
  refine (takeW w0 b off cap ms p _ i 1 (by decide) (by have := HR0.out; exact prBy)).mono ?_
  rintro e w1 ⟨hK1, (⟨j1, m1, sa, sc, he1, hm1, rfl, hr1, ho1, HR1⟩ | ⟨hcd, rfl⟩)⟩
  case inr =>
    have hk1 : Hid (Keep (· ≠ p) w w1) := hid (Keep.trans (by have := hk0.out; exact kpBy) hK1)
    clear hK1
    go_wp2
    exact ⟨rfl, by have := hk1.out; exact kpBy, .inr (by rw [show (namM (stA ms i)).2.2 = (takeM (stA ms i) 1).2 by unfold namM; simp only [eat_bad hcd, take_bad hcd]]; exact ⟨hcd, rfl⟩)⟩
  have Br1 : Blk w1 (w.heap.size) 159 #[.int .i64 0, .string ⟨#[]⟩, .int .u64 0, .slice none 0 0, .int .i64 0, .int .i64 0] := Blk.keep (((Blk.newAt (by simp)).kept (below_alloc _)).is (by first | rfl | simp)) hK1 (show w.heap.size ≠ p by omega)
  have Br2 : Blk w1 (w.heap.size + 1) 159 #[.int .i64 0, .string ⟨#[]⟩, .int .u64 0, .slice none 0 0, .int .i64 0, .int .i64 0] := Blk.keep ((Blk.newAt (by simp)).is (by first | rfl | simp)) hK1 (show w.heap.size + 1 ≠ p by omega)
  have hs1 := hK1.size
  try simp at hs1
  have xr1 := Br1.cellF
  have yr1 := Br1.frz
  have zr1 : w.heap.size < w1.heap.size := by omega
  have xr2 := Br2.cellF
  have yr2 := Br2.frz
  have zr2 : w.heap.size + 1 < w1.heap.size := by omega
  have hp1 : p < w1.heap.size := by omega
  have hq1 : w.heap.size ≤ w1.heap.size := by omega
  have hk1 : Hid (Keep (· ≠ p) w w1) := hid (Keep.trans (by have := hk0.out; exact kpBy) hK1)
  clear hK1
  go_wp2_with fail
  refine (skipW w0 b off cap ms p _ j1 ⟨#[61]⟩ [61] rfl plain_eq (by have := HR1.out; exact prBy)).mono ?_
  rintro e w2 ⟨hK2, (⟨j2, ua, uc, he2, rfl, HR2⟩ | ⟨hcd, rfl⟩)⟩
  case inr =>
    have hk2 : Hid (Keep (· ≠ p) w w2) := hid (Keep.trans (by have := hk1.out; exact kpBy) hK2)
    clear hK2
    go_wp2
    exact ⟨rfl, by have := hk2.out; exact kpBy, .inr (by rw [show (namM (stA ms i)).2.2 = eatM (stA ms j1) [61] by unfold namM; rw [he1.out]; simp only [take_bad hcd]]; exact ⟨hcd, rfl⟩)⟩
  replace Br1 : Blk w2 (w.heap.size) 159 #[.int .i64 m1.kind, .string (strOfNums m1.s), .int .u64 m1.n, .slice sa m1.b.length sc, .int .i64 m1.line, .int .i64 m1.col] := Blk.keep (((((((Br1.set 0 _).set 1 _).set 2 _).set 3 _).set 4 _).set 5 _).is (by first | rfl | simp)) hK2 (show w.heap.size ≠ p by omega)
  replace Br2 : Blk w2 (w.heap.size + 1) 159 #[.int .i64 0, .string ⟨#[]⟩, .int .u64 0, .slice none 0 0, .int .i64 0, .int .i64 0] := Blk.keep (((((((Br2.other (show w.heap.size + 1 ≠ w.heap.size by omega) _).other (show w.heap.size + 1 ≠ w.heap.size by omega) _).other (show w.heap.size + 1 ≠ w.heap.size by omega) _).other (show w.heap.size + 1 ≠ w.heap.size by omega) _).other (show w.heap.size + 1 ≠ w.heap.size by omega) _).other (show w.heap.size + 1 ≠ w.heap.size by omega) _).is (by first | rfl | simp)) hK2 (show w.heap.size + 1 ≠ p by omega)
  clear xr1 yr1 xr2 yr2
  have hs2 := hK2.size
  try simp at hs2
  have xr1 := Br1.cellF
  have yr1 := Br1.frz
  replace zr1 : w.heap.size < w2.heap.size := by omega
  have xr2 := Br2.cellF
  have yr2 := Br2.frz
  replace zr2 : w.heap.size + 1 < w2.heap.size := by omega
  have hp2 : p < w2.heap.size := by omega
  have hq2 : w.heap.size ≤ w2.heap.size := by omega
  have hk2 : Hid (Keep (· ≠ p) w w2) := hid (Keep.trans (by have := hk1.out; exact kpBy) hK2)
  clear hK2
  go_wp2_with fail
  go_region_with (go_at_call 99; refine (takeW w0 b off cap ms p _ j2 2 (by decide) (by have := HR2.out; exact prBy)).mono ?_; rintro e w3 ⟨hK3, (⟨j3, m3, ta, tc, he3, hm3, rfl, hr3, ho3, HR3⟩ | ⟨hcd, rfl⟩)⟩; rotate_left; (have hk3 := hid (Keep.trans (by have := hk2.out; exact kpBy : Keep (· ≠ p) w _) hK3)); (exact ⟨rfl, by have := hk3.out; exact kpBy, .inr (by rw [show (namM (stA ms i)).2.2 = (takeM (stA ms j2) 2).2 by unfold namM; rw [he1.out, he2.out]]; exact ⟨hcd, rfl⟩)⟩); have Dr1 : Hid (Blk w3 (w.heap.size) 159 #[.int .i64 m1.kind, .string (strOfNums m1.s), .int .u64 m1.n, .slice sa m1.b.length sc, .int .i64 m1.line, .int .i64 m1.col]) := hid (Blk.keep (by first | exact Br1 | exact Br1.kept (below_drew1 _)) hK3 (show w.heap.size ≠ p by omega)); have dxr1 := Dr1.out.cellF; have dyr1 := Dr1.out.frz; have Dr2 : Hid (Blk w3 (w.heap.size + 1) 159 #[.int .i64 0, .string ⟨#[]⟩, .int .u64 0, .slice none 0 0, .int .i64 0, .int .i64 0]) := hid (Blk.keep (by first | exact Br2 | exact Br2.kept (below_drew1 _)) hK3 (show w.heap.size + 1 ≠ p by omega)); have dxr2 := Dr2.out.cellF; have dyr2 := Dr2.out.frz; have hs3 := hK3.size; (try simp at hs3); have hp3 : p < w3.heap.size := (by omega); have hq3 : w.heap.size ≤ w3.heap.size := (by omega); have dzr1 : w.heap.size < w3.heap.size := (by omega); have dzr2 : w.heap.size + 1 < w3.heap.size := (by omega); have hk3 := hid (Keep.trans (by have := hk2.out; exact kpBy : Keep (· ≠ p) w _) hK3); clear hK3)
  all_goals go_wp2
  all_goals exact bodyPost_ret (v := .tuple #[.agg #[.int .i64 m1.kind, .string (strOfNums m1.s), .int .u64 m1.n, .slice sa m1.b.length sc, .int .i64 m1.line, .int .i64 m1.col], .agg #[.int .i64 m3.kind, .string (strOfNums m3.s), .int .u64 m3.n, .slice ta m3.b.length tc, .int .i64 m3.line, .int .i64 m3.col]]) (by simp [results, Tryz.results123, go_sem, dxr1, dxr2]) rfl ⟨by have := hk3.out; exact kpBy, .inl ⟨j3, m1, m3, sa, sc, ta, tc, hid (by unfold namM; rw [he1.out, he2.out]; exact he3.out), hid (by rw [hm1.out]; rfl), hid (by rw [hm3.out]; unfold namM; rw [he1.out, he2.out]), rfl, ho1, ho3, hid (by have := HR3.out; exact prBy)⟩⟩
end
end Go.Proofs.YtidimdbnnnpplaaGreatDoor
