/-
  The document's small forms over the words that are left.
  The document's take: a word of a kind.
  The document's forms: a type, a name and its number.
  The reader of the program parse: its block of two cells; its small calls.
  Stores of whole structs.
  The reader of the program parse: a word that stands for itself, a word of a kind.
-/
import Derived.Test.YtidimdbnnnpplaaDoorCPA
namespace Go.Proofs.YtidimdbnnnpplaaDoor
open Go.RowKit
set_option maxRecDepth 1000000
set_option linter.unusedVariables false
set_option maxHeartbeats 4000000

/-- The words that are left, as the document's functions hand them on. -/
structure StR (w0 : World) (b off cap : Nat) (s : PS) : Prop where
  rd : ReadsW w0 (some ⟨b, off, none⟩) s.l.length cap s.l
  ws : Ws s.l
theorem cell_below {w0 w : World} {p : Addr} {v : Value} (h : w0.cell? p = some v) (hb : Below w0.heap.size w0 w) : w.cell? p = some v := by
  rw [hb.cell (World.block_lt_of_cell? _ _ h)]; exact h
section
variable {w0 w : World} {b off cap : Nat} {s : PS}
theorem StR.head (h : StR w0 b off cap s) (hb : Below w0.heap.size w0 w) : ∃ sa sc, w.cell? ⟨b, off, none⟩ = some (.int .i64 (hdM s).kind) ∧ w.cell? ⟨b, off + 1, none⟩ = some (.string (strOfNums (hdM s).s)) ∧ w.cell? ⟨b, off + 2, none⟩ = some (.int .u64 (hdM s).n) ∧
    w.cell? ⟨b, off + 3, none⟩ = some (.slice sa (hdM s).b.length sc) ∧ w.cell? ⟨b, off + 4, none⟩ = some (.int .i64 (hdM s).line) ∧ w.cell? ⟨b, off + 5, none⟩ = some (.int .i64 (hdM s).col) ∧ Reads w0 sa (hdM s).b.length sc (hdM s).b ∧ b < w0.heap.size := by
  obtain ⟨x, r, e⟩ := h.ws.ne
  have hx : s.l[0]? = some x := by rw [e]; rfl
  have hh : hdM s = x := by unfold hdM; rw [e]; rfl
  rcases h.rd.cells with ⟨h0, _⟩ | ⟨b', off', e', hc⟩
  · rw [e] at h0; simp at h0
  · cases e'
    obtain ⟨sa, sc, c0, c1, c2, c3, c4, c5, hr⟩ := hc 0 x hx
    simp only [Nat.zero_mul, Nat.add_zero] at c0 c1 c2 c3 c4 c5
    rw [hh]
    exact ⟨sa, sc, cell_below c0 hb, cell_below c1 hb, cell_below c2 hb, cell_below c3 hb, cell_below c4 hb, cell_below c5 hb, hr, World.block_lt_of_cell? _ _ c0⟩
theorem StR.pos (h : StR w0 b off cap s) : 0 < s.l.length ∧ s.l.length ≤ cap ∧ cap ≤ 9223372036854775807 := by
  obtain ⟨x, r, e⟩ := h.ws.ne
  exact ⟨by rw [e]; simp, h.rd.le, h.rd.max⟩
theorem StR.next (h : StR w0 b off cap s) (hk : (hdM s).kind ≠ 5) : StR w0 b (off + 6) (cap - 1) (nxM s) := by
  have ht := h.ws.tail hk
  obtain ⟨x, r, e⟩ := h.ws.ne
  have hle := h.rd.le
  have hmx := h.rd.max
  refine ⟨⟨rfl, ?_, by omega, ?_⟩, ht⟩
  · unfold nxM; simp only [e, List.tail_cons]; rw [e] at hle; simp at hle; omega
  · rcases h.rd.cells with ⟨h0, _⟩ | ⟨b', off', e', hc⟩
    · rw [e] at h0; simp at h0
    · cases e'
      refine .inr ⟨b, off + 6, rfl, fun i y hy => ?_⟩
      have hy' : s.l[i + 1]? = some y := by rw [e]; unfold nxM at hy; rw [e] at hy; simpa using hy
      obtain ⟨sa, sc, c0, c1, c2, c3, c4, c5, hr⟩ := hc (i + 1) y hy'
      rw [show off + (i + 1) * 6 = off + 6 + i * 6 by omega] at c0 c1 c2 c3 c4 c5
      exact ⟨sa, sc, c0, c1, c2, c3, c4, c5, hr⟩
theorem StR.cds (h : StR w0 b off cap s) {s' : PS} (e : s'.l = s.l) : StR w0 b off cap s' := ⟨by rw [e]; exact h.rd, by rw [e]; exact h.ws⟩
end
theorem badM_l (s : PS) (c : Int) : (badM s c).l = s.l := by unfold badM; split <;> rfl
theorem bl_alloc {w w' : World} (h : Below w.heap.size w w') (o : Obj) : Below w.heap.size w (w'.alloc o) := h.alloc h.size o
theorem bl_set {w w' : World} {p : Addr} (h : Below w.heap.size w w') (hp : w.heap.size ≤ p.block) (v : Value) : Below w.heap.size w (w'.setCell p v) := h.setCell hp v
theorem bl_drew {w w' : World} (h : Below w.heap.size w w') : Below w.heap.size w w'.drew := ⟨h.os, h.tape, h.output, h.size, h.block⟩
theorem bl_drewN {w w' : World} (h : Below w.heap.size w w') (n : Nat) : Below w.heap.size w (w'.drewN n) := ⟨h.os, h.tape, h.output, h.size, h.block⟩
theorem Blk.newAt {w : World} {p : Nat} {t : TypeId} {cs : Array Value} (h : p = w.heap.size) : Blk (w.alloc (.cells cs t)) p t cs := h ▸ Blk.new w t cs
theorem Blk.cellF {w : World} {p : Nat} {t : TypeId} {cs : Array Value} (h : Blk w p t cs) : ∀ i, w.cell? ⟨p, i, none⟩ = cs[i]? := fun i => by
  simp [World.cell?, show w.heap[p]? = _ from h]
theorem Blk.frz {w : World} {p : Nat} {t : TypeId} {cs : Array Value} (h : Blk w p t cs) : ∀ i, w.frozen? ⟨p, i, none⟩ = false := fun i => h.frozen i
/-- What a block holds stays. -/
theorem bcell {w w' : World} (h : Below w.heap.size w w') {p : Nat} (hp : p < w.heap.size) : (∀ i, w'.cell? ⟨p, i, none⟩ = w.cell? ⟨p, i, none⟩) ∧ ∀ i, w'.frozen? ⟨p, i, none⟩ = w.frozen? ⟨p, i, none⟩ := by
  have e := h.block p hp
  exact ⟨fun i => by simp only [World.cell?]; rw [e], fun i => by simp only [World.frozen?]; rw [e]⟩
theorem bl_then {w w1 w2 : World} (h : Below w.heap.size w w1) (g : Below w1.heap.size w1 w2) : Below w.heap.size w w2 := below_trans h g
section
variable (w0 : World) (b off cap : Nat) (s : PS) (w : World)
end
end Go.Proofs.YtidimdbnnnpplaaDoor
namespace Go.Proofs.YtidimdbnnnpplaaDoor
open Go.RowKit
set_option maxRecDepth 1000000
set_option linter.unusedVariables false
set_option linter.unusedSimpArgs false
set_option maxHeartbeats 4000000

theorem reads_z (w : World) : Reads w none zM.b.length 0 zM.b := reads_nil w
section
variable (w0 : World) (b off cap : Nat) (s : PS) (w : World)
end
end Go.Proofs.YtidimdbnnnpplaaDoor
namespace Go.Proofs.YtidimdbnnnpplaaDoor
open Go.RowKit
set_option maxRecDepth 1000000
set_option linter.unusedVariables false
set_option linter.unusedSimpArgs false
set_option maxHeartbeats 8000000

section
variable (w0 : World) (b off cap : Nat) (s : PS) (w : World)
end
end Go.Proofs.YtidimdbnnnpplaaDoor
namespace Go.Proofs.YtidimdbnnnpplaaDoor
open Go.RowKit
set_option maxRecDepth 1000000
set_option linter.unusedVariables false
set_option maxHeartbeats 4000000

/-- The words from the i-th on. -/
def stA (ms : List Mw) (i : Nat) : PS := ⟨ms.drop i, 0, 0, 0⟩
structure PR (w0 : World) (b off cap : Nat) (ms : List Mw) (p : Nat) (w : World) (i : Nat) : Prop where
  blk : Blk w p 52 #[.slice (some ⟨b, off, none⟩) ms.length cap, .int .i64 i]
  base : Below w0.heap.size w0 w
  hp : w0.heap.size ≤ p
  rd : ReadsW w0 (some ⟨b, off, none⟩) ms.length cap ms
  ws : Ws (ms.drop i)
  lt : i < ms.length
theorem drop_head {ms : List Mw} {i : Nat} (h : i < ms.length) : ms[i]? = some (hdM (stA ms i)) := by
  unfold hdM stA
  rw [List.drop_eq_getElem_cons h, List.getElem?_eq_getElem h]
  rfl
theorem nxM_stA (ms : List Mw) (i : Nat) : nxM (stA ms i) = stA ms (i + 1) := by
  unfold nxM stA
  simp [List.tail_drop]
section
variable {w0 w w' : World} {b off cap : Nat} {ms : List Mw} {p i : Nat}
theorem PR.head (h : PR w0 b off cap ms p w i) : ∃ sa sc, w.cell? ⟨b, off + i * 6, none⟩ = some (.int .i64 (hdM (stA ms i)).kind) ∧ w.cell? ⟨b, off + i * 6 + 1, none⟩ = some (.string (strOfNums (hdM (stA ms i)).s)) ∧ w.cell? ⟨b, off + i * 6 + 2, none⟩ = some (.int .u64 (hdM (stA ms i)).n) ∧
    w.cell? ⟨b, off + i * 6 + 3, none⟩ = some (.slice sa (hdM (stA ms i)).b.length sc) ∧ w.cell? ⟨b, off + i * 6 + 4, none⟩ = some (.int .i64 (hdM (stA ms i)).line) ∧ w.cell? ⟨b, off + i * 6 + 5, none⟩ = some (.int .i64 (hdM (stA ms i)).col) ∧ Reads w0 sa (hdM (stA ms i)).b.length sc (hdM (stA ms i)).b := by
  rcases h.rd.cells with ⟨h0, _⟩ | ⟨b', off', e', hc⟩
  · have := h.lt; omega
  · cases e'
    obtain ⟨sa, sc, c0, c1, c2, c3, c4, c5, hr⟩ := hc i _ (drop_head h.lt)
    exact ⟨sa, sc, cell_below c0 h.base, cell_below c1 h.base, cell_below c2 h.base, cell_below c3 h.base, cell_below c4 h.base, cell_below c5 h.base, hr⟩
theorem PR.keep {f : Nat → Prop} (h : PR w0 b off cap ms p w i) (g : Keep f w w') (hf : f p) (hl : ∀ k, k < w0.heap.size → f k) : PR w0 b off cap ms p w' i :=
  ⟨h.blk.keep g hf, h.base.trans (g.below h.base.size hl), h.hp, h.rd, h.ws, h.lt⟩
theorem PR.kept (h : PR w0 b off cap ms p w i) (hb : Below w.heap.size w w') : PR w0 b off cap ms p w' i := h.keep (f := fun _ => True) (Keep.ofBelow hb) trivial (fun _ _ => trivial)
theorem PR.okW (h : PR w0 b off cap ms p w i) : okW (hdM (stA ms i)) := Ws.hd (s := stA ms i) h.ws
theorem PR.len (h : PR w0 b off cap ms p w i) : ms.length ≤ 9223372036854775807 := Nat.le_trans h.rd.le h.rd.max
end
section
variable {f : Nat → Prop} {w w' : World}
theorem kp_set {q : Addr} (h : Keep f w w') (hq : ¬ f q.block ∨ w.heap.size ≤ q.block) (v : Value) : Keep f w (w'.setCell q v) :=
  ⟨h.os, h.tape, h.output, by simp only [World.setCell, Array.size_modify]; exact h.size, fun k hk hf => by
    rw [Below.heap_setCell _ _ _ _ (fun e => by subst e; rcases hq with hq | hq; exact hq hf; omega)]
    exact h.block k hk hf⟩
theorem kp_alloc (h : Keep f w w') (o : Obj) : Keep f w (w'.alloc o) := h.trans (Keep.ofBelow (below_alloc o))
theorem kp_drew (h : Keep f w w') : Keep f w w'.drew := ⟨h.os, h.tape, h.output, h.size, h.block⟩
theorem kp_drewN (h : Keep f w w') (n : Nat) : Keep f w (w'.drewN n) := ⟨h.os, h.tape, h.output, h.size, h.block⟩
end
section
variable {w0 w w' : World} {b off cap : Nat} {ms : List Mw} {p i j : Nat}
/-- The reader's block is as it was said; all else that was there stays. -/
theorem PR.step (h : PR w0 b off cap ms p w i) (K : Keep (· ≠ p) w w') (hB : Blk w' p 52 #[.slice (some ⟨b, off, none⟩) ms.length cap, .int .i64 j]) (hw : Ws (ms.drop j)) (hl : j < ms.length) : PR w0 b off cap ms p w' j :=
  ⟨hB, h.base.trans (K.below h.base.size (fun k hk (e : k = p) => by have := h.hp; omega)), h.hp, h.rd, hw, hl⟩
theorem PR.set (h : PR w0 b off cap ms p w i) {q : Addr} (hq : p < q.block) (v : Value) : PR w0 b off cap ms p (w.setCell q v) i :=
  h.keep (f := fun k => k ≠ q.block) (Keep.setCell _ _ _ (by simp)) (by omega) (fun k hk => by have := h.hp; omega)
theorem PR.alloc (h : PR w0 b off cap ms p w i) (o : Obj) : PR w0 b off cap ms p (w.alloc o) i := h.kept (below_alloc o)
theorem PR.drew (h : PR w0 b off cap ms p w i) : PR w0 b off cap ms p w.drew i := h.kept (below_drew1 w)
theorem PR.ok (h : PR w0 b off cap ms p w i) {k : Nat} (e : stA ms k = stA ms i) : stA ms k = stA ms i := e
end
theorem blkc2 {w : World} {p : Nat} {t : TypeId} {a0 a1 : Value} (h : Blk w p t #[a0, a1]) : w.cell? ⟨p, 0, none⟩ = some a0 ∧ w.cell? ⟨p, 1, none⟩ = some a1 := ⟨h.cellF 0, h.cellF 1⟩
theorem blkc3 {w : World} {p : Nat} {t : TypeId} {a0 a1 a2 : Value} (h : Blk w p t #[a0, a1, a2]) : w.cell? ⟨p, 0, none⟩ = some a0 ∧ w.cell? ⟨p, 1, none⟩ = some a1 ∧ w.cell? ⟨p, 2, none⟩ = some a2 := ⟨h.cellF 0, h.cellF 1, h.cellF 2⟩
theorem blkc4 {w : World} {p : Nat} {t : TypeId} {a0 a1 a2 a3 : Value} (h : Blk w p t #[a0, a1, a2, a3]) : w.cell? ⟨p, 0, none⟩ = some a0 ∧ w.cell? ⟨p, 1, none⟩ = some a1 ∧ w.cell? ⟨p, 2, none⟩ = some a2 ∧ w.cell? ⟨p, 3, none⟩ = some a3 := ⟨h.cellF 0, h.cellF 1, h.cellF 2, h.cellF 3⟩
theorem blkc5 {w : World} {p : Nat} {t : TypeId} {a0 a1 a2 a3 a4 : Value} (h : Blk w p t #[a0, a1, a2, a3, a4]) : w.cell? ⟨p, 0, none⟩ = some a0 ∧ w.cell? ⟨p, 1, none⟩ = some a1 ∧ w.cell? ⟨p, 2, none⟩ = some a2 ∧ w.cell? ⟨p, 3, none⟩ = some a3 ∧ w.cell? ⟨p, 4, none⟩ = some a4 := ⟨h.cellF 0, h.cellF 1, h.cellF 2, h.cellF 3, h.cellF 4⟩
theorem blkc6 {w : World} {p : Nat} {t : TypeId} {a0 a1 a2 a3 a4 a5 : Value} (h : Blk w p t #[a0, a1, a2, a3, a4, a5]) : w.cell? ⟨p, 0, none⟩ = some a0 ∧ w.cell? ⟨p, 1, none⟩ = some a1 ∧ w.cell? ⟨p, 2, none⟩ = some a2 ∧ w.cell? ⟨p, 3, none⟩ = some a3 ∧ w.cell? ⟨p, 4, none⟩ = some a4 ∧ w.cell? ⟨p, 5, none⟩ = some a5 := ⟨h.cellF 0, h.cellF 1, h.cellF 2, h.cellF 3, h.cellF 4, h.cellF 5⟩
theorem blkc9 {w : World} {p : Nat} {t : TypeId} {a0 a1 a2 a3 a4 a5 a6 a7 a8 : Value} (h : Blk w p t #[a0, a1, a2, a3, a4, a5, a6, a7, a8]) : w.cell? ⟨p, 0, none⟩ = some a0 ∧ w.cell? ⟨p, 1, none⟩ = some a1 ∧ w.cell? ⟨p, 2, none⟩ = some a2 ∧ w.cell? ⟨p, 3, none⟩ = some a3 ∧ w.cell? ⟨p, 4, none⟩ = some a4 ∧ w.cell? ⟨p, 5, none⟩ = some a5 ∧ w.cell? ⟨p, 6, none⟩ = some a6 ∧ w.cell? ⟨p, 7, none⟩ = some a7 ∧ w.cell? ⟨p, 8, none⟩ = some a8 := ⟨h.cellF 0, h.cellF 1, h.cellF 2, h.cellF 3, h.cellF 4, h.cellF 5, h.cellF 6, h.cellF 7, h.cellF 8⟩
theorem blkc15 {w : World} {p : Nat} {t : TypeId} {a0 a1 a2 a3 a4 a5 a6 a7 a8 a9 a10 a11 a12 a13 a14 : Value} (h : Blk w p t #[a0, a1, a2, a3, a4, a5, a6, a7, a8, a9, a10, a11, a12, a13, a14]) : w.cell? ⟨p, 0, none⟩ = some a0 ∧ w.cell? ⟨p, 1, none⟩ = some a1 ∧ w.cell? ⟨p, 2, none⟩ = some a2 ∧ w.cell? ⟨p, 3, none⟩ = some a3 ∧ w.cell? ⟨p, 4, none⟩ = some a4 ∧ w.cell? ⟨p, 5, none⟩ = some a5 ∧ w.cell? ⟨p, 6, none⟩ = some a6 ∧ w.cell? ⟨p, 7, none⟩ = some a7 ∧ w.cell? ⟨p, 8, none⟩ = some a8 ∧ w.cell? ⟨p, 9, none⟩ = some a9 ∧ w.cell? ⟨p, 10, none⟩ = some a10 ∧ w.cell? ⟨p, 11, none⟩ = some a11 ∧ w.cell? ⟨p, 12, none⟩ = some a12 ∧ w.cell? ⟨p, 13, none⟩ = some a13 ∧ w.cell? ⟨p, 14, none⟩ = some a14 := ⟨h.cellF 0, h.cellF 1, h.cellF 2, h.cellF 3, h.cellF 4, h.cellF 5, h.cellF 6, h.cellF 7, h.cellF 8, h.cellF 9, h.cellF 10, h.cellF 11, h.cellF 12, h.cellF 13, h.cellF 14⟩
/-- A call fell with a fault. -/
def Fell (s : PS) (e : Ending) : Prop := s.cd ≠ 0 ∧ e = .panicked [{ v := .iface 28 (.agg #[.int .i64 s.cd, .int .i64 0, .int .i64 s.ln, .int .i64 s.cl]), recovered := false }]
theorem wordF0 (a0 a1 a2 a3 a4 a5 : Value) (W : World) : (Instr.field 85 (.agg #[a0, a1, a2, a3, a4, a5]) 0).run Tryd.prog W = .ok a0 W := by rfl
theorem wordF1 (a0 a1 a2 a3 a4 a5 : Value) (W : World) : (Instr.field 85 (.agg #[a0, a1, a2, a3, a4, a5]) 1).run Tryd.prog W = .ok a1 W := by rfl
section
variable (w0 : World) (b off cap : Nat) (ms : List Mw) (p : Nat) (w : World) (i : Nat)
theorem nextW (h : PR w0 b off cap ms p w i) : Calls Tryd.prog 26 #[.pointer (some ⟨p, 0, none⟩)] w fun e w' => (∃ sa sc, e = .returned (.agg #[.int .i64 (hdM (stA ms i)).kind, .string (strOfNums (hdM (stA ms i)).s), .int .u64 (hdM (stA ms i)).n, .slice sa (hdM (stA ms i)).b.length sc, .int .i64 (hdM (stA ms i)).line, .int .i64 (hdM (stA ms i)).col]) ∧ Hid (Reads w0 sa (hdM (stA ms i)).b.length sc (hdM (stA ms i)).b)) ∧ Below w.heap.size w w' := by
  obtain ⟨sa, sc, c0, c1, c2, c3, c4, c5, hr⟩ := h.head
  have k0 := h.blk.cell 0 _ rfl
  have k1 := h.blk.cell 1 _ rfl
  have hlt : (i : Int) < (ms.length : Int) := by have := h.lt; omega
  have hge : (0 : Int) ≤ (i : Int) := by omega
  have hlen : (ms.length : Int) ≤ 9223372036854775807 := by have := h.len; omega
  have hpl : p < w.heap.size := h.blk.lt
  have hbl : b < w.heap.size := World.block_lt_of_cell? _ _ c0
  have HR := hid hr
  clear h hr
  generalize hdM (stA ms i) = m at *
  obtain ⟨kind, s, n, bb, line, col⟩ := m
  dsimp only at *
  go_enter Tryd.func26, Tryd.ntmps26
  go_wp2
  go_region
  all_goals go_wp2
  all_goals exact bodyPost_ret (v := .agg #[.int .i64 kind, .string (strOfNums s), .int .u64 n, .slice sa bb.length sc, .int .i64 line, .int .i64 col]) (by simp [results, Tryd.results26, go_sem]) rfl ⟨⟨sa, sc, rfl, HR⟩, by (repeat (first | with_reducible assumption | with_reducible refine bl_set ?_ (by first | (simp; done) | (simp; omega) | omega) _ | with_reducible refine bl_alloc ?_ _ | with_reducible refine bl_drew ?_ | with_reducible refine bl_drewN ?_ _ | with_reducible exact Below.refl _ _))⟩
theorem isNextW (X : ByteArray) (x : List Int) (hX : X = strOfNums x) (hx : plainW x) (h : PR w0 b off cap ms p w i) : Calls Tryd.prog 44 #[.pointer (some ⟨p, 0, none⟩), .string X] w fun e w' => e = .returned (.bool (isM (stA ms i) x)) ∧ Below w.heap.size w w' := by
  have HN := hid (nextW w0 b off cap ms p w i h)
  have HS : Hid (((strOfNums (hdM (stA ms i)).s).toList == X.toList) = isM (stA ms i) x) := hid (by rw [hX, str_eq h.okW.bd hx.1, is_plain rfl h.okW hx])
  clear h hX hx
  generalize isM (stA ms i) x = t at *
  go_enter Tryd.func44, Tryd.ntmps44
  go_wp2_with fail
  refine HN.out.mono ?_
  rintro e w1 ⟨⟨sa, sc, rfl, hr⟩, hb1⟩
  replace hb1 := hid hb1
  clear hr HN
  generalize hdM (stA ms i) = m at *
  obtain ⟨kind, s, n, bb, line, col⟩ := m
  dsimp only at *
  have hs := HS.out
  have hf := wordF1
  go_wp2
  go_ret
  exact ⟨rfl, hb1.out⟩
theorem placeOfW (m : Mw) (sa : Option Addr) (sc : Nat) : Calls Tryd.prog 43 #[.agg #[.int .i64 m.kind, .string (strOfNums m.s), .int .u64 m.n, .slice sa m.b.length sc, .int .i64 m.line, .int .i64 m.col]] w fun e w' => e = .returned (.agg #[.int .i64 m.line, .int .i64 m.col]) ∧ Below w.heap.size w w' := by
  obtain ⟨kind, ms, n, bb, line, col⟩ := m
  dsimp only
  go_enter Tryd.func43, Tryd.ntmps43
  go_wp2
  exact bodyPost_ret (v := .agg #[.int .i64 line, .int .i64 col]) (by simp [results, Tryd.results43, go_sem]) rfl ⟨rfl, by (repeat (first | with_reducible assumption | with_reducible refine bl_set ?_ (by first | (simp; done) | (simp; omega) | omega) _ | with_reducible refine bl_alloc ?_ _ | with_reducible refine bl_drew ?_ | with_reducible refine bl_drewN ?_ _ | with_reducible exact Below.refl _ _))⟩
theorem giveUpW (c : Int) (h : PR w0 b off cap ms p w i) : Calls Tryd.prog 30 #[.pointer (some ⟨p, 0, none⟩), .int .i64 c] w fun e w' => e = .panicked [{ v := .iface 28 (.agg #[.int .i64 c, .int .i64 0, .int .i64 (hdM (stA ms i)).line, .int .i64 (hdM (stA ms i)).col]), recovered := false }] ∧ Below w.heap.size w w' := by
  have HN := hid (nextW w0 b off cap ms p w i h)
  clear h
  generalize hdM (stA ms i) = m at *
  obtain ⟨kind, s, n, bb, line, col⟩ := m
  dsimp only at *
  go_enter Tryd.func30, Tryd.ntmps30
  go_wp2_with fail
  refine HN.out.mono ?_
  rintro e w1 ⟨⟨sa, sc, rfl, hr⟩, hb1⟩
  replace hb1 := hid hb1
  clear hr HN
  go_wp2
  exact ⟨rfl, rfl, by have := hb1.out; (repeat (first | with_reducible assumption | with_reducible refine bl_set ?_ (by first | (simp; done) | (simp; omega) | omega) _ | with_reducible refine bl_alloc ?_ _ | with_reducible refine bl_drew ?_ | with_reducible refine bl_drewN ?_ _ | with_reducible exact Below.refl _ _))⟩
/-- A word is passed. -/
theorem passPW (hk : (hdM (stA ms i)).kind ≠ 5) (h : PR w0 b off cap ms p w i) : Calls Tryd.prog 54 #[.pointer (some ⟨p, 0, none⟩)] w fun e w' => (∃ sa sc, e = .returned (.agg #[.int .i64 (hdM (stA ms i)).kind, .string (strOfNums (hdM (stA ms i)).s), .int .u64 (hdM (stA ms i)).n, .slice sa (hdM (stA ms i)).b.length sc, .int .i64 (hdM (stA ms i)).line, .int .i64 (hdM (stA ms i)).col]) ∧ Hid (Reads w0 sa (hdM (stA ms i)).b.length sc (hdM (stA ms i)).b) ∧ Hid (PR w0 b off cap ms p w' (i + 1))) ∧ Keep (· ≠ p) w w' := by
  have hpl : p < w.heap.size := h.blk.lt
  have HN := hid (fun W (g : PR w0 b off cap ms p W i) => nextW w0 b off cap ms p W i g)
  have HW := hid h
  have HT : Hid (Ws (ms.drop (i + 1))) := hid (by have := h.ws.tail hk; rwa [List.tail_drop] at this)
  have hii : (i : Int) + 1 ≤ 9223372036854775807 := by have := h.lt; have := h.len; omega
  clear h hk
  generalize hdM (stA ms i) = m at *
  obtain ⟨kind, s, n, bb, line, col⟩ := m
  dsimp only at *
  go_enter Tryd.func54, Tryd.ntmps54
  go_wp2_with fail
  refine (HN.out _ (HW.out.kept (by (repeat (first | with_reducible assumption | with_reducible refine bl_set ?_ (by first | (simp; done) | (simp; omega) | omega) _ | with_reducible refine bl_alloc ?_ _ | with_reducible refine bl_drew ?_ | with_reducible refine bl_drewN ?_ _ | with_reducible exact Below.refl _ _))))).mono ?_
  rintro e w1 ⟨⟨sa, sc, rfl, hr⟩, hb1⟩
  have HP := hid (HW.out.kept (bl_then (by (repeat (first | with_reducible assumption | with_reducible refine bl_set ?_ (by first | (simp; done) | (simp; omega) | omega) _ | with_reducible refine bl_alloc ?_ _ | with_reducible refine bl_drew ?_ | with_reducible refine bl_drewN ?_ _ | with_reducible exact Below.refl _ _))) hb1))
  have Bp := HP.out.blk
  have xp := Bp.cellF
  have yp := Bp.frz
  have hs1 := hb1.size
  simp at hs1
  have zp : p < w1.heap.size := by omega
  have zr : w.heap.size < w1.heap.size := by omega
  obtain ⟨xr, yr⟩ := bcell hb1 (p := w.heap.size) (by first | (simp; done) | (simp; omega) | omega)
  replace hb1 : Hid (Below w.heap.size w w1) := hid (bl_then (by (repeat (first | with_reducible assumption | with_reducible refine bl_set ?_ (by first | (simp; done) | (simp; omega) | omega) _ | with_reducible refine bl_alloc ?_ _ | with_reducible refine bl_drew ?_ | with_reducible refine bl_drewN ?_ _ | with_reducible exact Below.refl _ _))) hb1)
  go_wp2
  have hlt : i + 1 < ms.length := by
    rcases Nat.lt_or_ge (i + 1) ms.length with h | h
    · exact h
    · obtain ⟨x, r, e⟩ := HT.out.ne; rw [List.drop_eq_nil_of_le h] at e; cases e
  exact bodyPost_ret (v := .agg #[.int .i64 kind, .string (strOfNums s), .int .u64 n, .slice sa bb.length sc, .int .i64 line, .int .i64 col]) (by simp [results, Tryd.results54, go_sem, xr, zr]) rfl ⟨⟨sa, sc, rfl, hr, hid (PR.step HW.out (by have := Keep.ofBelow (f := (· ≠ p)) hb1.out; (repeat (first | with_reducible assumption | with_reducible refine kpall15 ?_ (by first | (refine Or.inr ?_; first | (simp; done) | (simp; omega) | omega)) | with_reducible refine kpall9 ?_ (by first | (refine Or.inr ?_; first | (simp; done) | (simp; omega) | omega)) | with_reducible refine kpall6 ?_ (by first | (refine Or.inr ?_; first | (simp; done) | (simp; omega) | omega)) | with_reducible refine kp_set ?_ (by first | (refine Or.inl ?_; simp; done) | (refine Or.inr ?_; first | (simp; done) | (simp; omega) | omega)) _ | with_reducible refine kp_alloc ?_ _ | with_reducible refine kp_drew ?_ | with_reducible refine kp_drewN ?_ _ | with_reducible exact Keep.refl _ _))) (((((((((Bp.set 1 _).other (show p ≠ w.heap.size by omega) _).other (show p ≠ w.heap.size by omega) _).other (show p ≠ w.heap.size by omega) _).other (show p ≠ w.heap.size by omega) _).other (show p ≠ w.heap.size by omega) _).other (show p ≠ w.heap.size by omega) _).kept (below_alloc _)).is (by simp)) HT.out hlt)⟩, by have := Keep.ofBelow (f := (· ≠ p)) hb1.out; (repeat (first | with_reducible assumption | with_reducible refine kpall15 ?_ (by first | (refine Or.inr ?_; first | (simp; done) | (simp; omega) | omega)) | with_reducible refine kpall9 ?_ (by first | (refine Or.inr ?_; first | (simp; done) | (simp; omega) | omega)) | with_reducible refine kpall6 ?_ (by first | (refine Or.inr ?_; first | (simp; done) | (simp; omega) | omega)) | with_reducible refine kp_set ?_ (by first | (refine Or.inl ?_; simp; done) | (refine Or.inr ?_; first | (simp; done) | (simp; omega) | omega)) _ | with_reducible refine kp_alloc ?_ _ | with_reducible refine kp_drew ?_ | with_reducible refine kp_drewN ?_ _ | with_reducible exact Keep.refl _ _))⟩
end
end Go.Proofs.YtidimdbnnnpplaaDoor
namespace Go.Proofs.YtidimdbnnnpplaaDoor
open Go.RowKit
set_option maxRecDepth 1000000
set_option linter.unusedVariables false
set_option maxHeartbeats 4000000

theorem blkall4 {w : World} {p : Nat} {t : TypeId} {a0 a1 a2 a3 b0 b1 b2 b3 : Value} (h : Blk w p t #[a0, a1, a2, a3]) : Blk ((((w.setCell ⟨p, 0, none⟩ b0).setCell ⟨p, 1, none⟩ b1).setCell ⟨p, 2, none⟩ b2).setCell ⟨p, 3, none⟩ b3) p t #[b0, b1, b2, b3] :=
  ((((h.set 0 _).set 1 _).set 2 _).set 3 _).is (by simp)
theorem blkoth4 {w : World} {p q : Nat} {t : TypeId} {cs : Array Value} {b0 b1 b2 b3 : Value} (h : Blk w p t cs) (hq : p ≠ q) : Blk ((((w.setCell ⟨q, 0, none⟩ b0).setCell ⟨q, 1, none⟩ b1).setCell ⟨q, 2, none⟩ b2).setCell ⟨q, 3, none⟩ b3) p t cs := ((((h.other hq _).other hq _).other hq _).other hq _)
theorem blkall5 {w : World} {p : Nat} {t : TypeId} {a0 a1 a2 a3 a4 b0 b1 b2 b3 b4 : Value} (h : Blk w p t #[a0, a1, a2, a3, a4]) : Blk (((((w.setCell ⟨p, 0, none⟩ b0).setCell ⟨p, 1, none⟩ b1).setCell ⟨p, 2, none⟩ b2).setCell ⟨p, 3, none⟩ b3).setCell ⟨p, 4, none⟩ b4) p t #[b0, b1, b2, b3, b4] :=
  (((((h.set 0 _).set 1 _).set 2 _).set 3 _).set 4 _).is (by simp)
theorem blkoth5 {w : World} {p q : Nat} {t : TypeId} {cs : Array Value} {b0 b1 b2 b3 b4 : Value} (h : Blk w p t cs) (hq : p ≠ q) : Blk (((((w.setCell ⟨q, 0, none⟩ b0).setCell ⟨q, 1, none⟩ b1).setCell ⟨q, 2, none⟩ b2).setCell ⟨q, 3, none⟩ b3).setCell ⟨q, 4, none⟩ b4) p t cs := (((((h.other hq _).other hq _).other hq _).other hq _).other hq _)
theorem blkall6 {w : World} {p : Nat} {t : TypeId} {a0 a1 a2 a3 a4 a5 b0 b1 b2 b3 b4 b5 : Value} (h : Blk w p t #[a0, a1, a2, a3, a4, a5]) : Blk ((((((w.setCell ⟨p, 0, none⟩ b0).setCell ⟨p, 1, none⟩ b1).setCell ⟨p, 2, none⟩ b2).setCell ⟨p, 3, none⟩ b3).setCell ⟨p, 4, none⟩ b4).setCell ⟨p, 5, none⟩ b5) p t #[b0, b1, b2, b3, b4, b5] :=
  ((((((h.set 0 _).set 1 _).set 2 _).set 3 _).set 4 _).set 5 _).is (by simp)
theorem blkoth6 {w : World} {p q : Nat} {t : TypeId} {cs : Array Value} {b0 b1 b2 b3 b4 b5 : Value} (h : Blk w p t cs) (hq : p ≠ q) : Blk ((((((w.setCell ⟨q, 0, none⟩ b0).setCell ⟨q, 1, none⟩ b1).setCell ⟨q, 2, none⟩ b2).setCell ⟨q, 3, none⟩ b3).setCell ⟨q, 4, none⟩ b4).setCell ⟨q, 5, none⟩ b5) p t cs := ((((((h.other hq _).other hq _).other hq _).other hq _).other hq _).other hq _)
theorem blkall9 {w : World} {p : Nat} {t : TypeId} {a0 a1 a2 a3 a4 a5 a6 a7 a8 b0 b1 b2 b3 b4 b5 b6 b7 b8 : Value} (h : Blk w p t #[a0, a1, a2, a3, a4, a5, a6, a7, a8]) : Blk (((((((((w.setCell ⟨p, 0, none⟩ b0).setCell ⟨p, 1, none⟩ b1).setCell ⟨p, 2, none⟩ b2).setCell ⟨p, 3, none⟩ b3).setCell ⟨p, 4, none⟩ b4).setCell ⟨p, 5, none⟩ b5).setCell ⟨p, 6, none⟩ b6).setCell ⟨p, 7, none⟩ b7).setCell ⟨p, 8, none⟩ b8) p t #[b0, b1, b2, b3, b4, b5, b6, b7, b8] :=
  (((((((((h.set 0 _).set 1 _).set 2 _).set 3 _).set 4 _).set 5 _).set 6 _).set 7 _).set 8 _).is (by simp)
theorem blkoth9 {w : World} {p q : Nat} {t : TypeId} {cs : Array Value} {b0 b1 b2 b3 b4 b5 b6 b7 b8 : Value} (h : Blk w p t cs) (hq : p ≠ q) : Blk (((((((((w.setCell ⟨q, 0, none⟩ b0).setCell ⟨q, 1, none⟩ b1).setCell ⟨q, 2, none⟩ b2).setCell ⟨q, 3, none⟩ b3).setCell ⟨q, 4, none⟩ b4).setCell ⟨q, 5, none⟩ b5).setCell ⟨q, 6, none⟩ b6).setCell ⟨q, 7, none⟩ b7).setCell ⟨q, 8, none⟩ b8) p t cs := (((((((((h.other hq _).other hq _).other hq _).other hq _).other hq _).other hq _).other hq _).other hq _).other hq _)
theorem blkall15 {w : World} {p : Nat} {t : TypeId} {a0 a1 a2 a3 a4 a5 a6 a7 a8 a9 a10 a11 a12 a13 a14 b0 b1 b2 b3 b4 b5 b6 b7 b8 b9 b10 b11 b12 b13 b14 : Value} (h : Blk w p t #[a0, a1, a2, a3, a4, a5, a6, a7, a8, a9, a10, a11, a12, a13, a14]) : Blk (((((((((((((((w.setCell ⟨p, 0, none⟩ b0).setCell ⟨p, 1, none⟩ b1).setCell ⟨p, 2, none⟩ b2).setCell ⟨p, 3, none⟩ b3).setCell ⟨p, 4, none⟩ b4).setCell ⟨p, 5, none⟩ b5).setCell ⟨p, 6, none⟩ b6).setCell ⟨p, 7, none⟩ b7).setCell ⟨p, 8, none⟩ b8).setCell ⟨p, 9, none⟩ b9).setCell ⟨p, 10, none⟩ b10).setCell ⟨p, 11, none⟩ b11).setCell ⟨p, 12, none⟩ b12).setCell ⟨p, 13, none⟩ b13).setCell ⟨p, 14, none⟩ b14) p t #[b0, b1, b2, b3, b4, b5, b6, b7, b8, b9, b10, b11, b12, b13, b14] :=
  (((((((((((((((h.set 0 _).set 1 _).set 2 _).set 3 _).set 4 _).set 5 _).set 6 _).set 7 _).set 8 _).set 9 _).set 10 _).set 11 _).set 12 _).set 13 _).set 14 _).is (by simp)
theorem blkoth15 {w : World} {p q : Nat} {t : TypeId} {cs : Array Value} {b0 b1 b2 b3 b4 b5 b6 b7 b8 b9 b10 b11 b12 b13 b14 : Value} (h : Blk w p t cs) (hq : p ≠ q) : Blk (((((((((((((((w.setCell ⟨q, 0, none⟩ b0).setCell ⟨q, 1, none⟩ b1).setCell ⟨q, 2, none⟩ b2).setCell ⟨q, 3, none⟩ b3).setCell ⟨q, 4, none⟩ b4).setCell ⟨q, 5, none⟩ b5).setCell ⟨q, 6, none⟩ b6).setCell ⟨q, 7, none⟩ b7).setCell ⟨q, 8, none⟩ b8).setCell ⟨q, 9, none⟩ b9).setCell ⟨q, 10, none⟩ b10).setCell ⟨q, 11, none⟩ b11).setCell ⟨q, 12, none⟩ b12).setCell ⟨q, 13, none⟩ b13).setCell ⟨q, 14, none⟩ b14) p t cs := (((((((((((((((h.other hq _).other hq _).other hq _).other hq _).other hq _).other hq _).other hq _).other hq _).other hq _).other hq _).other hq _).other hq _).other hq _).other hq _).other hq _)
theorem kpall6 {f : Nat → Prop} {w w' : World} {q : Nat} {b0 b1 b2 b3 b4 b5 : Value} (h : Keep f w w') (hq : ¬ f q ∨ w.heap.size ≤ q) : Keep f w ((((((w'.setCell ⟨q, 0, none⟩ b0).setCell ⟨q, 1, none⟩ b1).setCell ⟨q, 2, none⟩ b2).setCell ⟨q, 3, none⟩ b3).setCell ⟨q, 4, none⟩ b4).setCell ⟨q, 5, none⟩ b5) := (kp_set (kp_set (kp_set (kp_set (kp_set (kp_set h hq _) hq _) hq _) hq _) hq _) hq _)
theorem prall6 {w0 w : World} {b off cap : Nat} {ms : List Mw} {p i q : Nat} {b0 b1 b2 b3 b4 b5 : Value} (h : PR w0 b off cap ms p w i) (hq : p < q) : PR w0 b off cap ms p ((((((w.setCell ⟨q, 0, none⟩ b0).setCell ⟨q, 1, none⟩ b1).setCell ⟨q, 2, none⟩ b2).setCell ⟨q, 3, none⟩ b3).setCell ⟨q, 4, none⟩ b4).setCell ⟨q, 5, none⟩ b5) i := ((((((h.set hq _).set hq _).set hq _).set hq _).set hq _).set hq _)
theorem kpall9 {f : Nat → Prop} {w w' : World} {q : Nat} {b0 b1 b2 b3 b4 b5 b6 b7 b8 : Value} (h : Keep f w w') (hq : ¬ f q ∨ w.heap.size ≤ q) : Keep f w (((((((((w'.setCell ⟨q, 0, none⟩ b0).setCell ⟨q, 1, none⟩ b1).setCell ⟨q, 2, none⟩ b2).setCell ⟨q, 3, none⟩ b3).setCell ⟨q, 4, none⟩ b4).setCell ⟨q, 5, none⟩ b5).setCell ⟨q, 6, none⟩ b6).setCell ⟨q, 7, none⟩ b7).setCell ⟨q, 8, none⟩ b8) := (kp_set (kp_set (kp_set (kp_set (kp_set (kp_set (kp_set (kp_set (kp_set h hq _) hq _) hq _) hq _) hq _) hq _) hq _) hq _) hq _)
theorem prall9 {w0 w : World} {b off cap : Nat} {ms : List Mw} {p i q : Nat} {b0 b1 b2 b3 b4 b5 b6 b7 b8 : Value} (h : PR w0 b off cap ms p w i) (hq : p < q) : PR w0 b off cap ms p (((((((((w.setCell ⟨q, 0, none⟩ b0).setCell ⟨q, 1, none⟩ b1).setCell ⟨q, 2, none⟩ b2).setCell ⟨q, 3, none⟩ b3).setCell ⟨q, 4, none⟩ b4).setCell ⟨q, 5, none⟩ b5).setCell ⟨q, 6, none⟩ b6).setCell ⟨q, 7, none⟩ b7).setCell ⟨q, 8, none⟩ b8) i := (((((((((h.set hq _).set hq _).set hq _).set hq _).set hq _).set hq _).set hq _).set hq _).set hq _)
theorem kpall15 {f : Nat → Prop} {w w' : World} {q : Nat} {b0 b1 b2 b3 b4 b5 b6 b7 b8 b9 b10 b11 b12 b13 b14 : Value} (h : Keep f w w') (hq : ¬ f q ∨ w.heap.size ≤ q) : Keep f w (((((((((((((((w'.setCell ⟨q, 0, none⟩ b0).setCell ⟨q, 1, none⟩ b1).setCell ⟨q, 2, none⟩ b2).setCell ⟨q, 3, none⟩ b3).setCell ⟨q, 4, none⟩ b4).setCell ⟨q, 5, none⟩ b5).setCell ⟨q, 6, none⟩ b6).setCell ⟨q, 7, none⟩ b7).setCell ⟨q, 8, none⟩ b8).setCell ⟨q, 9, none⟩ b9).setCell ⟨q, 10, none⟩ b10).setCell ⟨q, 11, none⟩ b11).setCell ⟨q, 12, none⟩ b12).setCell ⟨q, 13, none⟩ b13).setCell ⟨q, 14, none⟩ b14) := (kp_set (kp_set (kp_set (kp_set (kp_set (kp_set (kp_set (kp_set (kp_set (kp_set (kp_set (kp_set (kp_set (kp_set (kp_set h hq _) hq _) hq _) hq _) hq _) hq _) hq _) hq _) hq _) hq _) hq _) hq _) hq _) hq _) hq _)
theorem prall15 {w0 w : World} {b off cap : Nat} {ms : List Mw} {p i q : Nat} {b0 b1 b2 b3 b4 b5 b6 b7 b8 b9 b10 b11 b12 b13 b14 : Value} (h : PR w0 b off cap ms p w i) (hq : p < q) : PR w0 b off cap ms p (((((((((((((((w.setCell ⟨q, 0, none⟩ b0).setCell ⟨q, 1, none⟩ b1).setCell ⟨q, 2, none⟩ b2).setCell ⟨q, 3, none⟩ b3).setCell ⟨q, 4, none⟩ b4).setCell ⟨q, 5, none⟩ b5).setCell ⟨q, 6, none⟩ b6).setCell ⟨q, 7, none⟩ b7).setCell ⟨q, 8, none⟩ b8).setCell ⟨q, 9, none⟩ b9).setCell ⟨q, 10, none⟩ b10).setCell ⟨q, 11, none⟩ b11).setCell ⟨q, 12, none⟩ b12).setCell ⟨q, 13, none⟩ b13).setCell ⟨q, 14, none⟩ b14) i := (((((((((((((((h.set hq _).set hq _).set hq _).set hq _).set hq _).set hq _).set hq _).set hq _).set hq _).set hq _).set hq _).set hq _).set hq _).set hq _).set hq _)
end Go.Proofs.YtidimdbnnnpplaaDoor
namespace Go.Proofs.YtidimdbnnnpplaaDoor
open Go.RowKit
set_option maxRecDepth 1000000
set_option linter.unusedVariables false
set_option linter.unusedSimpArgs false
set_option maxHeartbeats 4000000

section
variable (w0 : World) (b off cap : Nat) (ms : List Mw) (p : Nat) (w : World) (i : Nat)
theorem skipW (X : ByteArray) (x : List Int) (hX : X = strOfNums x) (hx : plainW x) (h : PR w0 b off cap ms p w i) : Calls Tryd.prog 41 #[.pointer (some ⟨p, 0, none⟩), .string X] w fun e w' => Keep (· ≠ p) w w' ∧ ((∃ j sa sc, Hid (eatM (stA ms i) x = stA ms j) ∧ e = .returned (.agg #[.int .i64 (hdM (stA ms i)).kind, .string (strOfNums (hdM (stA ms i)).s), .int .u64 (hdM (stA ms i)).n, .slice sa (hdM (stA ms i)).b.length sc, .int .i64 (hdM (stA ms i)).line, .int .i64 (hdM (stA ms i)).col]) ∧ Hid (PR w0 b off cap ms p w' j)) ∨ Fell (eatM (stA ms i) x) e) := by
  have HN := hid (fun W (g : PR w0 b off cap ms p W i) => isNextW w0 b off cap ms p W i X x hX hx g)
  have HG := hid (fun W (g : PR w0 b off cap ms p W i) => giveUpW w0 b off cap ms p W i 11 g)
  cases hi : isM (stA ms i) x with
  | true =>
    have HE : Hid (eatM (stA ms i) x = stA ms (i + 1)) := hid (by unfold eatM; rw [if_pos (show (stA ms i).cd = 0 from rfl), if_pos hi, nxM_stA])
    have HP := hid (fun W (g : PR w0 b off cap ms p W i) => passPW w0 b off cap ms p W i (by have := (is_parts hi).2.1; omega) g)
    rw [hi] at HN
    clear hX hx hi HG
    have hk0 : Hid (Keep (· ≠ p) w w) := hid (Keep.refl _ _)
    have hpl : p < w.heap.size := h.blk.lt
    have HR0 := hid h
    clear h
    generalize hdM (stA ms i) = m at *
    go_enter Tryd.func41, Tryd.ntmps41
    go_wp2_with fail
    refine (HN.out _ (by have := HR0.out; (repeat (first | with_reducible assumption | with_reducible refine prall15 ?_ (by first | (simp; done) | (simp; omega) | omega) | with_reducible refine prall9 ?_ (by first | (simp; done) | (simp; omega) | omega) | with_reducible refine prall6 ?_ (by first | (simp; done) | (simp; omega) | omega) | with_reducible refine PR.set ?_ (by first | (simp; done) | (simp; omega) | omega) _ | with_reducible refine PR.alloc ?_ _ | with_reducible refine PR.drew ?_)))).mono ?_
    rintro e w1 ⟨rfl, hb1⟩
    have hK1 := Keep.ofBelow (f := (· ≠ p)) hb1
    have HR1 : Hid (PR w0 b off cap ms p w1 (i)) := hid (PR.kept (by have := HR0.out; (repeat (first | with_reducible assumption | with_reducible refine prall15 ?_ (by first | (simp; done) | (simp; omega) | omega) | with_reducible refine prall9 ?_ (by first | (simp; done) | (simp; omega) | omega) | with_reducible refine prall6 ?_ (by first | (simp; done) | (simp; omega) | omega) | with_reducible refine PR.set ?_ (by first | (simp; done) | (simp; omega) | omega) _ | with_reducible refine PR.alloc ?_ _ | with_reducible refine PR.drew ?_))) hb1)
    clear hb1
    have Cr : Blk w1 (w.heap.size) 85 #[.int .i64 0, .string ⟨#[]⟩, .int .u64 0, .slice none 0 0, .int .i64 0, .int .i64 0] := Blk.keep ((Blk.newAt (by simp)).is (by first | rfl | simp)) hK1 (show w.heap.size ≠ p by omega)
    have hs1 := hK1.size
    try simp at hs1
    have Br := Cr
    clear Cr
    have xr := Br.cellF
    have yr := Br.frz
    have zr : w.heap.size < w1.heap.size := by omega
    have hp1 : p < w1.heap.size := by omega
    have hq1 : w.heap.size ≤ w1.heap.size := by omega
    have hk1 : Hid (Keep (· ≠ p) w w1) := hid (Keep.trans (by have := hk0.out; (repeat (first | with_reducible assumption | with_reducible refine kpall15 ?_ (by first | (refine Or.inr ?_; first | (simp; done) | (simp; omega) | omega)) | with_reducible refine kpall9 ?_ (by first | (refine Or.inr ?_; first | (simp; done) | (simp; omega) | omega)) | with_reducible refine kpall6 ?_ (by first | (refine Or.inr ?_; first | (simp; done) | (simp; omega) | omega)) | with_reducible refine kp_set ?_ (by first | (refine Or.inl ?_; simp; done) | (refine Or.inr ?_; first | (simp; done) | (simp; omega) | omega)) _ | with_reducible refine kp_alloc ?_ _ | with_reducible refine kp_drew ?_ | with_reducible refine kp_drewN ?_ _ | with_reducible exact Keep.refl _ _))) hK1)
    clear hK1
    go_wp2_with fail
    refine (HP.out _ (by have := HR1.out; (repeat (first | with_reducible assumption | with_reducible refine prall15 ?_ (by first | (simp; done) | (simp; omega) | omega) | with_reducible refine prall9 ?_ (by first | (simp; done) | (simp; omega) | omega) | with_reducible refine prall6 ?_ (by first | (simp; done) | (simp; omega) | omega) | with_reducible refine PR.set ?_ (by first | (simp; done) | (simp; omega) | omega) _ | with_reducible refine PR.alloc ?_ _ | with_reducible refine PR.drew ?_)))).mono ?_
    rintro e w2 ⟨⟨sa, sc, rfl, hr, HR2⟩, hK2⟩
    have Cr : Blk w2 (w.heap.size) 85 #[.int .i64 0, .string ⟨#[]⟩, .int .u64 0, .slice none 0 0, .int .i64 0, .int .i64 0] := Blk.keep (Br.is (by first | rfl | simp)) hK2 (show w.heap.size ≠ p by omega)
    clear Br xr yr
    have hs2 := hK2.size
    try simp at hs2
    have Br := Cr
    clear Cr
    have xr := Br.cellF
    have yr := Br.frz
    replace zr : w.heap.size < w2.heap.size := by omega
    have hp2 : p < w2.heap.size := by omega
    have hq2 : w.heap.size ≤ w2.heap.size := by omega
    have hk2 : Hid (Keep (· ≠ p) w w2) := hid (Keep.trans (by have := hk1.out; (repeat (first | with_reducible assumption | with_reducible refine kpall15 ?_ (by first | (refine Or.inr ?_; first | (simp; done) | (simp; omega) | omega)) | with_reducible refine kpall9 ?_ (by first | (refine Or.inr ?_; first | (simp; done) | (simp; omega) | omega)) | with_reducible refine kpall6 ?_ (by first | (refine Or.inr ?_; first | (simp; done) | (simp; omega) | omega)) | with_reducible refine kp_set ?_ (by first | (refine Or.inl ?_; simp; done) | (refine Or.inr ?_; first | (simp; done) | (simp; omega) | omega)) _ | with_reducible refine kp_alloc ?_ _ | with_reducible refine kp_drew ?_ | with_reducible refine kp_drewN ?_ _ | with_reducible exact Keep.refl _ _))) hK2)
    clear hK2
    go_wp2
    exact bodyPost_ret (v := .agg #[.int .i64 m.kind, .string (strOfNums m.s), .int .u64 m.n, .slice sa m.b.length sc, .int .i64 m.line, .int .i64 m.col]) (by simp [results, Tryd.results41, go_sem, xr, zr]) rfl ⟨by have := hk2.out; (repeat (first | with_reducible assumption | with_reducible refine kpall15 ?_ (by first | (refine Or.inr ?_; first | (simp; done) | (simp; omega) | omega)) | with_reducible refine kpall9 ?_ (by first | (refine Or.inr ?_; first | (simp; done) | (simp; omega) | omega)) | with_reducible refine kpall6 ?_ (by first | (refine Or.inr ?_; first | (simp; done) | (simp; omega) | omega)) | with_reducible refine kp_set ?_ (by first | (refine Or.inl ?_; simp; done) | (refine Or.inr ?_; first | (simp; done) | (simp; omega) | omega)) _ | with_reducible refine kp_alloc ?_ _ | with_reducible refine kp_drew ?_ | with_reducible refine kp_drewN ?_ _ | with_reducible exact Keep.refl _ _)), .inl ⟨i + 1, sa, sc, HE, rfl, hid (by have := HR2.out; (repeat (first | with_reducible assumption | with_reducible refine prall15 ?_ (by first | (simp; done) | (simp; omega) | omega) | with_reducible refine prall9 ?_ (by first | (simp; done) | (simp; omega) | omega) | with_reducible refine prall6 ?_ (by first | (simp; done) | (simp; omega) | omega) | with_reducible refine PR.set ?_ (by first | (simp; done) | (simp; omega) | omega) _ | with_reducible refine PR.alloc ?_ _ | with_reducible refine PR.drew ?_)))⟩⟩
  | false =>
    have HE : Hid (eatM (stA ms i) x = ⟨ms.drop i, 11, (hdM (stA ms i)).line, (hdM (stA ms i)).col⟩) := hid (by unfold eatM badM; rw [if_pos (show (stA ms i).cd = 0 from rfl), if_neg (by rw [hi]; simp), if_pos (show (stA ms i).cd = 0 from rfl)]; rfl)
    rw [hi] at HN
    clear hX hx hi
    have hk0 : Hid (Keep (· ≠ p) w w) := hid (Keep.refl _ _)
    have hpl : p < w.heap.size := h.blk.lt
    have HR0 := hid h
    clear h
    generalize hdM (stA ms i) = m at *
    go_enter Tryd.func41, Tryd.ntmps41
    go_wp2_with fail
    refine (HN.out _ (by have := HR0.out; (repeat (first | with_reducible assumption | with_reducible refine prall15 ?_ (by first | (simp; done) | (simp; omega) | omega) | with_reducible refine prall9 ?_ (by first | (simp; done) | (simp; omega) | omega) | with_reducible refine prall6 ?_ (by first | (simp; done) | (simp; omega) | omega) | with_reducible refine PR.set ?_ (by first | (simp; done) | (simp; omega) | omega) _ | with_reducible refine PR.alloc ?_ _ | with_reducible refine PR.drew ?_)))).mono ?_
    rintro e w1 ⟨rfl, hb1⟩
    have hK1 := Keep.ofBelow (f := (· ≠ p)) hb1
    have HR1 : Hid (PR w0 b off cap ms p w1 (i)) := hid (PR.kept (by have := HR0.out; (repeat (first | with_reducible assumption | with_reducible refine prall15 ?_ (by first | (simp; done) | (simp; omega) | omega) | with_reducible refine prall9 ?_ (by first | (simp; done) | (simp; omega) | omega) | with_reducible refine prall6 ?_ (by first | (simp; done) | (simp; omega) | omega) | with_reducible refine PR.set ?_ (by first | (simp; done) | (simp; omega) | omega) _ | with_reducible refine PR.alloc ?_ _ | with_reducible refine PR.drew ?_))) hb1)
    clear hb1
    have Cr : Blk w1 (w.heap.size) 85 #[.int .i64 0, .string ⟨#[]⟩, .int .u64 0, .slice none 0 0, .int .i64 0, .int .i64 0] := Blk.keep ((Blk.newAt (by simp)).is (by first | rfl | simp)) hK1 (show w.heap.size ≠ p by omega)
    have hs1 := hK1.size
    try simp at hs1
    have Br := Cr
    clear Cr
    have xr := Br.cellF
    have yr := Br.frz
    have zr : w.heap.size < w1.heap.size := by omega
    have hp1 : p < w1.heap.size := by omega
    have hq1 : w.heap.size ≤ w1.heap.size := by omega
    have hk1 : Hid (Keep (· ≠ p) w w1) := hid (Keep.trans (by have := hk0.out; (repeat (first | with_reducible assumption | with_reducible refine kpall15 ?_ (by first | (refine Or.inr ?_; first | (simp; done) | (simp; omega) | omega)) | with_reducible refine kpall9 ?_ (by first | (refine Or.inr ?_; first | (simp; done) | (simp; omega) | omega)) | with_reducible refine kpall6 ?_ (by first | (refine Or.inr ?_; first | (simp; done) | (simp; omega) | omega)) | with_reducible refine kp_set ?_ (by first | (refine Or.inl ?_; simp; done) | (refine Or.inr ?_; first | (simp; done) | (simp; omega) | omega)) _ | with_reducible refine kp_alloc ?_ _ | with_reducible refine kp_drew ?_ | with_reducible refine kp_drewN ?_ _ | with_reducible exact Keep.refl _ _))) hK1)
    clear hK1
    go_wp2_with fail
    refine (HG.out _ (by have := HR1.out; (repeat (first | with_reducible assumption | with_reducible refine prall15 ?_ (by first | (simp; done) | (simp; omega) | omega) | with_reducible refine prall9 ?_ (by first | (simp; done) | (simp; omega) | omega) | with_reducible refine prall6 ?_ (by first | (simp; done) | (simp; omega) | omega) | with_reducible refine PR.set ?_ (by first | (simp; done) | (simp; omega) | omega) _ | with_reducible refine PR.alloc ?_ _ | with_reducible refine PR.drew ?_)))).mono ?_
    rintro e w2 ⟨rfl, hb2⟩
    have hk2 := hid (Keep.trans (by have := hk1.out; (repeat (first | with_reducible assumption | with_reducible refine kpall15 ?_ (by first | (refine Or.inr ?_; first | (simp; done) | (simp; omega) | omega)) | with_reducible refine kpall9 ?_ (by first | (refine Or.inr ?_; first | (simp; done) | (simp; omega) | omega)) | with_reducible refine kpall6 ?_ (by first | (refine Or.inr ?_; first | (simp; done) | (simp; omega) | omega)) | with_reducible refine kp_set ?_ (by first | (refine Or.inl ?_; simp; done) | (refine Or.inr ?_; first | (simp; done) | (simp; omega) | omega)) _ | with_reducible refine kp_alloc ?_ _ | with_reducible refine kp_drew ?_ | with_reducible refine kp_drewN ?_ _ | with_reducible exact Keep.refl _ _)) : Keep (· ≠ p) w _) (Keep.ofBelow hb2))
    clear hb2
    go_wp2
    exact ⟨rfl, by have := hk2.out; (repeat (first | with_reducible assumption | with_reducible refine kpall15 ?_ (by first | (refine Or.inr ?_; first | (simp; done) | (simp; omega) | omega)) | with_reducible refine kpall9 ?_ (by first | (refine Or.inr ?_; first | (simp; done) | (simp; omega) | omega)) | with_reducible refine kpall6 ?_ (by first | (refine Or.inr ?_; first | (simp; done) | (simp; omega) | omega)) | with_reducible refine kp_set ?_ (by first | (refine Or.inl ?_; simp; done) | (refine Or.inr ?_; first | (simp; done) | (simp; omega) | omega)) _ | with_reducible refine kp_alloc ?_ _ | with_reducible refine kp_drew ?_ | with_reducible refine kp_drewN ?_ _ | with_reducible exact Keep.refl _ _)), .inr ⟨by rw [HE.out]; exact (by decide : (11 : Int) ≠ 0), by rw [HE.out]⟩⟩
theorem takeW (k : Int) (hk5 : k ≠ 5) (h : PR w0 b off cap ms p w i) : Calls Tryd.prog 42 #[.pointer (some ⟨p, 0, none⟩), .int .i64 k] w fun e w' => Keep (· ≠ p) w w' ∧ ((∃ j m sa sc, Hid ((takeM (stA ms i) k).2 = stA ms j) ∧ Hid (m = (takeM (stA ms i) k).1) ∧ e = .returned (.agg #[.int .i64 m.kind, .string (strOfNums m.s), .int .u64 m.n, .slice sa m.b.length sc, .int .i64 m.line, .int .i64 m.col]) ∧ Hid (Reads w0 sa m.b.length sc m.b) ∧ Hid (okW m) ∧ Hid (PR w0 b off cap ms p w' j)) ∨ Fell (takeM (stA ms i) k).2 e) := by
  have HN := hid (fun W (g : PR w0 b off cap ms p W i) => nextW w0 b off cap ms p W i g)
  have HG := hid (fun W (g : PR w0 b off cap ms p W i) => giveUpW w0 b off cap ms p W i 11 g)
  have hf := wordF0
  have HO := hid h.okW
  by_cases hi : (hdM (stA ms i)).kind = k
  · have HE : Hid (takeM (stA ms i) k = (hdM (stA ms i), stA ms (i + 1))) := hid (by unfold takeM; rw [if_pos (show (stA ms i).cd = 0 from rfl), if_pos hi, nxM_stA])
    have HP := hid (fun W (g : PR w0 b off cap ms p W i) => passPW w0 b off cap ms p W i (by omega) g)
    have hi2 : ((hdM (stA ms i)).kind == k) = true := by simpa using hi
    clear hk5 HG hi
    have hk0 : Hid (Keep (· ≠ p) w w) := hid (Keep.refl _ _)
    have hpl : p < w.heap.size := h.blk.lt
    have HR0 := hid h
    clear h
    generalize hdM (stA ms i) = m at *
    go_enter Tryd.func42, Tryd.ntmps42
    go_wp2_with fail
    refine (HN.out _ (by have := HR0.out; (repeat (first | with_reducible assumption | with_reducible refine prall15 ?_ (by first | (simp; done) | (simp; omega) | omega) | with_reducible refine prall9 ?_ (by first | (simp; done) | (simp; omega) | omega) | with_reducible refine prall6 ?_ (by first | (simp; done) | (simp; omega) | omega) | with_reducible refine PR.set ?_ (by first | (simp; done) | (simp; omega) | omega) _ | with_reducible refine PR.alloc ?_ _ | with_reducible refine PR.drew ?_)))).mono ?_
    rintro e w1 ⟨⟨ra, rc, rfl, hr0⟩, hb1⟩
    have hK1 := Keep.ofBelow (f := (· ≠ p)) hb1
    have HR1 : Hid (PR w0 b off cap ms p w1 (i)) := hid (PR.kept (by have := HR0.out; (repeat (first | with_reducible assumption | with_reducible refine prall15 ?_ (by first | (simp; done) | (simp; omega) | omega) | with_reducible refine prall9 ?_ (by first | (simp; done) | (simp; omega) | omega) | with_reducible refine prall6 ?_ (by first | (simp; done) | (simp; omega) | omega) | with_reducible refine PR.set ?_ (by first | (simp; done) | (simp; omega) | omega) _ | with_reducible refine PR.alloc ?_ _ | with_reducible refine PR.drew ?_))) hb1)
    clear hb1
    have Cr : Blk w1 (w.heap.size) 85 #[.int .i64 0, .string ⟨#[]⟩, .int .u64 0, .slice none 0 0, .int .i64 0, .int .i64 0] := Blk.keep ((Blk.newAt (by simp)).is (by first | rfl | simp)) hK1 (show w.heap.size ≠ p by omega)
    have hs1 := hK1.size
    try simp at hs1
    have Br := Cr
    clear Cr
    have xr := Br.cellF
    have yr := Br.frz
    have zr : w.heap.size < w1.heap.size := by omega
    have hp1 : p < w1.heap.size := by omega
    have hq1 : w.heap.size ≤ w1.heap.size := by omega
    have hk1 : Hid (Keep (· ≠ p) w w1) := hid (Keep.trans (by have := hk0.out; (repeat (first | with_reducible assumption | with_reducible refine kpall15 ?_ (by first | (refine Or.inr ?_; first | (simp; done) | (simp; omega) | omega)) | with_reducible refine kpall9 ?_ (by first | (refine Or.inr ?_; first | (simp; done) | (simp; omega) | omega)) | with_reducible refine kpall6 ?_ (by first | (refine Or.inr ?_; first | (simp; done) | (simp; omega) | omega)) | with_reducible refine kp_set ?_ (by first | (refine Or.inl ?_; simp; done) | (refine Or.inr ?_; first | (simp; done) | (simp; omega) | omega)) _ | with_reducible refine kp_alloc ?_ _ | with_reducible refine kp_drew ?_ | with_reducible refine kp_drewN ?_ _ | with_reducible exact Keep.refl _ _))) hK1)
    clear hK1
    go_wp2_with fail
    refine (HP.out _ (by have := HR1.out; (repeat (first | with_reducible assumption | with_reducible refine prall15 ?_ (by first | (simp; done) | (simp; omega) | omega) | with_reducible refine prall9 ?_ (by first | (simp; done) | (simp; omega) | omega) | with_reducible refine prall6 ?_ (by first | (simp; done) | (simp; omega) | omega) | with_reducible refine PR.set ?_ (by first | (simp; done) | (simp; omega) | omega) _ | with_reducible refine PR.alloc ?_ _ | with_reducible refine PR.drew ?_)))).mono ?_
    rintro e w2 ⟨⟨sa, sc, rfl, hr, HR2⟩, hK2⟩
    have Cr : Blk w2 (w.heap.size) 85 #[.int .i64 0, .string ⟨#[]⟩, .int .u64 0, .slice none 0 0, .int .i64 0, .int .i64 0] := Blk.keep (Br.is (by first | rfl | simp)) hK2 (show w.heap.size ≠ p by omega)
    clear Br xr yr
    have hs2 := hK2.size
    try simp at hs2
    have Br := Cr
    clear Cr
    have xr := Br.cellF
    have yr := Br.frz
    replace zr : w.heap.size < w2.heap.size := by omega
    have hp2 : p < w2.heap.size := by omega
    have hq2 : w.heap.size ≤ w2.heap.size := by omega
    have hk2 : Hid (Keep (· ≠ p) w w2) := hid (Keep.trans (by have := hk1.out; (repeat (first | with_reducible assumption | with_reducible refine kpall15 ?_ (by first | (refine Or.inr ?_; first | (simp; done) | (simp; omega) | omega)) | with_reducible refine kpall9 ?_ (by first | (refine Or.inr ?_; first | (simp; done) | (simp; omega) | omega)) | with_reducible refine kpall6 ?_ (by first | (refine Or.inr ?_; first | (simp; done) | (simp; omega) | omega)) | with_reducible refine kp_set ?_ (by first | (refine Or.inl ?_; simp; done) | (refine Or.inr ?_; first | (simp; done) | (simp; omega) | omega)) _ | with_reducible refine kp_alloc ?_ _ | with_reducible refine kp_drew ?_ | with_reducible refine kp_drewN ?_ _ | with_reducible exact Keep.refl _ _))) hK2)
    clear hK2
    go_wp2
    exact bodyPost_ret (v := .agg #[.int .i64 m.kind, .string (strOfNums m.s), .int .u64 m.n, .slice sa m.b.length sc, .int .i64 m.line, .int .i64 m.col]) (by simp [results, Tryd.results42, go_sem, xr, zr]) rfl ⟨by have := hk2.out; (repeat (first | with_reducible assumption | with_reducible refine kpall15 ?_ (by first | (refine Or.inr ?_; first | (simp; done) | (simp; omega) | omega)) | with_reducible refine kpall9 ?_ (by first | (refine Or.inr ?_; first | (simp; done) | (simp; omega) | omega)) | with_reducible refine kpall6 ?_ (by first | (refine Or.inr ?_; first | (simp; done) | (simp; omega) | omega)) | with_reducible refine kp_set ?_ (by first | (refine Or.inl ?_; simp; done) | (refine Or.inr ?_; first | (simp; done) | (simp; omega) | omega)) _ | with_reducible refine kp_alloc ?_ _ | with_reducible refine kp_drew ?_ | with_reducible refine kp_drewN ?_ _ | with_reducible exact Keep.refl _ _)), .inl ⟨i + 1, m, sa, sc, hid (by rw [HE.out]), hid (by rw [HE.out]), rfl, hr, HO, hid (by have := HR2.out; (repeat (first | with_reducible assumption | with_reducible refine prall15 ?_ (by first | (simp; done) | (simp; omega) | omega) | with_reducible refine prall9 ?_ (by first | (simp; done) | (simp; omega) | omega) | with_reducible refine prall6 ?_ (by first | (simp; done) | (simp; omega) | omega) | with_reducible refine PR.set ?_ (by first | (simp; done) | (simp; omega) | omega) _ | with_reducible refine PR.alloc ?_ _ | with_reducible refine PR.drew ?_)))⟩⟩
  · have HE : Hid ((takeM (stA ms i) k).2 = ⟨ms.drop i, 11, (hdM (stA ms i)).line, (hdM (stA ms i)).col⟩) := hid (by unfold takeM badM; rw [if_pos (show (stA ms i).cd = 0 from rfl), if_neg hi]; simp only []; rw [if_pos (show (stA ms i).cd = 0 from rfl)]; rfl)
    have hi2 : ((hdM (stA ms i)).kind == k) = false := by simpa using hi
    clear hk5 hi
    have hk0 : Hid (Keep (· ≠ p) w w) := hid (Keep.refl _ _)
    have hpl : p < w.heap.size := h.blk.lt
    have HR0 := hid h
    clear h
    generalize hdM (stA ms i) = m at *
    go_enter Tryd.func42, Tryd.ntmps42
    go_wp2_with fail
    refine (HN.out _ (by have := HR0.out; (repeat (first | with_reducible assumption | with_reducible refine prall15 ?_ (by first | (simp; done) | (simp; omega) | omega) | with_reducible refine prall9 ?_ (by first | (simp; done) | (simp; omega) | omega) | with_reducible refine prall6 ?_ (by first | (simp; done) | (simp; omega) | omega) | with_reducible refine PR.set ?_ (by first | (simp; done) | (simp; omega) | omega) _ | with_reducible refine PR.alloc ?_ _ | with_reducible refine PR.drew ?_)))).mono ?_
    rintro e w1 ⟨⟨ra, rc, rfl, hr0⟩, hb1⟩
    have hK1 := Keep.ofBelow (f := (· ≠ p)) hb1
    have HR1 : Hid (PR w0 b off cap ms p w1 (i)) := hid (PR.kept (by have := HR0.out; (repeat (first | with_reducible assumption | with_reducible refine prall15 ?_ (by first | (simp; done) | (simp; omega) | omega) | with_reducible refine prall9 ?_ (by first | (simp; done) | (simp; omega) | omega) | with_reducible refine prall6 ?_ (by first | (simp; done) | (simp; omega) | omega) | with_reducible refine PR.set ?_ (by first | (simp; done) | (simp; omega) | omega) _ | with_reducible refine PR.alloc ?_ _ | with_reducible refine PR.drew ?_))) hb1)
    clear hb1
    have Cr : Blk w1 (w.heap.size) 85 #[.int .i64 0, .string ⟨#[]⟩, .int .u64 0, .slice none 0 0, .int .i64 0, .int .i64 0] := Blk.keep ((Blk.newAt (by simp)).is (by first | rfl | simp)) hK1 (show w.heap.size ≠ p by omega)
    have hs1 := hK1.size
    try simp at hs1
    have Br := Cr
    clear Cr
    have xr := Br.cellF
    have yr := Br.frz
    have zr : w.heap.size < w1.heap.size := by omega
    have hp1 : p < w1.heap.size := by omega
    have hq1 : w.heap.size ≤ w1.heap.size := by omega
    have hk1 : Hid (Keep (· ≠ p) w w1) := hid (Keep.trans (by have := hk0.out; (repeat (first | with_reducible assumption | with_reducible refine kpall15 ?_ (by first | (refine Or.inr ?_; first | (simp; done) | (simp; omega) | omega)) | with_reducible refine kpall9 ?_ (by first | (refine Or.inr ?_; first | (simp; done) | (simp; omega) | omega)) | with_reducible refine kpall6 ?_ (by first | (refine Or.inr ?_; first | (simp; done) | (simp; omega) | omega)) | with_reducible refine kp_set ?_ (by first | (refine Or.inl ?_; simp; done) | (refine Or.inr ?_; first | (simp; done) | (simp; omega) | omega)) _ | with_reducible refine kp_alloc ?_ _ | with_reducible refine kp_drew ?_ | with_reducible refine kp_drewN ?_ _ | with_reducible exact Keep.refl _ _))) hK1)
    clear hK1
    go_wp2_with fail
    refine (HG.out _ (by have := HR1.out; (repeat (first | with_reducible assumption | with_reducible refine prall15 ?_ (by first | (simp; done) | (simp; omega) | omega) | with_reducible refine prall9 ?_ (by first | (simp; done) | (simp; omega) | omega) | with_reducible refine prall6 ?_ (by first | (simp; done) | (simp; omega) | omega) | with_reducible refine PR.set ?_ (by first | (simp; done) | (simp; omega) | omega) _ | with_reducible refine PR.alloc ?_ _ | with_reducible refine PR.drew ?_)))).mono ?_
    rintro e w2 ⟨rfl, hb2⟩
    have hk2 := hid (Keep.trans (by have := hk1.out; (repeat (first | with_reducible assumption | with_reducible refine kpall15 ?_ (by first | (refine Or.inr ?_; first | (simp; done) | (simp; omega) | omega)) | with_reducible refine kpall9 ?_ (by first | (refine Or.inr ?_; first | (simp; done) | (simp; omega) | omega)) | with_reducible refine kpall6 ?_ (by first | (refine Or.inr ?_; first | (simp; done) | (simp; omega) | omega)) | with_reducible refine kp_set ?_ (by first | (refine Or.inl ?_; simp; done) | (refine Or.inr ?_; first | (simp; done) | (simp; omega) | omega)) _ | with_reducible refine kp_alloc ?_ _ | with_reducible refine kp_drew ?_ | with_reducible refine kp_drewN ?_ _ | with_reducible exact Keep.refl _ _)) : Keep (· ≠ p) w _) (Keep.ofBelow hb2))
    clear hb2
    go_wp2
    exact ⟨rfl, by have := hk2.out; (repeat (first | with_reducible assumption | with_reducible refine kpall15 ?_ (by first | (refine Or.inr ?_; first | (simp; done) | (simp; omega) | omega)) | with_reducible refine kpall9 ?_ (by first | (refine Or.inr ?_; first | (simp; done) | (simp; omega) | omega)) | with_reducible refine kpall6 ?_ (by first | (refine Or.inr ?_; first | (simp; done) | (simp; omega) | omega)) | with_reducible refine kp_set ?_ (by first | (refine Or.inl ?_; simp; done) | (refine Or.inr ?_; first | (simp; done) | (simp; omega) | omega)) _ | with_reducible refine kp_alloc ?_ _ | with_reducible refine kp_drew ?_ | with_reducible refine kp_drewN ?_ _ | with_reducible exact Keep.refl _ _)), .inr ⟨by rw [HE.out]; exact (by decide : (11 : Int) ≠ 0), by rw [HE.out]⟩⟩
end
end Go.Proofs.YtidimdbnnnpplaaDoor
