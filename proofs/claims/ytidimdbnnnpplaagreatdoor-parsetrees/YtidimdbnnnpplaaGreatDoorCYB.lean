/-
  The reader of the program lex: its block of eight cells; its small calls.
  The reader's small calls: the next byte, what is left, what was seen; the sets of signs.
  The reader goes on: one byte, several.
  Rows of words: what the program keeps, what the document keeps.
  The reader keeps a word.
  Labels and gotos; the reader's name and sign.
  The reader's comment.
-/
import Derived.Test.YtidimdbnnnpplaaGreatDoorCG
import Derived.Test.YtidimdbnnnpplaaGreatDoorShelf
import Derived.BigQuiet
import Derived.Deep.QuietTactic
import Derived.Deep.RegionWith
import Derived.ScopeJumps
import Derived.Deep.RegionLaw
namespace Go.Proofs.YtidimdbnnnpplaaGreatDoor
open Go.RowKit
set_option maxRecDepth 1000000
/-- All old blocks that f names stay. -/
structure Keep (f : Nat → Prop) (w w' : World) : Prop where
  os : w'.os = w.os
  tape : w'.tape = w.tape
  output : w'.output = w.output
  size : w.heap.size ≤ w'.heap.size
  block : ∀ k, k < w.heap.size → f k → w'.heap[k]? = w.heap[k]?
theorem Keep.refl (f : Nat → Prop) (w : World) : Keep f w w := ⟨rfl, rfl, rfl, Nat.le_refl _, fun _ _ _ => rfl⟩
theorem Keep.trans {f : Nat → Prop} {w w1 w2 : World} (h : Keep f w w1) (g : Keep f w1 w2) : Keep f w w2 :=
  ⟨g.os.trans h.os, g.tape.trans h.tape, g.output.trans h.output, Nat.le_trans h.size g.size, fun k hk hf => by rw [g.block k (Nat.lt_of_lt_of_le hk h.size) hf, h.block k hk hf]⟩
theorem Keep.ofBelow {f : Nat → Prop} {w w' : World} (h : Below w.heap.size w w') : Keep f w w' := ⟨h.os, h.tape, h.output, h.size, fun k hk _ => h.block k hk⟩
theorem Keep.ofGrow {f : Nat → Prop} {w w' : World} {v v' : Value} (g : Grow w w' v v') (hv : ∀ k, f k → v.ownBlock ≠ some k) : Keep f w w' := ⟨g.os, g.tape, g.output, g.size, fun k hk hf => g.block k hk (hv k hf)⟩
theorem Keep.below {f : Nat → Prop} {w w' : World} {B : Nat} (h : Keep f w w') (hB : B ≤ w.heap.size) (hf : ∀ k, k < B → f k) : Below B w w' := ⟨h.os, h.tape, h.output, h.size, fun k hk => h.block k (by omega) (hf k hk)⟩
theorem Keep.setCell {f : Nat → Prop} (w : World) (a : Addr) (u : Value) (ha : ¬ f a.block) : Keep f w (w.setCell a u) :=
  ⟨rfl, rfl, rfl, by simp [World.setCell], fun k _ hf => Below.heap_setCell _ _ _ _ (fun e => ha (e ▸ hf))⟩
theorem Keep.weak {f g : Nat → Prop} {w w' : World} (h : Keep f w w') (hg : ∀ k, g k → f k) : Keep g w w' := ⟨h.os, h.tape, h.output, h.size, fun k hk hf => h.block k hk (hg k hf)⟩
/-- A block of cells that may be written. -/
def Blk (w : World) (p : Nat) (t : TypeId) (cs : Array Value) : Prop := w.heap[p]? = some (.cells cs t (0, 0))
theorem Blk.lt {w : World} {p : Nat} {t : TypeId} {cs : Array Value} (h : Blk w p t cs) : p < w.heap.size := (Array.getElem?_eq_some_iff.1 h).1
theorem Blk.cell {w : World} {p : Nat} {t : TypeId} {cs : Array Value} (h : Blk w p t cs) (i : Nat) (v : Value) (hv : cs[i]? = some v) : w.cell? ⟨p, i, none⟩ = some v := by
  simp only [World.cell?, show w.heap[p]? = _ from h]; simpa using hv
theorem Blk.frozen {w : World} {p : Nat} {t : TypeId} {cs : Array Value} (h : Blk w p t cs) (i : Nat) : w.frozen? ⟨p, i, none⟩ = false := by
  simp [World.frozen?, show w.heap[p]? = _ from h]
theorem Blk.set {w : World} {p : Nat} {t : TypeId} {cs : Array Value} (h : Blk w p t cs) (i : Nat) (v : Value) : Blk (w.setCell ⟨p, i, none⟩ v) p t (cs.setIfInBounds i v) := by
  obtain ⟨hlt, hk⟩ := Array.getElem?_eq_some_iff.1 h
  show (w.heap.modify p _)[p]? = _
  rw [Array.getElem?_eq_getElem (by rw [Array.size_modify]; exact hlt), Array.getElem_modify_self, hk]
  rfl
theorem Blk.new (w : World) (t : TypeId) (cs : Array Value) : Blk (w.alloc (.cells cs t)) w.heap.size t cs := by show (w.heap.push _)[w.heap.size]? = _; simp
theorem Blk.kept {w w' : World} {p : Nat} {t : TypeId} {cs : Array Value} (h : Blk w p t cs) (hb : Below w.heap.size w w') : Blk w' p t cs := (hb.block p h.lt).trans h
theorem Blk.keep {f : Nat → Prop} {w w' : World} {p : Nat} {t : TypeId} {cs : Array Value} (h : Blk w p t cs) (hb : Keep f w w') (hf : f p) : Blk w' p t cs := (hb.block p h.lt hf).trans h
theorem Blk.other {w : World} {p : Nat} {t : TypeId} {cs : Array Value} (h : Blk w p t cs) {a : Addr} (ha : p ≠ a.block) (v : Value) : Blk (w.setCell a v) p t cs := (Below.heap_setCell _ _ _ _ ha).trans h
/-- The reader: the text, where the word began (place and line), where it is, what it kept. -/
structure Rd (w : World) (p : Nat) (xs : List Int) (fr : Nat) (bl bc : Int) (i : Nat) (kept : Value) : Prop where
  blk : Blk w p 108 #[.string (strOfNums xs), .int .i64 fr, .int .i64 i, .int .i64 bl, .int .i64 bc, .int .i64 (lnA xs i), .int .i64 (clA xs i), kept]
section
variable {w w' : World} {p : Nat} {xs : List Int} {fr : Nat} {bl bc : Int} {i : Nat} {kp : Value}
theorem Rd.cells (h : Rd w p xs fr bl bc i kp) : w.cell? ⟨p, 0, none⟩ = some (.string (strOfNums xs)) ∧ w.cell? ⟨p, 1, none⟩ = some (.int .i64 fr) ∧ w.cell? ⟨p, 2, none⟩ = some (.int .i64 i) ∧ w.cell? ⟨p, 3, none⟩ = some (.int .i64 bl) ∧ w.cell? ⟨p, 4, none⟩ = some (.int .i64 bc) ∧
    w.cell? ⟨p, 5, none⟩ = some (.int .i64 (lnA xs i)) ∧ w.cell? ⟨p, 6, none⟩ = some (.int .i64 (clA xs i)) ∧ w.cell? ⟨p, 7, none⟩ = some kp :=
  ⟨h.blk.cell 0 _ rfl, h.blk.cell 1 _ rfl, h.blk.cell 2 _ rfl, h.blk.cell 3 _ rfl, h.blk.cell 4 _ rfl, h.blk.cell 5 _ rfl, h.blk.cell 6 _ rfl, h.blk.cell 7 _ rfl⟩
theorem Rd.kept (h : Rd w p xs fr bl bc i kp) (hb : Below w.heap.size w w') : Rd w' p xs fr bl bc i kp := ⟨h.blk.kept hb⟩
theorem below_drewN (w : World) (n : Nat) : Below w.heap.size w (w.drewN n) := ⟨rfl, rfl, rfl, Nat.le_refl _, fun _ _ => rfl⟩
theorem below_drew1 (w : World) : Below w.heap.size w w.drew := ⟨rfl, rfl, rfl, Nat.le_refl _, fun _ _ => rfl⟩
theorem bt_index {xs : List Int} (hb : ∀ x ∈ xs, 0 ≤ x ∧ x ≤ 255) (i : Nat) (h : i < xs.length) (k : IntKind) (W : World) : (Instr.index 9 (.string (strOfNums xs)) (.int k (i : Int))).run Tryz.prog W = .ok (.int .u8 (bt xs i)) W := index_str hb i h k W
end
section
variable (p : Nat) (xs : List Int) (fr : Nat) (bl bc : Int) (i : Nat) (kept : Value) (w : World)
set_option maxHeartbeats 1000000
theorem endedW (h : Rd w p xs fr bl bc i kept) : Calls Tryz.prog 65 #[.pointer (some ⟨p, 0, none⟩)] w fun e w' => e = .returned (.bool (decide (i = xs.length))) ∧ Below w.heap.size w w' := by
  obtain ⟨c0, _, c2, _⟩ := h.cells
  have hs : (strOfNums xs).size = xs.length := strOfNums_size xs
  have he : ((i : Int) == (xs.length : Int)) = decide (i = xs.length) := by rw [Bool.eq_iff_iff]; simp; omega
  have HE := hid he
  clear he h
  go_enter Tryz.func65, Tryz.ntmps65
  go_wp2
  go_quiet (fail)
  go_wp2
  go_ret
  exact ⟨ret_bool HE.out, below_drewN _ _⟩
end
set_option linter.unusedVariables false
section
variable (p : Nat) (xs : List Int) (fr : Nat) (bl bc : Int) (i : Nat) (kept : Value) (w : World)
theorem peekW (hb : ∀ x ∈ xs, 0 ≤ x ∧ x ≤ 255) (hi : i ≤ xs.length) (hl : xs.length ≤ 65536) (h : Rd w p xs fr bl bc i kept) : Calls Tryz.prog 64 #[.pointer (some ⟨p, 0, none⟩)] w fun e w' => e = .returned (.int .u8 (bt xs i)) ∧ Below w.heap.size w w' := by
  have HE := hid (endedW p xs fr bl bc i kept w h)
  by_cases he : i = xs.length
  · have HB : Hid (bt xs i = 0) := hid (bt_end (by omega))
    rw [show decide (i = xs.length) = true by simpa using he] at HE
    clear he h
    go_enter Tryz.func64, Tryz.ntmps64
    go_wp2_with (go_at_call 65; refine HE.out.mono ?_; rintro e w1 ⟨rfl, hb1⟩; replace hb1 := hid hb1)
    go_ret
    exact ⟨ret_int HB.out.symm, hb1.out⟩
  · rw [show decide (i = xs.length) = false by simpa using he] at HE
    have hlt : i < xs.length := by omega
    have hix := bt_index hb i hlt .i64
    have HR := hid h
    have hs : (strOfNums xs).size = xs.length := strOfNums_size xs
    clear he h hb
    go_enter Tryz.func64, Tryz.ntmps64
    go_wp2_with (go_at_call 65; refine HE.out.mono ?_; rintro e w1 ⟨rfl, hb1⟩; replace hb1 := hid hb1)
    obtain ⟨c0, _, c2, _⟩ := (HR.out.kept hb1.out).cells
    go_quiet (fail)
    go_wp2
    go_ret
    exact ⟨rfl, below_trans hb1.out (below_drewN _ _)⟩
theorem restW (hi : i ≤ xs.length) (hl : xs.length ≤ 65536) (h : Rd w p xs fr bl bc i kept) : Calls Tryz.prog 93 #[.pointer (some ⟨p, 0, none⟩)] w fun e w' => e = .returned (.string (strOfNums (xs.drop i))) ∧ Below w.heap.size w w' := by
  obtain ⟨c0, _, c2, _⟩ := h.cells
  have hs : (strOfNums xs).size = xs.length := strOfNums_size xs
  have hcut : (strOfNums xs).extract i xs.length = strOfNums (xs.drop i) := by rw [str_cut, List.take_of_length_le (Nat.le_refl _)]
  have hi1 : (i : Int) ≤ (xs.length : Int) := by omega
  clear h
  go_enter Tryz.func93, Tryz.ntmps93
  go_wp2
  go_quiet (fail)
  go_wp2
  go_ret
  exact ⟨rfl, below_drewN _ _⟩
theorem seenW (hf : fr ≤ i) (hi : i ≤ xs.length) (hl : xs.length ≤ 65536) (h : Rd w p xs fr bl bc i kept) : Calls Tryz.prog 90 #[.pointer (some ⟨p, 0, none⟩)] w fun e w' => e = .returned (.string (strOfNums (cut xs fr i))) ∧ Below w.heap.size w w' := by
  obtain ⟨c0, c1, c2, _⟩ := h.cells
  have hs : (strOfNums xs).size = xs.length := strOfNums_size xs
  have hcut : (strOfNums xs).extract fr i = strOfNums (cut xs fr i) := str_cut xs fr i
  have hi1 : (i : Int) ≤ (xs.length : Int) := by omega
  have hi2 : (fr : Int) ≤ (i : Int) := by omega
  clear h
  go_enter Tryz.func90, Tryz.ntmps90
  go_wp2
  go_quiet (fail)
  go_wp2
  go_ret
  exact ⟨rfl, below_drewN _ _⟩
end
theorem cloneW (s : ByteArray) (w : World) (hlim : s.size ≤ 281474976710656) : Calls Tryz.prog 55 #[.string s] w fun e w' => e = .returned (.string s) ∧ Below w.heap.size w w' := by
  have H := hid (Tryz.stringslite_Clone s w hlim)
  go_enter Tryz.func55, Tryz.ntmps55
  go_wp2_with (go_at_call 89; refine H.out.mono ?_; rintro e w1 ⟨rfl, hb1⟩; replace hb1 := hid hb1)
  go_ret
  exact ⟨rfl, hb1.out⟩
theorem isOneOfW (s : ByteArray) (c : Int) (b : Bool) (hb : b = decide (0 ≤ Lib.indexByte s.data.toList c.toNat.toUInt8)) (w : World) : Calls Tryz.prog 67 #[.string s, .int .u8 c] w fun e w' => e = .returned (.bool b) ∧ w = w' := by
  subst hb
  have H := hid (Tryz.strings_IndexByte s c w)
  generalize Lib.indexByte s.data.toList c.toNat.toUInt8 = n at *
  go_enter Tryz.func67, Tryz.ntmps67
  go_wp2_with (go_at_call 91; refine H.out.mono ?_; rintro e w1 ⟨rfl, rfl⟩)
  go_ret
  exact ⟨ret_bool (by simp), rfl⟩
theorem byFin {P : Int → Prop} (h : ∀ c : Fin 256, P (c.val : Int)) {c : Int} (h0 : 0 ≤ c) (h1 : c ≤ 255) : P c := by
  obtain ⟨m, rfl⟩ := Int.eq_ofNat_of_zero_le h0
  exact h ⟨m, by omega⟩
section
variable (c : Int) (h0 : 0 ≤ c) (h1 : c ≤ 255) (w : World)
include h0 h1
theorem blankW : Calls Tryz.prog 67 #[.string ⟨#[32, 9, 13, 10]⟩, .int .u8 c] w fun e w' => e = .returned (.bool (isBl c)) ∧ w = w' :=
  isOneOfW _ c _ (byFin (P := fun c => isBl c = decide (0 ≤ Lib.indexByte [32, 9, 13, 10] c.toNat.toUInt8)) (by decide +kernel) h0 h1) w
theorem tenW : Calls Tryz.prog 67 #[.string ⟨#[48, 49, 50, 51, 52, 53, 54, 55, 56, 57]⟩, .int .u8 c] w fun e w' => e = .returned (.bool (digB c)) ∧ w = w' :=
  isOneOfW _ c _ (byFin (P := fun c => digB c = decide (0 ≤ Lib.indexByte [48, 49, 50, 51, 52, 53, 54, 55, 56, 57] c.toNat.toUInt8)) (by decide +kernel) h0 h1) w
theorem sixteenW : Calls Tryz.prog 67 #[.string ⟨#[48, 49, 50, 51, 52, 53, 54, 55, 56, 57, 97, 98, 99, 100, 101, 102, 65, 66, 67, 68, 69, 70]⟩, .int .u8 c] w fun e w' => e = .returned (.bool (hexB c)) ∧ w = w' :=
  isOneOfW _ c _ (byFin (P := fun c => hexB c = decide (0 ≤ Lib.indexByte [48, 49, 50, 51, 52, 53, 54, 55, 56, 57, 97, 98, 99, 100, 101, 102, 65, 66, 67, 68, 69, 70] c.toNat.toUInt8)) (by decide +kernel) h0 h1) w
theorem signsW : Calls Tryz.prog 67 #[.string ⟨#[123, 125, 91, 93, 40, 41, 60, 62, 61, 59, 44, 46, 45, 58, 63]⟩, .int .u8 c] w fun e w' => e = .returned (.bool (sgnB c)) ∧ w = w' :=
  isOneOfW _ c _ (byFin (P := fun c => sgnB c = decide (0 ≤ Lib.indexByte [123, 125, 91, 93, 40, 41, 60, 62, 61, 59, 44, 46, 45, 58, 63] c.toNat.toUInt8)) (by decide +kernel) h0 h1) w
omit h0 h1 in
theorem beginsW : Calls Tryz.prog 70 #[.int .u8 c] w fun e w' => e = .returned (.bool (letB c)) ∧ w = w' := by
  have hc : (97 ≤ c ∧ c ≤ 122) ∨ (97 ≤ c ∧ ¬ c ≤ 122) ∨ (¬ 97 ≤ c ∧ ¬ 65 ≤ c) ∨ (¬ 97 ≤ c ∧ 65 ≤ c ∧ c ≤ 90) ∨ (¬ 97 ≤ c ∧ 65 ≤ c ∧ ¬ c ≤ 90 ∧ c = 95) ∨ (¬ 97 ≤ c ∧ 65 ≤ c ∧ ¬ c ≤ 90 ∧ c ≠ 95) := by omega
  rcases hc with ⟨a1, a2⟩ | ⟨a1, a2⟩ | ⟨a1, a2⟩ | ⟨a1, a2, a3⟩ | ⟨a1, a2, a3, rfl⟩ | ⟨a1, a2, a3, a4⟩
  · have H : Hid (letB c = true) := hid (by unfold letB; simp; omega)
    go_enter Tryz.func70, Tryz.ntmps70
    go_wp2
    go_ret
    exact ⟨ret_bool H.out.symm, rfl⟩
  · have H : Hid (letB c = false) := hid (by unfold letB; simp; omega)
    have hz : (c == 95) = false := by simp; omega
    have a3 : 65 ≤ c := by omega
    have a4 : ¬ c ≤ 90 := by omega
    go_enter Tryz.func70, Tryz.ntmps70
    go_wp2
    go_ret
    exact ⟨ret_bool H.out.symm, rfl⟩
  · have H : Hid (letB c = false) := hid (by unfold letB; simp; omega)
    have hz : (c == 95) = false := by simp; omega
    go_enter Tryz.func70, Tryz.ntmps70
    go_wp2
    go_ret
    exact ⟨ret_bool H.out.symm, rfl⟩
  · have H : Hid (letB c = true) := hid (by unfold letB; simp; omega)
    go_enter Tryz.func70, Tryz.ntmps70
    go_wp2
    go_ret
    exact ⟨ret_bool H.out.symm, rfl⟩
  · go_enter Tryz.func70, Tryz.ntmps70
    go_wp2
    go_ret
    exact ⟨rfl, rfl⟩
  · have H : Hid (letB c = false) := hid (by unfold letB; simp; omega)
    have a5 : (c == 95) = false := by simpa using a4
    clear a4
    go_enter Tryz.func70, Tryz.ntmps70
    go_wp2
    go_ret
    exact ⟨ret_bool H.out.symm, rfl⟩
theorem inNameW : Calls Tryz.prog 95 #[.int .u8 c] w fun e w' => e = .returned (.bool (namB c)) ∧ w = w' := by
  have H1 := hid (beginsW c w)
  have H2 := hid (tenW c h0 h1 w)
  have H : Hid (namB c = (letB c || digB c)) := hid rfl
  generalize namB c = n at *
  generalize digB c = d at *
  cases hl : letB c with
  | true =>
    rw [hl] at H1 H
    go_enter Tryz.func95, Tryz.ntmps95
    go_wp2_with (first | (go_at_call 70; refine H1.out.mono ?_; rintro e w1 ⟨rfl, rfl⟩))
    go_ret
    exact ⟨ret_bool (by rw [H.out]; rfl), rfl⟩
  | false =>
    rw [hl] at H1 H
    go_enter Tryz.func95, Tryz.ntmps95
    go_wp2_with (first | (go_at_call 70; refine H1.out.mono ?_; rintro e w1 ⟨rfl, rfl⟩) | (go_at_call 67; refine H2.out.mono ?_; rintro e w1 ⟨rfl, rfl⟩))
    go_ret
    exact ⟨ret_bool (by rw [H.out]; rfl), rfl⟩
end
theorem Blk.is {w : World} {p : Nat} {t : TypeId} {cs cs' : Array Value} (h : Blk w p t cs) (e : cs = cs') : Blk w p t cs' := e ▸ h
section
variable (p : Nat) (xs : List Int) (fr : Nat) (bl bc : Int) (i : Nat) (kept : Value) (w : World)
theorem passW (hb : ∀ x ∈ xs, 0 ≤ x ∧ x ≤ 255) (hi : i < xs.length) (hl : xs.length ≤ 65536) (h : Rd w p xs fr bl bc i kept) :
    Calls Tryz.prog 68 #[.pointer (some ⟨p, 0, none⟩)] w fun e w' => e = .returned (.tuple #[]) ∧ Rd w' p xs fr bl bc (i + 1) kept ∧ Keep (· ≠ p) w w' := by
  obtain ⟨c0, c1, c2, c3, c4, c5, c6, c7⟩ := h.cells
  have f2 := h.blk.frozen 2
  have f5 := h.blk.frozen 5
  have f6 := h.blk.frozen 6
  have hix := bt_index hb i hi .i64
  have hL := lnA_bd xs i
  have hC := clA_bd xs i
  have HB := hid h.blk
  have hi2 : (i : Int) < 65536 := by omega
  by_cases hc : bt xs i = 10
  · have HL := hid (lnA_nl hc)
    have HC := hid (clA_nl hc)
    rw [hc] at hix
    clear h hb hc hl hi
    generalize lnA xs i = L at *
    generalize clA xs i = C at *
    obtain ⟨hL0, hL1⟩ := hL
    obtain ⟨hC0, hC1⟩ := hC
    go_enter Tryz.func68, Tryz.ntmps68
    go_wp2
    go_quiet (fail)
    go_wp2
    go_end0
    exact ⟨rfl, ⟨Blk.is (((((HB.out.kept (below_drewN _ _)).set 5 _).set 6 _).set 6 _).set 2 _) (by rw [HL.out, HC.out]; simp)⟩, ((((Keep.ofBelow (below_drewN _ _)).trans (Keep.setCell _ _ _ (by simp))).trans (Keep.setCell _ _ _ (by simp))).trans (Keep.setCell _ _ _ (by simp))).trans (Keep.setCell _ _ _ (by simp))⟩
  · have HL := hid (lnA_on hc)
    have HC := hid (clA_on hc)
    have hne : (bt xs i == 10) = false := by simpa using hc
    clear h hb hc hl hi
    generalize lnA xs i = L at *
    generalize clA xs i = C at *
    generalize bt xs i = c at *
    obtain ⟨hL0, hL1⟩ := hL
    obtain ⟨hC0, hC1⟩ := hC
    go_enter Tryz.func68, Tryz.ntmps68
    go_wp2
    go_quiet (fail)
    go_wp2
    go_end0
    exact ⟨rfl, ⟨Blk.is (((HB.out.kept (below_drewN _ _)).set 6 _).set 2 _) (by rw [HL.out, HC.out]; simp)⟩, ((Keep.ofBelow (below_drewN _ _)).trans (Keep.setCell _ _ _ (by simp))).trans (Keep.setCell _ _ _ (by simp))⟩
/-- Two bytes are passed. -/
theorem passTwoW (s : ByteArray) (hs : s.size = 2) (hb : ∀ x ∈ xs, 0 ≤ x ∧ x ≤ 255) (hi : i + 1 < xs.length) (hl : xs.length ≤ 65536) (h : Rd w p xs fr bl bc i kept) :
    Calls Tryz.prog 94 #[.pointer (some ⟨p, 0, none⟩), .string s] w fun e w' => e = .returned (.tuple #[]) ∧ Rd w' p xs fr bl bc (i + 2) kept ∧ Keep (· ≠ p) w w' := by
  have H1 := hid (passW p xs fr bl bc i kept w hb (by omega) hl h)
  have H2 := hid (fun W => passW p xs fr bl bc (i + 1) kept W hb hi hl)
  clear hb hi hl h
  go_enter Tryz.func94, Tryz.ntmps94
  go_wp2
  refine wp_loop_rounds 3 ?_
  rw [rounds_succ]
  go_wp2_with fail
  refine H1.out.mono ?_
  rintro e w1 ⟨rfl, R1, K1⟩
  replace R1 := hid R1
  replace K1 := hid K1
  go_wp2
  rw [rounds_succ]
  go_wp2_with fail
  refine (H2.out _ R1.out).mono ?_
  rintro e w2 ⟨rfl, R2, K2⟩
  replace R2 := hid R2
  replace K2 := hid K2
  go_wp2
  rw [rounds_succ]
  go_wp2
  go_end0
  exact ⟨rfl, R2.out, K1.out.trans K2.out⟩
end
/-- A word as it lies in memory. -/
structure Mw where
  kind : Int
  s : List Int
  n : Int
  b : List Int
  line : Int
  col : Int
def mw (xs : List Int) (x : Wd) : Mw := ⟨x.kind, cut xs x.st x.en, x.n, x.b, lnA xs x.st, clA xs x.st⟩
/-- The cells of a row of words, each with the value of its bytes. -/
def flatW : List (Mw × Value) → List Value
  | [] => []
  | x :: r => .int .i64 x.1.kind :: .string (strOfNums x.1.s) :: .int .u64 x.1.n :: x.2 :: .int .i64 x.1.line :: .int .i64 x.1.col :: flatW r
theorem flatW_append : ∀ (l r : List (Mw × Value)), flatW (l ++ r) = flatW l ++ flatW r
  | [], r => rfl
  | x :: l, r => by simp [flatW, flatW_append l r]
theorem flatW_get : ∀ (l : List (Mw × Value)) (i : Nat) (x : Mw) (v : Value), l[i]? = some (x, v) → (flatW l)[i * 6]? = some (.int .i64 x.kind) ∧ (flatW l)[i * 6 + 1]? = some (.string (strOfNums x.s)) ∧ (flatW l)[i * 6 + 2]? = some (.int .u64 x.n) ∧ (flatW l)[i * 6 + 3]? = some v ∧ (flatW l)[i * 6 + 4]? = some (.int .i64 x.line) ∧ (flatW l)[i * 6 + 5]? = some (.int .i64 x.col)
  | [], i, x, v, h => by simp at h
  | y :: l, 0, x, v, h => by simp at h; subst h; simp [flatW]
  | y :: l, i + 1, x, v, h => by
    have h' : l[i]? = some (x, v) := by simpa using h
    have := flatW_get l i x v h'
    simp only [flatW]
    rw [show (i + 1) * 6 = i * 6 + 6 by omega, show i * 6 + 6 + 1 = i * 6 + 1 + 6 by omega, show i * 6 + 6 + 2 = i * 6 + 2 + 6 by omega, show i * 6 + 6 + 3 = i * 6 + 3 + 6 by omega, show i * 6 + 6 + 4 = i * 6 + 4 + 6 by omega, show i * 6 + 6 + 5 = i * 6 + 5 + 6 by omega]
    simpa using this
/-- Bytes that lie neither in block p nor in v's own. -/
def Off (p : Nat) (v : Value) (len : Nat) (a : Option Addr) : Prop := ∀ y, a = some y → len = 0 ∨ (y.block ≠ p ∧ v.ownBlock ≠ some y.block)
/-- A row of words that a call builds, beside a block p that it writes. -/
structure Kp (w : World) (base p : Nat) (t : TypeId) (v : Value) (ws : List (Mw × Value)) : Prop where
  row : w.ownsRow base t 6 v ws.length (flatW ws)
  np : v.ownBlock ≠ some p
  each : ∀ x ∈ ws, ∃ a c, x.2 = .slice a x.1.b.length c ∧ Reads w a x.1.b.length c x.1.b ∧ Off p v x.1.b.length a
theorem reads_keep {f : Nat → Prop} {w w' : World} {a : Option Addr} {len cap : Nat} {ys : List Int} (h : Reads w a len cap ys) (hf : ∀ y, a = some y → len = 0 ∨ f y.block) (g : Keep f w w') : Reads w' a len cap ys := by
  refine ⟨h.length, h.le, h.max, h.bd, ?_⟩
  rcases h.cells with h0 | ⟨b, off, rfl, hc⟩
  · exact .inl h0
  · rcases hf _ rfl with h0 | hb
    · subst h0
      exact .inl ⟨rfl, fun e => by cases e⟩
    · refine .inr ⟨b, off, rfl, fun i hi => ?_⟩
      have hlt := World.block_lt_of_cell? _ _ (hc i hi)
      have := hc i hi
      have e : w'.cell? ⟨b, off + i, none⟩ = w.cell? ⟨b, off + i, none⟩ := by
        simp only [World.cell?]
        rw [g.block b hlt hb]
      rw [e]
      exact this
theorem own_keep {f : Nat → Prop} {w w' : World} {base e size n : Nat} {v : Value} {xs : List Value} (h : w.ownsRow base e size v n xs) (hv : ∀ k, v.ownBlock = some k → f k) (g : Keep f w w') : w'.ownsRow base e size v n xs := by
  refine ⟨h.1, ?_⟩
  rcases h.2 with hn | ⟨k, cap, cur, rfl, hb, hk, rest⟩
  · exact .inl hn
  · exact .inr ⟨k, cap, cur, rfl, hb, by rw [g.block k (Array.getElem?_eq_some_iff.1 hk).1 (hv k rfl)]; exact hk, rest⟩
section
variable {w w' : World} {base p : Nat} {t : TypeId} {v : Value} {ws : List (Mw × Value)}
theorem Kp.keep (h : Kp w base p t v ws) (g : Keep (· ≠ p) w w') : Kp w' base p t v ws :=
  ⟨own_keep (f := (· ≠ p)) h.row (fun k hk (e : k = p) => h.np (hk.trans (congrArg some e))) g, h.np, fun x hx => by
    obtain ⟨a, c, e, hr, ho⟩ := h.each x hx
    exact ⟨a, c, e, reads_keep hr (fun y hy => (ho y hy).imp id (·.1)) g, ho⟩⟩
theorem Kp.kept (h : Kp w base p t v ws) (hb : Below w.heap.size w w') : Kp w' base p t v ws := h.keep (Keep.ofBelow hb)
theorem Kp.nil (w : World) (base p : Nat) (t : TypeId) : Kp w base p t (.slice none 0 0) [] := ⟨World.ownsRow_nil _ _ _ _, by simp [Value.ownBlock], by simp⟩
end
theorem cell_six_new (w : World) (x0 x1 x2 x3 x4 x5 : Value) (t : TypeId) : ∀ j u, [x0, x1, x2, x3, x4, x5][j]? = some u → (w.alloc (.cells #[x0, x1, x2, x3, x4, x5] t)).cell? ((⟨w.heap.size, 0, none⟩ : Addr).add j) = some u := by
  intro j u h
  have hadd : (⟨w.heap.size, 0, none⟩ : Addr).add j = ⟨w.heap.size, j, none⟩ := by unfold Addr.add; split <;> simp_all
  rw [hadd, World.cell?_alloc_at _ _ _ _ rfl]
  simpa using h
def zw : Value := .agg #[.int .i64 0, .string ⟨#[]⟩, .int .u64 0, .slice none 0 0, .int .i64 0, .int .i64 0]
theorem Tryz.info159 : (Tryz.prog.info? 159).map (fun i => (i.zero, i.size, i.bytes)) = some (some zw, 6, 72) := by kernel_rfl
theorem Tryz.info58 : (Tryz.prog.info? 58).map (fun i => (i.zero, i.size, i.bytes)) = some (some zw, 6, 72) := by kernel_rfl
/-- One word more, laid in a block of its own first. -/
theorem append_word (t ts : TypeId) (hts : Tryz.prog.underlying ts = some (.slice t)) (hinfo : (Tryz.prog.info? t).map (fun i => (i.zero, i.size, i.bytes)) = some (some zw, 6, 72))
    (base p : Nat) (l : Value) (ws : List (Mw × Value)) (w : World) (x : Mw) (a : Option Addr) (c : Nat) (h : Kp w base p t l ws) (hb : base ≤ w.heap.size) (hn : ws.length ≤ 70000) (hp : p < w.heap.size) (hr : Reads w a x.b.length c x.b) (ho : Off p l x.b.length a) :
    ∃ l' w', (Builtin.append_ #[ts, ts] ts #[l, .slice (some ⟨w.heap.size, 0, none⟩) 1 1]).run Tryz.prog (w.alloc (.cells #[.int .i64 x.kind, .string (strOfNums x.s), .int .u64 x.n, .slice a x.b.length c, .int .i64 x.line, .int .i64 x.col] t)) = .ok l' w' ∧ Kp w' base p t l' (ws ++ [(x, .slice a x.b.length c)]) ∧ Grow w w' l l' := by
  obtain ⟨i0, hi, hz0, hz1, hz2⟩ := info_parts hinfo
  obtain ⟨l', w', hr2, hol, hg⟩ := run_append_mine (P := Tryz.prog) (w.alloc (.cells #[.int .i64 x.kind, .string (strOfNums x.s), .int .u64 x.n, .slice a x.b.length c, .int .i64 x.line, .int .i64 x.col] t)) base ts ts t i0 zw 6 72 hts hi hz0 hz1 hz2 rfl (by decide) l ws.length (flatW ws) (h.row.alloc _) ⟨w.heap.size, 0, none⟩ 1 1 [.int .i64 x.kind, .string (strOfNums x.s), .int .u64 x.n, .slice a x.b.length c, .int .i64 x.line, .int .i64 x.col] rfl (cell_six_new _ _ _ _ _ _ _ _) (fun u hu => by simp at hu; rcases hu with rfl | rfl | rfl | rfl | rfl | rfl <;> rfl) (by unfold maxLen; omega) (by omega) (by simp; omega)
  have hG : Grow w w' l l' := ((Grow.refl w l).alloc _).trans hg
  have hK : Keep (fun k => l.ownBlock ≠ some k) w w' := Keep.ofGrow hG (fun k hk => hk)
  refine ⟨l', w', hr2, ⟨?_, ?_, fun y hy => ?_⟩, hG⟩
  · rw [flatW_append, List.length_append]; exact hol
  · intro e
    rcases hG.own with h1 | h1
    · exact h.np (h1.symm.trans e)
    · have := h1 p e; omega
  · have hy' : ∃ a c, y.2 = .slice a y.1.b.length c ∧ Reads w a y.1.b.length c y.1.b ∧ Off p l y.1.b.length a := by
      rcases List.mem_append.1 hy with h1 | h1
      · exact h.each y h1
      · simp at h1; subst h1; exact ⟨a, c, rfl, hr, ho⟩
    obtain ⟨a', c', e, hr', ho'⟩ := hy'
    refine ⟨a', c', e, reads_keep hr' (fun z hz => (ho' z hz).imp id (·.2)) hK, fun z hz => ?_⟩
    rcases ho' z hz with h0 | ⟨h1, h2⟩
    · exact .inl h0
    · by_cases h0 : y.1.b.length = 0
      · exact .inl h0
      · refine .inr ⟨h1, fun e => ?_⟩
        rcases hG.own with h3 | h3
        · exact h2 (h3.symm.trans e)
        · have h4 := h3 _ e
          rcases hr'.cells with ⟨h5, _⟩ | ⟨b, off, e2, hc⟩
          · exact h0 h5
          · subst hz
            cases e2
            have := World.block_lt_of_cell? _ _ (hc 0 (by omega))
            simp at h4 this
            omega
set_option maxHeartbeats 4000000
section
variable (p : Nat) (xs : List Int) (fr : Nat) (bl bc : Int) (i : Nat) (kept : Value) (w : World)
theorem keepW (base : Nat) (ws : List (Mw × Value)) (kind n : Int) (b : List Int) (a : Option Addr) (c : Nat) (hf : fr ≤ i) (hi : i ≤ xs.length) (hl : xs.length ≤ 65536) (h : Rd w p xs fr bl bc i kept)
    (hk : Kp w base p 159 kept ws) (hbase : base ≤ w.heap.size) (hn : ws.length ≤ 70000) (hr : Reads w a b.length c b) (ho : Off p kept b.length a) :
    Calls Tryz.prog 66 #[.pointer (some ⟨p, 0, none⟩), .agg #[.int .i64 kind, .string ⟨#[]⟩, .int .u64 n, .slice a b.length c, .int .i64 0, .int .i64 0]] w fun e w' => e = .returned (.tuple #[]) ∧
      ∃ kept', Rd w' p xs fr bl bc i kept' ∧ Kp w' base p 159 kept' (ws ++ [(⟨kind, cut xs fr i, n, b, bl, bc⟩, .slice a b.length c)]) ∧ Keep (fun k => k ≠ p ∧ kept.ownBlock ≠ some k) w w' := by
  have HSE := hid (fun W => seenW p xs fr bl bc i kept W hf hi hl)
  have HCL := hid (fun W => cloneW (strOfNums (cut xs fr i)) W (by rw [strOfNums_size, cut_length _ _ _ hi]; omega))
  have HR := hid h
  have HK := hid hk
  have HBS := hid hbase
  have HN := hid hn
  have HRB := hid hr
  have HO := hid ho
  generalize hS : cut xs fr i = S at *
  clear h hk hbase hn hr ho hf hi hl
  go_enter Tryz.func66, Tryz.ntmps66
  go_wp2_with fail
  refine (HSE.out _ (HR.out.kept (below_alloc _))).mono ?_
  rintro e w1 ⟨rfl, hb1⟩
  go_wp2_with fail
  refine (HCL.out _).mono ?_
  rintro e w2 ⟨rfl, hb2⟩
  have hbb := below_trans hb1 hb2
  have HQ := hid ((Blk.new w 159 #[.int .i64 kind, .string ⟨#[]⟩, .int .u64 n, .slice a b.length c, .int .i64 0, .int .i64 0]).kept hbb)
  have HB := hid (below_trans (below_alloc _) hbb)
  clear hb1 hb2 hbb
  have hq : ∀ o, w2.frozen? ⟨w.heap.size, o, none⟩ = false := fun o => HQ.out.frozen o
  have q0 : w2.cell? ⟨w.heap.size, 0, none⟩ = some (.int .i64 kind) := HQ.out.cell 0 _ rfl
  have q1 : w2.cell? ⟨w.heap.size, 1, none⟩ = some (.string ⟨#[]⟩) := HQ.out.cell 1 _ rfl
  have q2 : w2.cell? ⟨w.heap.size, 2, none⟩ = some (.int .u64 n) := HQ.out.cell 2 _ rfl
  have q3 : w2.cell? ⟨w.heap.size, 3, none⟩ = some (.slice a b.length c) := HQ.out.cell 3 _ rfl
  have q4 : w2.cell? ⟨w.heap.size, 4, none⟩ = some (.int .i64 0) := HQ.out.cell 4 _ rfl
  have q5 : w2.cell? ⟨w.heap.size, 5, none⟩ = some (.int .i64 0) := HQ.out.cell 5 _ rfl
  obtain ⟨c0, c1, c2, c3, c4, c5, c6, c7⟩ := (HR.out.kept HB.out).cells
  have f7 := (HR.out.kept HB.out).blk.frozen 7
  have hpq : p < w.heap.size := HR.out.blk.lt
  go_wp2
  go_region
  go_wp2
  obtain ⟨w3, hw3⟩ : ∃ w3, (((w2.setCell ⟨w.heap.size, 1, none⟩ (.string (strOfNums S))).setCell ⟨w.heap.size, 4, none⟩ (.int .i64 bl)).setCell ⟨w.heap.size, 5, none⟩ (.int .i64 bc)).drew = w3 := ⟨_, rfl⟩
  have hpq2 : p ≠ w.heap.size := by omega
  have HQ3 : Hid (Blk w3 w.heap.size 159 #[.int .i64 kind, .string (strOfNums S), .int .u64 n, .slice a b.length c, .int .i64 bl, .int .i64 bc]) := hid (by
    rw [← hw3]
    exact Blk.kept (Blk.is (((HQ.out.set 1 _).set 4 _).set 5 _) (by simp)) (below_drew1 _))
  have HR3 : Hid (Rd w3 p xs fr bl bc i kept) := hid (by
    rw [← hw3]
    exact ⟨Blk.kept ((((HR.out.kept HB.out).blk.other (by simpa using hpq2) _).other (by simpa using hpq2) _).other (by simpa using hpq2) _) (below_drew1 _)⟩)
  have HB3 : Hid (Below w.heap.size w w3) := hid (by
    rw [← hw3]
    exact (((HB.out.setCell (by simp) _).setCell (by simp) _).setCell (by simp) _).drew)
  rw [hw3]
  clear hw3 q0 q1 q2 q3 q4 q5 c0 c1 c2 c3 c4 c5 c6 c7 f7 hq HQ HB
  have hsz3 := HB3.out.size
  obtain ⟨l', w4, hrun, hK4, hG4⟩ := append_word 159 44 Tryz.underlying44 Tryz.info159 base p kept ws w3.drew ⟨kind, S, n, b, bl, bc⟩ a c (HK.out.kept (below_trans HB3.out (below_drew1 _))) (by have := HBS.out; simp; omega) HN.out (by simp; omega) (reads_kept HRB.out (below_trans HB3.out (below_drew1 _))) HO.out
  obtain ⟨la, lc, hl'⟩ := own_shape hK4.row
  obtain ⟨ln, hln⟩ : ∃ ln, (ws ++ [((⟨kind, S, n, b, bl, bc⟩ : Mw), Value.slice a b.length c)]).length = ln := ⟨_, rfl⟩
  rw [hln] at hl'
  clear hln
  subst hl'
  have hb4 : Keep (fun k => k ≠ p ∧ kept.ownBlock ≠ some k) w w4 := ((Keep.ofBelow HB3.out).trans (Keep.ofBelow (below_drew1 _))).trans (Keep.ofGrow hG4 (fun k hk => hk.2))
  have hR4 : Rd w4 p xs fr bl bc i kept := ⟨(HR3.out.blk.kept (below_drew1 _)).keep (Keep.ofGrow (f := fun k => kept.ownBlock ≠ some k) hG4 (fun k hk => hk)) HK.out.np⟩
  simp only [World.size_drew] at hrun
  have HRUN := hid hrun
  have HK4 := hid hK4
  have HR4 := hid hR4
  have HB4 := hid hb4
  clear hrun hK4 hR4 hb4 hG4
  have q0 : w3.cell? ⟨w.heap.size, 0, none⟩ = some (.int .i64 kind) := HQ3.out.cell 0 _ rfl
  have q1 : w3.cell? ⟨w.heap.size, 1, none⟩ = some (.string (strOfNums S)) := HQ3.out.cell 1 _ rfl
  have q2 : w3.cell? ⟨w.heap.size, 2, none⟩ = some (.int .u64 n) := HQ3.out.cell 2 _ rfl
  have q3 : w3.cell? ⟨w.heap.size, 3, none⟩ = some (.slice a b.length c) := HQ3.out.cell 3 _ rfl
  have q4 : w3.cell? ⟨w.heap.size, 4, none⟩ = some (.int .i64 bl) := HQ3.out.cell 4 _ rfl
  have q5 : w3.cell? ⟨w.heap.size, 5, none⟩ = some (.int .i64 bc) := HQ3.out.cell 5 _ rfl
  obtain ⟨c0, c1, c2, c3, c4, c5, c6, c7⟩ := HR3.out.cells
  have f7 : w4.frozen? ⟨p, 7, none⟩ = false := HR4.out.blk.frozen 7
  have d7 : w4.cell? ⟨p, 7, none⟩ = some kept := HR4.out.cells.2.2.2.2.2.2.2
  have hp3 : p < w3.heap.size := HR3.out.blk.lt
  have hq3 : w.heap.size < w3.heap.size := HQ3.out.lt
  go_region_law (refine step_append_ran rfl _ _ 44 44 rfl rfl _ _ (.slice la ln lc) w4 rfl rfl HRUN.out ?_)
  all_goals go_wp2
  all_goals go_end0
  all_goals exact ⟨rfl, _, ⟨Blk.is (HR4.out.blk.set 7 _) (by simp)⟩, HK4.out.keep (Keep.setCell _ _ _ (by simp)), HB4.out.trans (Keep.setCell _ _ _ (by simp))⟩
end
/-- As Q; by a goto to label l: J l. -/
def Exit.jumps (J : Nat → Act → World → Prop) (Q : Exit → Act → World → Prop) : Exit → Act → World → Prop
  | .goto l, a, w => J l a w
  | e, a, w => Q e a w
/-- A scope with several labels: what holds at each of them, and a number that falls from jump to jump. -/
theorem wp_scope_multi {P : Program} {a : Act} {w : World} {Q : Exit → Act → World → Prop} {c : Code} (rest : Nat → Code) (J : Nat → Nat → Act → World → Prop) (hf : ∀ l g a w, J l g a w → findLabel c l = some (rest l))
    (first : c.wp P (Exit.jumps (fun l a w => ∃ g, J l g a w) Q) a w)
    (pass : ∀ l g a w, J l g a w → (rest l).wp P (Exit.jumps (fun l' a' w' => ∃ g', g' < g ∧ J l' g' a' w') Q) a w) : (Code.scope c).wp P Q a w := by
  intro b k cs
  have hg : ∀ l g a w, J l g a w → gotoIn l (.inScope c :: k) = some (.code (rest l) :: .inScope c :: k) := fun l g a w h => by simp [gotoIn, hf l g a w h]
  have key : ∀ g l a w, J l g a w → ∃ e a' w', Q e a' w' ∧ Arrives P (lone (b.at a (.code (rest l) :: .inScope c :: k)) cs w) b k cs e a' w' := by
    intro g
    induction g using Nat.strongRecOn with
    | _ g ih =>
      intro l a w hJ
      obtain ⟨e, a₁, w₁, hq, harr⟩ := pass l g a w hJ b (.inScope c :: k) cs
      cases e with
      | normal => exact ⟨.normal, a₁, w₁, hq, Steps.trans harr (.one step_inScope)⟩
      | exit id => exact ⟨.exit id, a₁, w₁, hq, fun k' hk => harr k' (by simp [exitTo, hk])⟩
      | goto l' =>
        obtain ⟨g', hlt, hJ'⟩ := hq
        obtain ⟨e₂, a₂, w₂, hq₂, harr₂⟩ := ih g' hlt l' a₁ w₁ hJ'
        exact ⟨e₂, a₂, w₂, hq₂, .of_steps (harr _ (hg l' g' a₁ w₁ hJ')) harr₂⟩
      | ret => exact ⟨_, a₁, w₁, hq, harr⟩
      | panic ch => exact ⟨_, a₁, w₁, hq, harr⟩
      | outgrown => exact ⟨_, a₁, w₁, hq, harr⟩
  obtain ⟨e, a₁, w₁, hq, harr⟩ := first b (.inScope c :: k) cs
  cases e with
  | normal => exact ⟨.normal, a₁, w₁, hq, .head step_scope (Steps.trans harr (.one step_inScope))⟩
  | exit id => exact ⟨.exit id, a₁, w₁, hq, fun k' hk => .head step_scope (harr k' (by simp [exitTo, hk]))⟩
  | goto l' =>
    obtain ⟨g, hJ'⟩ := hq
    obtain ⟨e₂, a₂, w₂, hq₂, harr₂⟩ := key g l' a₁ w₁ hJ'
    exact ⟨e₂, a₂, w₂, hq₂, .of_steps (.head step_scope (harr _ (hg l' g a₁ w₁ hJ'))) harr₂⟩
  | ret => exact ⟨_, a₁, w₁, hq, .of_steps (.one step_scope) harr⟩
  | panic ch => exact ⟨_, a₁, w₁, hq, .of_steps (.one step_scope) harr⟩
  | outgrown => exact ⟨_, a₁, w₁, hq, .of_steps (.one step_scope) harr⟩
/-- One label. -/
theorem wp_scope_one {P : Program} {a : Act} {w : World} {Q : Exit → Act → World → Prop} {c r0 : Code} (J : Nat → Act → World → Prop) (h0 : findLabel c 0 = some r0)
    (first : c.wp P (Exit.jumps (fun l a w => l = 0 ∧ ∃ g, J g a w) Q) a w)
    (pass : ∀ g a w, J g a w → r0.wp P (Exit.jumps (fun l' a' w' => l' = 0 ∧ ∃ g', g' < g ∧ J g' a' w') Q) a w) : (Code.scope c).wp P Q a w := by
  refine wp_scope_multi (fun _ => r0) (fun l g a w => l = 0 ∧ J g a w) (fun l g a w h => by rw [h.1]; exact h0) (wp_mono first ?_) (fun l g a w h => wp_mono (pass g a w h.2) ?_)
  · intro e a w h
    cases e <;> first | exact h | (obtain ⟨h1, g, h2⟩ := h; exact ⟨g, h1, h2⟩)
  · intro e a w h
    cases e <;> first | exact h | (obtain ⟨h1, g, h2, h3⟩ := h; exact ⟨g, h2, h1, h3⟩)
/-- A label at the front: the first time is as every other. -/
theorem wp_scope_front {P : Program} {a : Act} {w : World} {Q : Exit → Act → World → Prop} {r0 : Code} (J : Nat → Act → World → Prop) (g : Nat) (first : J g a w)
    (pass : ∀ g a w, J g a w → r0.wp P (Exit.jumps (fun l' a' w' => l' = 0 ∧ ∃ g', g' < g ∧ J g' a' w') Q) a w) : (Code.scope ((Code.label 0).seq r0)).wp P Q a w := by
  refine wp_scope_one (r0 := Code.skip.seq r0) J (by simp [findLabel]) (wp_seq (wp_label (wp_mono (pass g a w first) ?_))) (fun g a w h => wp_seq (wp_skip (pass g a w h)))
  intro e a w h
  cases e <;> first | exact h | (obtain ⟨h1, g, h2, h3⟩ := h; exact ⟨h1, g, h3⟩)
section
variable (p : Nat) (xs : List Int) (fr : Nat) (bl bc : Int) (i : Nat) (kept : Value) (w : World)
/-- What a call that keeps one word leaves. -/
def Took (base : Nat) (xs : List Int) (p fr : Nat) (bl bc : Int) (kept : Value) (ws : List (Mw × Value)) (w : World) (kind : Int) (j : Nat) (n : Int) (b : List Int) (w' : World) : Prop :=
  ∃ kept' bv, Rd w' p xs fr bl bc j kept' ∧ Kp w' base p 159 kept' (ws ++ [(⟨kind, cut xs fr j, n, b, bl, bc⟩, bv)]) ∧ Keep (fun k => k ≠ p ∧ kept.ownBlock ≠ some k) w w'
theorem keep_weak {p : Nat} {kept : Value} {w w' : World} (h : Keep (· ≠ p) w w') : Keep (fun k => k ≠ p ∧ kept.ownBlock ≠ some k) w w' := h.weak fun k hk => hk.1
theorem signW (base : Nat) (ws : List (Mw × Value)) (hb : ∀ x ∈ xs, 0 ≤ x ∧ x ≤ 255) (hf : fr ≤ i) (hi : i < xs.length) (hl : xs.length ≤ 65536) (h : Rd w p xs fr bl bc i kept) (hk : Kp w base p 159 kept ws) (hbase : base ≤ w.heap.size) (hn : ws.length ≤ 70000) :
    Calls Tryz.prog 74 #[.pointer (some ⟨p, 0, none⟩)] w fun e w' => e = .returned (.tuple #[]) ∧ Took base xs p fr bl bc kept ws w 4 (i + 1) 0 [] w' := by
  have H1 := hid (passW p xs fr bl bc i kept w hb hi hl h)
  have HK := hid hk
  have H2 := hid (fun W (g1 : Rd W p xs fr bl bc (i + 1) kept) (g2 : Kp W base p 159 kept ws) (g3 : base ≤ W.heap.size) => keepW p xs fr bl bc (i + 1) kept W base ws 4 0 [] none 0 (by omega) hi hl g1 g2 g3 hn (reads_nil _) (fun y hy => by cases hy))
  have HBS := hid hbase
  clear hb hi hl h hk hbase hn hf
  go_enter Tryz.func74, Tryz.ntmps74
  go_wp2_with fail
  refine H1.out.mono ?_
  rintro e w1 ⟨rfl, R1, K1⟩
  have HR1 := hid R1
  have HK1 := hid K1
  clear R1 K1
  go_wp2_with fail
  refine (H2.out _ HR1.out (HK.out.keep HK1.out) (Nat.le_trans HBS.out HK1.out.size)).mono ?_
  rintro e w2 ⟨rfl, kept', R2, K2, B2⟩
  have HH : Hid (Took base xs p fr bl bc kept ws w 4 (i + 1) 0 [] w2) := hid ⟨kept', _, R2, K2, (keep_weak HK1.out).trans B2⟩
  clear R2 K2 B2
  go_wp2
  go_end0
  exact ⟨rfl, HH.out⟩
theorem nameW (base : Nat) (ws : List (Mw × Value)) (hb : ∀ x ∈ xs, 0 ≤ x ∧ x ≤ 255) (hf : fr ≤ i) (hi : i < xs.length) (hl : xs.length ≤ 65536) (h : Rd w p xs fr bl bc i kept) (hk : Kp w base p 159 kept ws) (hbase : base ≤ w.heap.size) (hn : ws.length ≤ 70000) :
    Calls Tryz.prog 71 #[.pointer (some ⟨p, 0, none⟩)] w fun e w' => e = .returned (.tuple #[]) ∧ Took base xs p fr bl bc kept ws w 1 (sc namB xs (i + 1)) 0 [] w' := by
  have HPA := hid (fun W j (hj : j < xs.length) (g1 : Rd W p xs fr bl bc j kept) => passW p xs fr bl bc j kept W hb hj hl g1)
  have HPE := hid (fun W j (hj : j ≤ xs.length) (g1 : Rd W p xs fr bl bc j kept) => peekW p xs fr bl bc j kept W hb hj hl g1)
  have HIN := hid (fun W j => inNameW (bt xs j) (bt_bd hb j).1 (bt_bd hb j).2 W)
  have HK := hid hk
  have H2 := hid (fun W j (hj : j ≤ xs.length) (hfj : fr ≤ j) (g1 : Rd W p xs fr bl bc j kept) (g2 : Kp W base p 159 kept ws) (g3 : base ≤ W.heap.size) => keepW p xs fr bl bc j kept W base ws 1 0 [] none 0 hfj hj hl g1 g2 g3 hn (reads_nil _) (fun y hy => by cases hy))
  have HBS := hid hbase
  have HR := hid h
  clear hb hl h hk hbase hn
  go_enter Tryz.func71, Tryz.ntmps71
  go_wp2
  refine wp_scope_front (fun g a' w' => ∃ (j : Nat) (u1 u2 u3 u4 u5 u6 u7 u8 u9 : Value), a' = { tmps := #[.pointer (some ⟨p, 0, none⟩), u1, u2, u3, u4, u5, u6, u7, u8, u9], defers := [] } ∧ i ≤ j ∧ j < xs.length ∧ g = xs.length - j ∧ Hid (Rd w' p xs fr bl bc j kept) ∧ Hid (Keep (· ≠ p) w w') ∧ Hid (sc namB xs (j + 1) = sc namB xs (i + 1))) (xs.length - i) ?_ ?_
  · exact ⟨i, _, _, _, _, _, _, _, _, _, rfl, Nat.le_refl _, hi, rfl, HR, hid (Keep.refl _ _), hid rfl⟩
  · rintro g a' w' ⟨j, u1, u2, u3, u4, u5, u6, u7, u8, u9, rfl, hij, hj, rfl, R0, K0, S0⟩
    go_wp2_with fail
    refine (HPA.out _ j hj R0.out).mono ?_
    rintro e w1 ⟨rfl, R1, K1⟩
    have HR1 := hid R1
    have HK1 := hid (K0.out.trans K1)
    clear R1 K1
    go_wp2_with fail
    refine (HPE.out _ (j + 1) (by omega) HR1.out).mono ?_
    rintro e w2 ⟨rfl, B2⟩
    have HR2 := hid (HR1.out.kept B2)
    have HK2 := hid (HK1.out.trans (Keep.ofBelow B2))
    clear B2
    go_wp2_with fail
    refine (HIN.out _ (j + 1)).mono ?_
    rintro e w3 ⟨rfl, rfl⟩
    cases hnm : namB (bt xs (j + 1)) with
    | true =>
      have hj1 : j + 1 < xs.length := by
        rcases Nat.lt_or_ge (j + 1) xs.length with h | h
        · exact h
        · rw [bt_end h] at hnm; cases hnm
      have HS2 : Hid (sc namB xs (j + 1 + 1) = sc namB xs (i + 1)) := hid (by rw [← S0.out, ← sc_step hj1 hnm])
      go_wp2
      go_step3
      exact ⟨rfl, xs.length - (j + 1), by omega, j + 1, _, _, _, _, _, _, _, _, _, rfl, by omega, hj1, rfl, HR2, HK2, HS2⟩
    | false =>
      have HS2 : Hid (j + 1 = sc namB xs (i + 1)) := hid (by rw [← S0.out, sc_stop hnm])
      go_wp2_with fail
      refine (H2.out _ (j + 1) (by omega) (by omega) HR2.out (HK.out.keep HK2.out) (Nat.le_trans HBS.out HK2.out.size)).mono ?_
      rintro e w4 ⟨rfl, kept', R4, K4, B4⟩
      have HH : Hid (Took base xs p fr bl bc kept ws w 1 (sc namB xs (i + 1)) 0 [] w4) := hid (by rw [← HS2.out]; exact ⟨kept', _, R4, K4, (keep_weak HK2.out).trans B4⟩)
      clear R4 K4 B4
      go_wp2
      simp only [Exit.jumps]
      go_end0
      exact ⟨rfl, HH.out⟩
end
/-- Two labels. -/
theorem wp_scope_two {P : Program} {a : Act} {w : World} {Q : Exit → Act → World → Prop} {c r0 r1 : Code} (J0 J1 : Nat → Act → World → Prop) (h0 : findLabel c 0 = some r0) (h1 : findLabel c 1 = some r1)
    (first : c.wp P (Exit.jumps (fun l a w => (l = 0 ∧ ∃ g, J0 g a w) ∨ (l = 1 ∧ ∃ g, J1 g a w)) Q) a w)
    (pass0 : ∀ g a w, J0 g a w → r0.wp P (Exit.jumps (fun l a w => (l = 0 ∧ ∃ g', g' < g ∧ J0 g' a w) ∨ (l = 1 ∧ ∃ g', g' < g ∧ J1 g' a w)) Q) a w)
    (pass1 : ∀ g a w, J1 g a w → r1.wp P (Exit.jumps (fun l a w => (l = 0 ∧ ∃ g', g' < g ∧ J0 g' a w) ∨ (l = 1 ∧ ∃ g', g' < g ∧ J1 g' a w)) Q) a w) : (Code.scope c).wp P Q a w := by
  refine wp_scope_multi (fun l => if l = 0 then r0 else r1) (fun l g a w => (l = 0 ∧ J0 g a w) ∨ (l = 1 ∧ J1 g a w)) (fun l g a w h => ?_) (wp_mono first ?_) (fun l g a w h => ?_)
  · rcases h with ⟨rfl, _⟩ | ⟨rfl, _⟩
    · exact h0
    · exact h1
  · intro e a w h
    cases e <;> first | exact h | (rcases h with ⟨h1, g, h2⟩ | ⟨h1, g, h2⟩; exact ⟨g, .inl ⟨h1, h2⟩⟩; exact ⟨g, .inr ⟨h1, h2⟩⟩)
  · rcases h with ⟨rfl, h⟩ | ⟨rfl, h⟩
    · refine wp_mono (pass0 g a w h) ?_
      intro e a w h
      cases e <;> first | exact h | (rcases h with ⟨h1, g, hg, h2⟩ | ⟨h1, g, hg, h2⟩; exact ⟨g, hg, .inl ⟨h1, h2⟩⟩; exact ⟨g, hg, .inr ⟨h1, h2⟩⟩)
    · refine wp_mono (pass1 g a w h) ?_
      intro e a w h
      cases e <;> first | exact h | (rcases h with ⟨h1, g, hg, h2⟩ | ⟨h1, g, hg, h2⟩; exact ⟨g, hg, .inl ⟨h1, h2⟩⟩; exact ⟨g, hg, .inr ⟨h1, h2⟩⟩)
section
variable (p : Nat) (xs : List Int) (fr : Nat) (bl bc : Int) (i : Nat) (kept : Value) (w : World)
/-- What a call over one token leaves. -/
def Went (base : Nat) (xs : List Int) (p fr : Nat) (bl bc : Int) (kept : Value) (ws : List (Mw × Value)) (w : World) (t : Tk) (e : Ending) (w' : World) : Prop := match t with
  | .skip j => e = .returned (.int .i64 0) ∧ Rd w' p xs fr bl bc j kept ∧ Keep (· ≠ p) w w'
  | .word kind j n b => e = .returned (.int .i64 0) ∧ Took base xs p fr bl bc kept ws w kind j n b w'
  | .bad c => e = .returned (.int .i64 c) ∧ ∃ j, Rd w' p xs fr bl bc j kept ∧ Keep (· ≠ p) w w'
theorem prefix_two {xs : List Int} (hb : ∀ x ∈ xs, 0 ≤ x ∧ x ≤ 255) (i : Nat) (hi : i ≤ xs.length) (a b : UInt8) (ha : a ≠ 0) (hb0 : b ≠ 0) : Lib.hasPrefix (strOfNums (xs.drop i)).data.toList [a, b] = decide (bt xs i = (a.toNat : Int) ∧ bt xs (i + 1) = (b.toNat : Int)) := by
  have hu : ∀ (c : Int) (d : UInt8), 0 ≤ c → c ≤ 255 → ((UInt8.ofNat c.toNat = d) ↔ c = (d.toNat : Int)) := by
    intro c d h0 h1
    constructor
    · intro e
      have := congrArg UInt8.toNat e
      simp only [UInt8.toNat_ofNat'] at this
      omega
    · intro e
      subst e
      simp
  rw [strOfNums_data]
  have hz : ∀ d : UInt8, d ≠ 0 → (0 : Int) ≠ (d.toNat : Int) := by
    intro d hd e
    apply hd
    apply UInt8.toNat_inj.1
    simp
    omega
  rcases Nat.lt_or_ge i xs.length with h | h
  · have e1 : xs.drop i = bt xs i :: xs.drop (i + 1) := by rw [List.drop_eq_getElem_cons h]; simp [bt, h]
    rcases Nat.lt_or_ge (i + 1) xs.length with h2 | h2
    · have e2 : xs.drop (i + 1) = bt xs (i + 1) :: xs.drop (i + 1 + 1) := by rw [List.drop_eq_getElem_cons h2]; simp [bt, h2]
      rw [e1, e2]
      rw [Bool.eq_iff_iff]
      simp only [Lib.hasPrefix, List.map_cons, List.isPrefixOf, Bool.and_eq_true, beq_iff_eq, decide_eq_true_eq, and_true]
      rw [eq_comm (a := a), eq_comm (a := b), hu _ _ (bt_bd hb i).1 (bt_bd hb i).2, hu _ _ (bt_bd hb (i + 1)).1 (bt_bd hb (i + 1)).2]
    · rw [e1, List.drop_eq_nil_of_le h2, bt_end h2]
      have := hz b hb0
      simp [Lib.hasPrefix, List.isPrefixOf, this]
  · rw [List.drop_eq_nil_of_le h, bt_end h]
    have := hz a ha
    simp [Lib.hasPrefix, this]
theorem prefixW2 (a b : UInt8) (ha : a ≠ 0) (hb0 : b ≠ 0) (hb : ∀ x ∈ xs, 0 ≤ x ∧ x ≤ 255) (hi : i ≤ xs.length) : Calls Tryz.prog 92 #[.string (strOfNums (xs.drop i)), .string ⟨#[a, b]⟩] w fun e w' => e = .returned (.bool (decide (bt xs i = (a.toNat : Int) ∧ bt xs (i + 1) = (b.toNat : Int)))) ∧ w = w' := by
  refine (Tryz.strings_HasPrefix (strOfNums (xs.drop i)) ⟨#[a, b]⟩ w).mono ?_
  rintro e w' ⟨rfl, rfl⟩
  rw [← prefix_two hb i hi a b ha hb0]
  exact ⟨rfl, rfl⟩
theorem prefixEnd (hb : ∀ x ∈ xs, 0 ≤ x ∧ x ≤ 255) (hi : i ≤ xs.length) : Calls Tryz.prog 92 #[.string (strOfNums (xs.drop i)), .string ⟨#[42, 47]⟩] w fun e w' => e = .returned (.bool (decide (bt xs i = 42 ∧ bt xs (i + 1) = 47))) ∧ w = w' := prefixW2 xs i w 42 47 (by decide) (by decide) hb hi
theorem prefixHex (hb : ∀ x ∈ xs, 0 ≤ x ∧ x ≤ 255) (hi : i ≤ xs.length) : Calls Tryz.prog 92 #[.string (strOfNums (xs.drop i)), .string ⟨#[48, 120]⟩] w fun e w' => e = .returned (.bool (hxA xs i)) ∧ w = w' := prefixW2 xs i w 48 120 (by decide) (by decide) hb hi
theorem commentW (base : Nat) (ws : List (Mw × Value)) (hb : ∀ x ∈ xs, 0 ≤ x ∧ x ≤ 255) (hi : i < xs.length) (hl : xs.length ≤ 65536) (h : Rd w p xs fr bl bc i kept) :
    Calls Tryz.prog 69 #[.pointer (some ⟨p, 0, none⟩)] w fun e w' => Went base xs p fr bl bc kept ws w (tokC xs i) e w' := by
  have HPA := hid (fun W j (hj : j < xs.length) (g1 : Rd W p xs fr bl bc j kept) => passW p xs fr bl bc j kept W hb hj hl g1)
  have HPE := hid (fun W j (hj : j ≤ xs.length) (g1 : Rd W p xs fr bl bc j kept) => peekW p xs fr bl bc j kept W hb hj hl g1)
  have HEN := hid (fun W j (g1 : Rd W p xs fr bl bc j kept) => endedW p xs fr bl bc j kept W g1)
  have HRE := hid (fun W j (hj : j ≤ xs.length) (g1 : Rd W p xs fr bl bc j kept) => restW p xs fr bl bc j kept W hj hl g1)
  have HPX := hid (fun W j (hj : j ≤ xs.length) => prefixEnd xs j W hb hj)
  have HTW := hid (fun W j (hj : j + 1 < xs.length) (g1 : Rd W p xs fr bl bc j kept) => passTwoW p xs fr bl bc j kept W ⟨#[42, 47]⟩ rfl hb hj hl g1)
  have HBD := hid (fun j => bt_bd hb j)
  have HR := hid h
  clear hb hl h
  go_enter Tryz.func69, Tryz.ntmps69
  go_wp2
  refine wp_scope_two (fun g a' w' => bt xs (i + 1) = 47 ∧ ∃ (j : Nat) (u1 u2 u3 u4 u5 u6 u7 u8 u9 u10 u11 u12 u13 u14 u15 u16 u17 u18 u19 u20 u21 u22 u23 u24 u25 u26 u27 u28 u29 u30 : Value), a' = { tmps := #[.pointer (some ⟨p, 0, none⟩), u1, u2, u3, u4, u5, u6, u7, u8, u9, u10, u11, u12, u13, u14, u15, u16, u17, u18, u19, u20, u21, u22, u23, u24, u25, u26, u27, u28, u29, u30], defers := [] } ∧ j ≤ xs.length ∧ g = xs.length - j ∧ Hid (Rd w' p xs fr bl bc j kept) ∧ Hid (Keep (· ≠ p) w w') ∧ Hid (sc notNl xs j = sc notNl xs (i + 1)))
    (fun g a' w' => bt xs (i + 1) = 42 ∧ ∃ (j : Nat) (u1 u2 u3 u4 u5 u6 u7 u8 u9 u10 u11 u12 u13 u14 u15 u16 u17 u18 u19 u20 u21 u22 u23 u24 u25 u26 u27 u28 u29 u30 : Value), a' = { tmps := #[.pointer (some ⟨p, 0, none⟩), u1, u2, u3, u4, u5, u6, u7, u8, u9, u10, u11, u12, u13, u14, u15, u16, u17, u18, u19, u20, u21, u22, u23, u24, u25, u26, u27, u28, u29, u30], defers := [] } ∧ j ≤ xs.length ∧ g = xs.length - j ∧ Hid (Rd w' p xs fr bl bc j kept) ∧ Hid (Keep (· ≠ p) w w') ∧ Hid (bk xs j = bk xs (i + 2))) rfl rfl ?_ ?_ ?_
  · go_wp2_with fail
    refine (HPA.out _ i hi HR.out).mono ?_
    rintro e w1 ⟨rfl, R1, K1⟩
    have HR1 := hid R1
    have HK1 := hid K1
    clear R1 K1
    go_wp2_with fail
    refine (HPE.out _ (i + 1) (by omega) HR1.out).mono ?_
    rintro e w2 ⟨rfl, B2⟩
    have HR2 := hid (HR1.out.kept B2)
    have HK2 := hid (HK1.out.trans (Keep.ofBelow B2))
    clear B2
    by_cases h47 : bt xs (i + 1) = 47
    · rw [h47]
      have HX := hid h47
      clear h47
      go_wp2
      go_step3
      exact .inl ⟨rfl, xs.length - (i + 1), HX.out, i + 1, _, _, _, _, _, _, _, _, _, _, _, _, _, _, _, _, _, _, _, _, _, _, _, _, _, _, _, _, _, _, rfl, by omega, rfl, HR2, HK2, hid rfl⟩
    · by_cases h42 : bt xs (i + 1) = 42
      · have hi1 : i + 1 < xs.length := by
          rcases Nat.lt_or_ge (i + 1) xs.length with h | h
          · exact h
          · rw [bt_end h] at h42; omega
        rw [h42]
        have HX := hid h42
        clear h42 h47
        go_wp2_with fail
        refine (HPA.out _ (i + 1) hi1 HR2.out).mono ?_
        rintro e w3 ⟨rfl, R3, K3⟩
        have HR3 := hid R3
        have HK3 := hid (HK2.out.trans K3)
        clear R3 K3
        go_wp2
        go_step3
        exact .inr ⟨rfl, xs.length - (i + 2), HX.out, i + 2, _, _, _, _, _, _, _, _, _, _, _, _, _, _, _, _, _, _, _, _, _, _, _, _, _, _, _, _, _, _, rfl, by omega, rfl, HR3, HK3, hid rfl⟩
      · have e1 : (bt xs (i + 1) == 47) = false := by simpa using h47
        have e2 : (bt xs (i + 1) == 42) = false := by simpa using h42
        have HT : Hid (tokC xs i = .bad 11) := hid (by unfold tokC; rw [if_neg h47, if_neg h42])
        clear h47 h42
        go_wp2
        simp only [Exit.jumps]
        go_ret
        rw [HT.out]
        exact ⟨rfl, _, HR2.out, HK2.out⟩
  · rintro g a' w' ⟨h47, j, u1, u2, u3, u4, u5, u6, u7, u8, u9, u10, u11, u12, u13, u14, u15, u16, u17, u18, u19, u20, u21, u22, u23, u24, u25, u26, u27, u28, u29, u30, rfl, hj, rfl, R0, K0, S0⟩
    have HT : Hid (tokC xs i = .skip (sc notNl xs (i + 1))) := hid (by unfold tokC; rw [if_pos h47])
    have HX := hid h47
    clear h47
    go_wp2_with fail
    refine (HEN.out _ j R0.out).mono ?_
    rintro e w1 ⟨rfl, B1⟩
    have HR1 := hid (R0.out.kept B1)
    have HK1 := hid (K0.out.trans (Keep.ofBelow B1))
    clear B1
    by_cases hje : j = xs.length
    · have HS : Hid (j = sc notNl xs (i + 1)) := hid (by rw [← S0.out, sc_end (by omega)])
      rw [show decide (j = xs.length) = true by simpa using hje]
      clear hje
      go_wp2
      simp only [Exit.jumps]
      go_ret
      rw [HT.out, ← HS.out]
      exact ⟨rfl, HR1.out, HK1.out⟩
    · rw [show decide (j = xs.length) = false by simpa using hje]
      have hjl : j < xs.length := by omega
      go_wp2_with fail
      refine (HPE.out _ j hj HR1.out).mono ?_
      rintro e w2 ⟨rfl, B2⟩
      have HR2 := hid (HR1.out.kept B2)
      have HK2 := hid (HK1.out.trans (Keep.ofBelow B2))
      clear B2
      by_cases h10 : bt xs j = 10
      · have HS : Hid (j = sc notNl xs (i + 1)) := hid (by rw [← S0.out, sc_stop (by simp [notNl, h10])])
        rw [h10]
        clear h10
        go_wp2
        simp only [Exit.jumps]
        go_ret
        rw [HT.out, ← HS.out]
        exact ⟨rfl, HR2.out, HK2.out⟩
      · have HS : Hid (sc notNl xs (j + 1) = sc notNl xs (i + 1)) := hid (by rw [← S0.out, ← sc_step hjl (by simp [notNl, h10])])
        have e1 : (bt xs j == 10) = false := by simpa using h10
        clear h10
        go_wp2_with fail
        refine (HPA.out _ j hjl HR2.out).mono ?_
        rintro e w3 ⟨rfl, R3, K3⟩
        have HR3 := hid R3
        have HK3 := hid (HK2.out.trans K3)
        clear R3 K3
        go_wp2
        go_step3
        exact .inl ⟨rfl, xs.length - (j + 1), by omega, HX.out, j + 1, _, _, _, _, _, _, _, _, _, _, _, _, _, _, _, _, _, _, _, _, _, _, _, _, _, _, _, _, _, _, rfl, by omega, rfl, HR3, HK3, HS⟩
  · rintro g a' w' ⟨h42, j, u1, u2, u3, u4, u5, u6, u7, u8, u9, u10, u11, u12, u13, u14, u15, u16, u17, u18, u19, u20, u21, u22, u23, u24, u25, u26, u27, u28, u29, u30, rfl, hj, rfl, R0, K0, S0⟩
    have HX := hid h42
    have HT : Hid (tokC xs i = match bk xs (i + 2) with | none => .bad 11 | some k => .skip k) := hid (by unfold tokC; rw [if_neg (by omega), if_pos h42]; cases bk xs (i + 2) <;> rfl)
    clear h42
    go_wp2_with fail
    refine (HEN.out _ j R0.out).mono ?_
    rintro e w1 ⟨rfl, B1⟩
    have HR1 := hid (R0.out.kept B1)
    have HK1 := hid (K0.out.trans (Keep.ofBelow B1))
    clear B1
    by_cases hje : j = xs.length
    · have HS : Hid (bk xs (i + 2) = none) := hid (by rw [← S0.out, bk_end (by omega)])
      rw [show decide (j = xs.length) = true by simpa using hje]
      clear hje
      go_wp2
      simp only [Exit.jumps]
      go_ret
      rw [HT.out, HS.out]
      exact ⟨rfl, _, HR1.out, HK1.out⟩
    · rw [show decide (j = xs.length) = false by simpa using hje]
      have hjl : j < xs.length := by omega
      clear hje
      go_wp2_with fail
      refine (HRE.out _ j hj HR1.out).mono ?_
      rintro e w2 ⟨rfl, B2⟩
      have HR2 := hid (HR1.out.kept B2)
      have HK2 := hid (HK1.out.trans (Keep.ofBelow B2))
      clear B2
      go_wp2_with fail
      refine (HPX.out _ j hj).mono ?_
      rintro e w3 ⟨rfl, rfl⟩
      by_cases hh : bt xs j = 42 ∧ bt xs (j + 1) = 47
      · have HS : Hid (bk xs (i + 2) = some (j + 2)) := hid (by rw [← S0.out, bk_here hh.1 hh.2])
        have hj1 : j + 1 < xs.length := by
          rcases Nat.lt_or_ge (j + 1) xs.length with h | h
          · exact h
          · have := hh.2; rw [bt_end h] at this; omega
        rw [show decide (bt xs j = 42 ∧ bt xs (j + 1) = 47) = true by simpa using hh]
        clear hh
        go_wp2_with fail
        refine (HTW.out _ j hj1 HR2.out).mono ?_
        rintro e w4 ⟨rfl, R4, K4⟩
        have HR4 := hid R4
        have HK4 := hid (HK2.out.trans K4)
        clear R4 K4
        go_wp2
        simp only [Exit.jumps]
        go_ret
        rw [HT.out, HS.out]
        exact ⟨rfl, HR4.out, HK4.out⟩
      · have HS : Hid (bk xs (j + 1) = bk xs (i + 2)) := hid (by rw [← S0.out, ← bk_step hjl hh])
        rw [show decide (bt xs j = 42 ∧ bt xs (j + 1) = 47) = false by simpa using hh]
        clear hh
        go_wp2_with fail
        refine (HPA.out _ j hjl HR2.out).mono ?_
        rintro e w4 ⟨rfl, R4, K4⟩
        have HR4 := hid R4
        have HK4 := hid (HK2.out.trans K4)
        clear R4 K4
        go_wp2
        go_step3
        exact .inr ⟨rfl, xs.length - (j + 1), by omega, HX.out, j + 1, _, _, _, _, _, _, _, _, _, _, _, _, _, _, _, _, _, _, _, _, _, _, _, _, _, _, _, _, _, _, rfl, by omega, rfl, HR4, HK4, HS⟩
end
end Go.Proofs.YtidimdbnnnpplaaGreatDoor
