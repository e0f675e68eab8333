/-
  What holds of blocks and rows wherever they lie; nothing of the program's functions.
  Plain mathematics for the layer quote: characters of UTF-8 (how wide the first one is; how many there are), quoted texts and their parts. Nothing of the program.
  Plain mathematics for words: bytes by place, lines and columns, scanning, the words of a text; nothing of the program.
  Names: letters, digits, one word (of the program table and of the document).
  Lists of names.
  Lists of names: areNames.
  Kinds, as the tables ask of them.
  A field by itself: its kind, reference, label, oneof, key.
  A field by itself: its label, its oneof, its reference.
  A field by itself, whole.
  Rows of fields, symbols, ranges, types, cell by cell; numbers that rise.
  All fields by themselves; the members of oneofs.
  Each oneof has a member.
  No two are the same: a map's size.
  No two are the same: what the program answers.
  Rows of one's own that grow.
  The symbols of an enum.
-/
import Derived.Test.YtliohglpbmpbhaaRows
import Derived.RowKit
import Derived.WalkKit
import Derived.WalkSpells
import Derived.WalkLawsBesides
import Derived.Outline
import Derived.Below
import Derived.WalkMore
import Derived.OwnWalk
import Derived.OpenShut
import Derived.BigQuiet
import Derived.Deep.QuietTactic
import Derived.ScopeJumps
import Derived.Laws.BytesArg
import Derived.Laws.AppendOwnNone
import Derived.Deep.CutRange
namespace Go.Proofs.Ytliohglpbmpbhaa
open Go.RowKit
set_option maxRecDepth 1000000
set_option linter.unusedVariables false
theorem ret_bool {a b : Bool} (h : a = b) : Ending.returned (.bool a) = .returned (.bool b) := by rw [h]
theorem hid {p : Prop} (h : p) : Hid p := h
theorem below_alloc {w : World} (o : Obj) : Below w.heap.size w (w.alloc o) := (Below.refl _ _).alloc (Nat.le_refl _) o
theorem below_trans {w w1 w2 : World} (h1 : Below w.heap.size w w1) (h2 : Below w1.heap.size w1 w2) : Below w.heap.size w w2 := h1.trans (h2.mono h1.size)
/-- All old blocks that f names stay. -/
structure Keep (f : Nat → Prop) (w w' : World) : Prop where
  os : w'.os = w.os
  tape : w'.tape = w.tape
  output : w'.output = w.output
  size : w.heap.size ≤ w'.heap.size
  block : ∀ k, k < w.heap.size → f k → w'.heap[k]? = w.heap[k]?
theorem Keep.refl (f : Nat → Prop) (w : World) : Keep f w w := ⟨rfl, rfl, rfl, Nat.le_refl _, fun _ _ _ => rfl⟩
theorem Keep.trans {f : Nat → Prop} {w w1 w2 : World} (h : Keep f w w1) (g : Keep f w1 w2) : Keep f w w2 :=
  ⟨g.os.trans h.os, g.tape.trans h.tape, g.output.trans h.output, Nat.le_trans h.size g.size, fun k hk hf => by rw [g.block k (Nat.lt_of_lt_of_le hk h.size) hf, h.block k hk hf]⟩
theorem Keep.ofBelow {f : Nat → Prop} {w w' : World} (h : Below w.heap.size w w') : Keep f w w' := ⟨h.os, h.tape, h.output, h.size, fun k hk _ => h.block k hk⟩
theorem Keep.below {f : Nat → Prop} {w w' : World} {B : Nat} (h : Keep f w w') (hB : B ≤ w.heap.size) (hf : ∀ k, k < B → f k) : Below B w w' := ⟨h.os, h.tape, h.output, h.size, fun k hk => h.block k (by omega) (hf k hk)⟩
theorem Keep.setCell {f : Nat → Prop} (w : World) (a : Addr) (u : Value) (ha : ¬ f a.block) : Keep f w (w.setCell a u) :=
  ⟨rfl, rfl, rfl, by simp [World.setCell], fun k _ hf => Below.heap_setCell _ _ _ _ (fun e => ha (e ▸ hf))⟩
theorem Keep.weak {f g : Nat → Prop} {w w' : World} (h : Keep f w w') (hg : ∀ k, g k → f k) : Keep g w w' := ⟨h.os, h.tape, h.output, h.size, fun k hk hf => h.block k hk (hg k hf)⟩
/-- A block of cells that may be written. -/
def Blk (w : World) (p : Nat) (t : TypeId) (cs : Array Value) : Prop := w.heap[p]? = some (.cells cs t (0, 0))
theorem Blk.lt {w : World} {p : Nat} {t : TypeId} {cs : Array Value} (h : Blk w p t cs) : p < w.heap.size := (Array.getElem?_eq_some_iff.1 h).1
theorem Blk.cell {w : World} {p : Nat} {t : TypeId} {cs : Array Value} (h : Blk w p t cs) (i : Nat) (v : Value) (hv : cs[i]? = some v) : w.cell? ⟨p, i, none⟩ = some v := by
  simp only [World.cell?, show w.heap[p]? = _ from h]; simpa using hv
theorem Blk.frozen {w : World} {p : Nat} {t : TypeId} {cs : Array Value} (h : Blk w p t cs) (i : Nat) : w.frozen? ⟨p, i, none⟩ = false := by
  simp [World.frozen?, show w.heap[p]? = _ from h]
theorem Blk.set {w : World} {p : Nat} {t : TypeId} {cs : Array Value} (h : Blk w p t cs) (i : Nat) (v : Value) : Blk (w.setCell ⟨p, i, none⟩ v) p t (cs.setIfInBounds i v) := by
  obtain ⟨hlt, hk⟩ := Array.getElem?_eq_some_iff.1 h
  show (w.heap.modify p _)[p]? = _
  rw [Array.getElem?_eq_getElem (by rw [Array.size_modify]; exact hlt), Array.getElem_modify_self, hk]
  rfl
theorem Blk.new (w : World) (t : TypeId) (cs : Array Value) : Blk (w.alloc (.cells cs t)) w.heap.size t cs := by show (w.heap.push _)[w.heap.size]? = _; simp
theorem Blk.kept {w w' : World} {p : Nat} {t : TypeId} {cs : Array Value} (h : Blk w p t cs) (hb : Below w.heap.size w w') : Blk w' p t cs := (hb.block p h.lt).trans h
theorem Blk.keep {f : Nat → Prop} {w w' : World} {p : Nat} {t : TypeId} {cs : Array Value} (h : Blk w p t cs) (hb : Keep f w w') (hf : f p) : Blk w' p t cs := (hb.block p h.lt hf).trans h
theorem Blk.other {w : World} {p : Nat} {t : TypeId} {cs : Array Value} (h : Blk w p t cs) {a : Addr} (ha : p ≠ a.block) (v : Value) : Blk (w.setCell a v) p t cs := (Below.heap_setCell _ _ _ _ ha).trans h
theorem below_drewN (w : World) (n : Nat) : Below w.heap.size w (w.drewN n) := ⟨rfl, rfl, rfl, Nat.le_refl _, fun _ _ => rfl⟩
theorem below_drew1 (w : World) : Below w.heap.size w w.drew := ⟨rfl, rfl, rfl, Nat.le_refl _, fun _ _ => rfl⟩
theorem Blk.is {w : World} {p : Nat} {t : TypeId} {cs cs' : Array Value} (h : Blk w p t cs) (e : cs = cs') : Blk w p t cs' := e ▸ h
theorem cell_below {w0 w : World} {p : Addr} {v : Value} (h : w0.cell? p = some v) (hb : Below w0.heap.size w0 w) : w.cell? p = some v := by
  rw [hb.cell (World.block_lt_of_cell? _ _ h)]; exact h
theorem Blk.newAt {w : World} {p : Nat} {t : TypeId} {cs : Array Value} (h : p = w.heap.size) : Blk (w.alloc (.cells cs t)) p t cs := h ▸ Blk.new w t cs
theorem Blk.cellF {w : World} {p : Nat} {t : TypeId} {cs : Array Value} (h : Blk w p t cs) : ∀ i, w.cell? ⟨p, i, none⟩ = cs[i]? := fun i => by
  simp [World.cell?, show w.heap[p]? = _ from h]
theorem Blk.frz {w : World} {p : Nat} {t : TypeId} {cs : Array Value} (h : Blk w p t cs) : ∀ i, w.frozen? ⟨p, i, none⟩ = false := fun i => h.frozen i
theorem bl_alloc {w w' : World} (h : Below w.heap.size w w') (o : Obj) : Below w.heap.size w (w'.alloc o) := h.alloc h.size o
theorem bl_set {w w' : World} {p : Addr} (h : Below w.heap.size w w') (hp : w.heap.size ≤ p.block) (v : Value) : Below w.heap.size w (w'.setCell p v) := h.setCell hp v
theorem bl_drew {w w' : World} (h : Below w.heap.size w w') : Below w.heap.size w w'.drew := ⟨h.os, h.tape, h.output, h.size, h.block⟩
theorem bl_drewN {w w' : World} (h : Below w.heap.size w w') (n : Nat) : Below w.heap.size w (w'.drewN n) := ⟨h.os, h.tape, h.output, h.size, h.block⟩
theorem bl_then {w w1 w2 : World} (h : Below w.heap.size w w1) (g : Below w1.heap.size w1 w2) : Below w.heap.size w w2 := below_trans h g
theorem blA {w w' : World} {p : Addr} {v : Value} (h : Below w.heap.size w w') (hp : w.heap.size ≤ p.block := by first | (simp; done) | (simp; omega) | omega) : Below w.heap.size w (w'.setCell p v) := bl_set h hp v
theorem blBy {w w' : World} (h : Below w.heap.size w w' := by (with_reducible repeat (first | assumption | refine blA ?_ | refine bl_alloc ?_ _ | refine bl_drew ?_ | refine bl_drewN ?_ _ | exact Below.refl _ _))) : Below w.heap.size w w' := h
/-- A row of structs of k cells that can be read, in a block that Z names. -/
structure RowV (w : World) (Z : Nat → Prop) (k : Nat) (a : Option Addr) (len cap : Nat) (fl : List Value) : Prop where
  length : fl.length = len * k
  le : len ≤ cap
  max : cap ≤ 9223372036854775807
  cells : (len = 0 ∧ (a = none → cap = 0)) ∨ ∃ b off, a = some ⟨b, off, none⟩ ∧ Z b ∧ ∀ j u, fl[j]? = some u → w.cell? ⟨b, off + j, none⟩ = some u
theorem RowV.keep {w w' : World} {Z f : Nat → Prop} {k : Nat} {a : Option Addr} {len cap : Nat} {fl : List Value} (h : RowV w Z k a len cap fl) (g : Keep f w w') (hf : ∀ k, Z k → f k) : RowV w' Z k a len cap fl := by
  refine ⟨h.length, h.le, h.max, ?_⟩
  rcases h.cells with h0 | ⟨b, off, rfl, hz, hc⟩
  · exact .inl h0
  · refine .inr ⟨b, off, rfl, hz, fun j u hu => ?_⟩
    have h1 := hc j u hu
    have hlt := World.block_lt_of_cell? _ _ h1
    rw [← h1]
    simp only [World.cell?]
    rw [g.block b hlt (hf b hz)]
theorem RowV.weak {w : World} {Z Z' : Nat → Prop} {k : Nat} {a : Option Addr} {len cap : Nat} {fl : List Value} (h : RowV w Z k a len cap fl) (hz : ∀ k, Z k → Z' k) : RowV w Z' k a len cap fl :=
  ⟨h.length, h.le, h.max, h.cells.imp id fun ⟨b, off, e, h1, h2⟩ => ⟨b, off, e, hz b h1, h2⟩⟩
def RowS (w : World) (Z : Nat → Prop) (k : Nat) (v : Value) (n : Nat) (fl : List Value) : Prop := ∃ a cap, v = .slice a n cap ∧ RowV w Z k a n cap fl
theorem RowS.keep {w w' : World} {Z f : Nat → Prop} {k : Nat} {v : Value} {n : Nat} {fl : List Value} (h : RowS w Z k v n fl) (g : Keep f w w') (hf : ∀ k, Z k → f k) : RowS w' Z k v n fl := by
  obtain ⟨a, c, e, h⟩ := h
  exact ⟨a, c, e, h.keep g hf⟩
theorem RowS.weak {w : World} {Z Z' : Nat → Prop} {k : Nat} {v : Value} {n : Nat} {fl : List Value} (h : RowS w Z k v n fl) (hz : ∀ k, Z k → Z' k) : RowS w Z' k v n fl := by
  obtain ⟨a, c, e, h⟩ := h
  exact ⟨a, c, e, h.weak hz⟩
theorem flatM_get {α : Type} {g : α → List Value} {k : Nat} (hk : ∀ x, (g x).length = k) : ∀ (l : List α) (i j : Nat) (x : α) (u : Value), l[i]? = some x → (g x)[j]? = some u → (l.flatMap g)[i * k + j]? = some u
  | [], i, j, x, u, h, _ => by simp at h
  | y :: l, 0, j, x, u, h, hu => by
    simp at h
    subst h
    have hj : j < (g y).length := (List.getElem?_eq_some_iff.1 hu).1
    rw [List.flatMap_cons, Nat.zero_mul, Nat.zero_add, List.getElem?_append_left hj]
    exact hu
  | y :: l, i + 1, j, x, u, h, hu => by
    have h' : l[i]? = some x := by simpa using h
    rw [List.flatMap_cons, List.getElem?_append_right (by rw [hk, Nat.add_mul]; omega), hk]
    rw [show (i + 1) * k + j - k = i * k + j by rw [Nat.add_mul]; omega]
    exact flatM_get hk l i j x u h' hu
theorem flatM_len {α : Type} {g : α → List Value} {k : Nat} (hk : ∀ x, (g x).length = k) : ∀ (l : List α), (l.flatMap g).length = l.length * k
  | [] => by simp
  | y :: l => by rw [List.flatMap_cons, List.length_append, hk, flatM_len hk l, List.length_cons, Nat.add_mul]; omega
theorem rowAt {α : Type} {g : α → List Value} {K : Nat} (hK : ∀ x, (g x).length = K) {w : World} {Z : Nat → Prop} {l : List α} {a : Option Addr} {n c : Nat} (h : RowS w Z K (.slice a n c) l.length (l.flatMap g)) {i : Nat} {x : α} (hx : l[i]? = some x) : ∃ b o, a = some ⟨b, o, none⟩ ∧ ∀ j u, (g x)[j]? = some u → w.cell? ⟨b, o + i * K + j, none⟩ = some u := by
  obtain ⟨_, _, e, hv⟩ := h
  cases e
  rcases hv.cells with ⟨h0, _⟩ | ⟨b, o, e, _, hc⟩
  · have := (List.getElem?_eq_some_iff.1 hx).1
    omega
  · refine ⟨b, o, e, fun j u hu => ?_⟩
    rw [Nat.add_assoc]
    exact hc _ _ (flatM_get hK l i j x u hx hu)
theorem rowS_sl {w : World} {Z : Nat → Prop} {k n : Nat} {v : Value} {fl : List Value} (h : RowS w Z k v n fl) : ∃ a c, v = .slice a n c ∧ n ≤ 9223372036854775807 := by
  obtain ⟨a, c, e, hv⟩ := h
  exact ⟨a, c, e, Nat.le_trans hv.le hv.max⟩
theorem RowS.kept {w w' : World} {Z : Nat → Prop} {k n : Nat} {v : Value} {fl : List Value} (h : RowS w Z k v n fl) (hb : Below w.heap.size w w') : RowS w' Z k v n fl := h.keep (f := fun _ => True) (Keep.ofBelow hb) (fun _ _ => trivial)
theorem rowS_nil (w : World) (Z : Nat → Prop) (k : Nat) : RowS w Z k (.slice none 0 0) 0 [] := ⟨none, 0, rfl, by simp, Nat.le_refl _, by omega, .inl ⟨rfl, fun _ => rfl⟩⟩
/-! ### Quoted texts -/
def dg (n : Int) : Int := if n < 10 then 48 + n else 87 + n
def hx (c : Int) : Int := if 48 ≤ c ∧ c ≤ 57 then c - 48 else if 97 ≤ c ∧ c ≤ 102 then c - 87 else if 65 ≤ c ∧ c ≤ 70 then c - 55 else -1
/-- The byte at a place; behind the end 0. -/
def bt (xs : List Int) (i : Nat) : Int := xs[i]?.getD 0
/-- The first place from i on at which p does not hold. -/
def scF (p : Int → Bool) (xs : List Int) : Nat → Nat → Nat
  | 0, i => i
  | f + 1, i => if p (bt xs i) = true then scF p xs f (i + 1) else i
def sc (p : Int → Bool) (xs : List Int) (i : Nat) : Nat := scF p xs (xs.length - i) i
/-- What stands at a place: something to go over, a word, a fault. -/
inductive Tk where
  | skip (j : Nat)
  | word (kind : Int) (e : Nat) (n : Int) (b : List Int)
  | bad (code : Int)
/-- A token goes on, within the text. -/
def Tk.ok (xs : List Int) (i : Nat) : Tk → Prop
  | .skip j => i < j ∧ j ≤ xs.length
  | .word _ e _ _ => i < e ∧ e ≤ xs.length
  | .bad _ => True
set_option linter.unusedSimpArgs false
set_option maxHeartbeats 2000000
set_option maxHeartbeats 600000
def cN (x : List Int) : List Value := [.string (strOfNums x)]
def AnyZ : Nat → Prop := fun _ => True
section
variable (ns : List (List Int)) (w : World) (a : Option Addr) (n c : Nat)
end
set_option maxHeartbeats 1000000
/-- A number that is no kind: what the walks ask of it. -/
def NoKind (k : Int) : Prop := (k == 1) = false ∧ (k == 2) = false ∧ (k == 3) = false ∧ (k == 4) = false ∧ (k == 5) = false ∧ (k == 6) = false ∧ (k == 7) = false ∧ (k == 8) = false ∧ (k == 9) = false ∧ (k == 10) = false ∧ (k == 11) = false ∧ (k == 12) = false ∧ (k == 13) = false ∧ (k == 14) = false ∧ (k == 15) = false ∧ (k == 16) = false ∧ (k == 17) = false
theorem noKind {k : Int} (h : k < 1 ∨ 17 < k) : NoKind k := by
  unfold NoKind
  simp only [beq_eq_false_iff_ne]
  omega
theorem kinds (k : Int) : k = 1 ∨ k = 2 ∨ k = 3 ∨ k = 4 ∨ k = 5 ∨ k = 6 ∨ k = 7 ∨ k = 8 ∨ k = 9 ∨ k = 10 ∨ k = 11 ∨ k = 12 ∨ k = 13 ∨ k = 14 ∨ k = 15 ∨ k = 16 ∨ k = 17 ∨ k < 1 ∨ 17 < k := by omega
/-- The wire kind; -1: no kind. -/
def kwire (k : Int) : Int := if k = 8 ∨ k = 10 ∨ k = 12 then 5 else if k = 9 ∨ k = 11 ∨ k = 13 then 1 else if k = 14 ∨ k = 15 ∨ k = 17 then 2 else if (1 ≤ k ∧ k ≤ 7) ∨ k = 16 then 0 else -1
def kwireE (k : Int) : Int := if 1 ≤ k ∧ k ≤ 17 then 0 else 18
def knum (k : Int) : Bool := decide ((1 ≤ k ∧ k ≤ 13) ∨ k = 16)
def kkey (k : Int) : Bool := decide ((1 ≤ k ∧ k ≤ 11) ∨ k = 14)
theorem ret_ii {a b c d : Int} (h1 : a = c) (h2 : b = d) : Ending.returned (.tuple #[.int .i64 a, .int .i64 b]) = .returned (.tuple #[.int .i64 c, .int .i64 d]) := by rw [h1, h2]
theorem kwire_no {k : Int} (h : k < 1 ∨ 17 < k) : kwire k = -1 := by unfold kwire; rw [if_neg (by omega), if_neg (by omega), if_neg (by omega), if_neg (by omega)]
theorem kwireE_no {k : Int} (h : k < 1 ∨ 17 < k) : kwireE k = 18 := by unfold kwireE; rw [if_neg (by omega)]
theorem knum_no {k : Int} (h : k < 1 ∨ 17 < k) : knum k = false := by unfold knum; simp; omega
theorem kkey_no {k : Int} (h : k < 1 ∨ 17 < k) : kkey k = false := by unfold kkey; simp; omega
theorem wireKW (k : Int) (w : World) : Calls Try.prog 97 #[.int .i64 k] w fun e w' => e = .returned (.tuple #[.int .i64 (max (kwire k) 0), .int .i64 (kwireE k)]) ∧ w = w' := by
  rcases kinds k with rfl | rfl | rfl | rfl | rfl | rfl | rfl | rfl | rfl | rfl | rfl | rfl | rfl | rfl | rfl | rfl | rfl | h | h
  iterate 17 (next => go_enter Try.func97, Try.ntmps97; go_wp2; go_ret2; exact ⟨rfl, rfl⟩)
  · obtain ⟨e1, e2, e3, e4, e5, e6, e7, e8, e9, e10, e11, e12, e13, e14, e15, e16, e17⟩ := noKind (.inl h)
    have H : Hid (Ending.returned (.tuple #[.int .i64 0, .int .i64 18]) = .returned (.tuple #[.int .i64 (max (kwire k) 0), .int .i64 (kwireE k)])) := hid (ret_ii (by rw [kwire_no (.inl h)]; rfl) (kwireE_no (.inl h)).symm)
    clear h
    go_enter Try.func97, Try.ntmps97
    go_wp2
    go_ret2
    exact ⟨H.out, rfl⟩
  · obtain ⟨e1, e2, e3, e4, e5, e6, e7, e8, e9, e10, e11, e12, e13, e14, e15, e16, e17⟩ := noKind (.inr h)
    have H : Hid (Ending.returned (.tuple #[.int .i64 0, .int .i64 18]) = .returned (.tuple #[.int .i64 (max (kwire k) 0), .int .i64 (kwireE k)])) := hid (ret_ii (by rw [kwire_no (.inr h)]; rfl) (kwireE_no (.inr h)).symm)
    clear h
    go_enter Try.func97, Try.ntmps97
    go_wp2
    go_ret2
    exact ⟨H.out, rfl⟩
/-- Numeric asks Wire. -/
theorem numericW (k : Int) (w : World) : Calls Try.prog 89 #[.int .i64 k] w fun e w' => e = .returned (.bool (knum k)) ∧ w = w' := by
  have HB : Hid ((decide (kwireE k = 0) && !decide (max (kwire k) 0 = 2)) = knum k) := hid (by
    rcases kinds k with rfl | rfl | rfl | rfl | rfl | rfl | rfl | rfl | rfl | rfl | rfl | rfl | rfl | rfl | rfl | rfl | rfl | h | h
    iterate 17 (next => rfl)
    · rw [kwireE_no (.inl h), knum_no (.inl h)]; rfl
    · rw [kwireE_no (.inr h), knum_no (.inr h)]; rfl)
  have hw := wireKW k w
  generalize kwireE k = we at HB hw
  generalize max (kwire k) 0 = wk at HB hw
  have HW := hid hw
  clear hw
  by_cases h : we = 0
  · subst h
    go_enter Try.func89, Try.ntmps89
    go_wp2_with (go_at_call 97; refine HW.out.mono ?_; rintro e w' ⟨rfl, rfl⟩)
    go_ret
    exact ⟨ret_bool (by rw [← HB.out]; simp; rfl), rfl⟩
  · have h' : (we == 0) = false := by simpa using h
    have H : Hid (false = knum k) := hid (by rw [← HB.out]; simp [h])
    clear h
    go_enter Try.func89, Try.ntmps89
    go_wp2_with (go_at_call 97; refine HW.out.mono ?_; rintro e w' ⟨rfl, rfl⟩)
    go_ret
    exact ⟨ret_bool H.out, rfl⟩
theorem isKeyW (k : Int) (w : World) : Calls Try.prog 91 #[.int .i64 k] w fun e w' => e = .returned (.bool (kkey k)) ∧ w = w' := by
  have HN : Hid (∀ (k : Int) (w : World), Calls Try.prog 89 #[.int .i64 k] w fun e w' => e = .returned (.bool (knum k)) ∧ w = w') := hid numericW
  rcases kinds k with rfl | rfl | rfl | rfl | rfl | rfl | rfl | rfl | rfl | rfl | rfl | rfl | rfl | rfl | rfl | rfl | rfl | h | h
  iterate 17 (next => go_enter Try.func91, Try.ntmps91; go_wp2_with (go_at_call 89; refine (HN.out _ _).mono ?_; rintro e w' ⟨rfl, rfl⟩); go_ret; exact ⟨rfl, rfl⟩)
  · obtain ⟨e1, e2, e3, e4, e5, e6, e7, e8, e9, e10, e11, e12, e13, e14, e15, e16, e17⟩ := noKind (.inl h)
    have H : Hid (knum k = kkey k) := hid (by rw [knum_no (.inl h), kkey_no (.inl h)])
    clear h
    go_enter Try.func91, Try.ntmps91
    go_wp2_with (go_at_call 89; refine (HN.out _ _).mono ?_; rintro e w' ⟨rfl, rfl⟩)
    go_ret
    exact ⟨ret_bool H.out, rfl⟩
  · obtain ⟨e1, e2, e3, e4, e5, e6, e7, e8, e9, e10, e11, e12, e13, e14, e15, e16, e17⟩ := noKind (.inr h)
    have H : Hid (knum k = kkey k) := hid (by rw [knum_no (.inr h), kkey_no (.inr h)])
    clear h
    go_enter Try.func91, Try.ntmps91
    go_wp2_with (go_at_call 89; refine (HN.out _ _).mono ?_; rintro e w' ⟨rfl, rfl⟩)
    go_ret
    exact ⟨ret_bool H.out, rfl⟩
set_option maxHeartbeats 600000
structure FT where
  name : List Int
  num : Int
  kind : Int
  ref : Int
  lab : Int
  one : Int
  key : Int
structure SY where
  name : List Int
  num : Int
structure RG where
  lo : Int
  hi : Int
structure TT where
  name : List Int
  enum : Bool
  fs : List FT
  os : List (List Int)
  ss : List SY
  rs : List RG
def cFT (f : FT) : List Value := [.string (strOfNums f.name), .int .i64 f.num, .int .i64 f.kind, .int .i64 f.ref, .int .i64 f.lab, .int .i64 f.one, .int .i64 f.key]
def cSY (f : SY) : List Value := [.string (strOfNums f.name), .int .i64 f.num]
def cRG (f : RG) : List Value := [.int .i64 f.lo, .int .i64 f.hi]
/-- A type and the values of its four lists. -/
structure TV where
  t : TT
  f : Value
  o : Value
  s : Value
  r : Value
def cTV (x : TV) : List Value := [.string (strOfNums x.t.name), .bool x.t.enum, x.f, x.o, x.s, x.r]
/-- A type's lists, in memory. -/
structure TyR (w : World) (x : TV) : Prop where
  f : RowS w AnyZ 7 x.f x.t.fs.length (x.t.fs.flatMap cFT)
  o : RowS w AnyZ 1 x.o x.t.os.length (x.t.os.flatMap cN)
  s : RowS w AnyZ 2 x.s x.t.ss.length (x.t.ss.flatMap cSY)
  r : RowS w AnyZ 2 x.r x.t.rs.length (x.t.rs.flatMap cRG)
/-- A table, in memory. -/
structure TbR (w : World) (v : Value) (l : List TV) : Prop where
  row : RowS w AnyZ 6 v l.length (l.flatMap cTV)
  ty : ∀ x ∈ l, TyR w x
theorem TyR.kept {w w' : World} {x : TV} (h : TyR w x) (g : Below w.heap.size w w') : TyR w' x := ⟨h.f.kept g, h.o.kept g, h.s.kept g, h.r.kept g⟩
theorem TbR.kept {w w' : World} {v : Value} {l : List TV} (h : TbR w v l) (g : Below w.heap.size w w') : TbR w' v l := ⟨h.row.kept g, fun x hx => (h.ty x hx).kept g⟩
section
variable (f : FT) (w : World)
end
section
variable (f : FT) (w : World)
end
def numAt (w : World) (r : Value) : Nat := match r with | .int _ n => n.toNat | _ => 0
def cI64 (x : Int) : List Value := [.int .i64 x]
set_option maxHeartbeats 1000000
/-- From w to w' the slice v became v': every old block but v's own is as it was, and v' lies in v's block or in a new one. -/
structure Grow (w w' : World) (v v' : Value) : Prop where
  os : w'.os = w.os
  tape : w'.tape = w.tape
  output : w'.output = w.output
  size : w.heap.size ≤ w'.heap.size
  block : ∀ k, k < w.heap.size → v.ownBlock ≠ some k → w'.heap[k]? = w.heap[k]?
  own : v'.ownBlock = v.ownBlock ∨ ∀ k, v'.ownBlock = some k → w.heap.size ≤ k
theorem Grow.refl (w : World) (v : Value) : Grow w w v v := ⟨rfl, rfl, rfl, Nat.le_refl _, fun _ _ _ => rfl, .inl rfl⟩
theorem Grow.trans {w w1 w2 : World} {v v1 v2 : Value} (h : Grow w w1 v v1) (g : Grow w1 w2 v1 v2) : Grow w w2 v v2 := by
  refine ⟨g.os.trans h.os, g.tape.trans h.tape, g.output.trans h.output, Nat.le_trans h.size g.size, fun k hk hv => ?_, ?_⟩
  · rw [g.block k (Nat.lt_of_lt_of_le hk h.size) ?_, h.block k hk hv]
    intro e
    rcases h.own with h1 | h1
    · exact hv (h1.symm.trans e)
    · have := h1 k e; omega
  · rcases g.own with g1 | g1
    · rcases h.own with h1 | h1
      · exact .inl (g1.trans h1)
      · exact .inr fun k hk => h1 k (g1.symm.trans hk)
    · exact .inr fun k hk => Nat.le_trans h.size (g1 k hk)
theorem Grow.ofBelow {w w' : World} {v : Value} (h : Below w.heap.size w w') : Grow w w' v v :=
  ⟨h.os, h.tape, h.output, h.size, fun k hk _ => h.block k hk, .inl rfl⟩
theorem Grow.alloc {w w' : World} {v v' : Value} (h : Grow w w' v v') (o : Obj) : Grow w (w'.alloc o) v v' := h.trans (Grow.ofBelow (below_alloc o))
/-- What lies below B stays, where v lies from B on. -/
theorem Grow.below {w w' : World} {v v' : Value} {B : Nat} (h : Grow w w' v v') (hB : B ≤ w.heap.size) (hv : ∀ k, v.ownBlock = some k → B ≤ k) : Below B w w' :=
  ⟨h.os, h.tape, h.output, h.size, fun k hk => h.block k (by omega) (fun e => by have := hv k e; omega)⟩
theorem run_append_mine {P : Program} (w : World) (base : Nat) (t ty e : TypeId) (i : TypeInfo) (z : Value) (size bytes : Nat) (ht : P.underlying t = some (.slice e)) (hi : P.info? e = some i) (hz : i.zero = some z)
    (hsize : i.size = size) (hby : i.bytes = bytes) (hzs : z.cells.size = size) (hsz : 0 < size)
    (v : Value) (n : Nat) (xs : List Value) (hown : w.ownsRow base e size v n xs)
    (a : Addr) (m c : Nat) (news : List Value) (hl : news.length = m * size) (hnews : ∀ j u, news[j]? = some u → w.cell? (a.add j) = some u) (h1 : ∀ u ∈ news, u.oneCell' = true)
    (h63 : n + m ≤ maxLen) (hbytes : (n + m) * bytes ≤ 140737488355328) (hbase : base ≤ w.heap.size) :
    ∃ v' w', (Builtin.append_ #[t, t] ty #[v, .slice (some a) m c]).run P w = .ok v' w' ∧ w'.ownsRow base e size v' (n + m) (xs ++ news) ∧ Grow w w' v v' := by
  obtain ⟨v', w', hr, ho, hg, hn⟩ := run_append_own (P := P) w base t ty e i z size bytes ht hi hz hsize hby hzs hsz v n xs hown a m c news hl hnews h1 h63 hbytes hbase
  refine ⟨v', w', hr, ho, hg.os, hg.tape, hg.output, hg.size, fun k hk hv => hg.block k hk (fun e => hv e.symm), ?_⟩
  have hown0 := hown
  rcases hown.2 with ⟨rfl, rfl⟩ | ⟨g, cap, cur, rfl, hbg, hgg, hnc, hcm, hcs, htake⟩
  · have hx : xs = [] := List.eq_nil_of_length_eq_zero (by simpa using hown.1)
    subst hx
    obtain ⟨v2, w2, hr2, ho2, _, _⟩ := run_append_own (P := P) w w.heap.size t ty e i z size bytes ht hi hz hsize hby hzs hsz _ 0 [] (World.ownsRow_nil _ _ _ _) a m c news hl hnews h1 h63 hbytes (Nat.le_refl _)
    rw [hr] at hr2
    cases hr2
    exact .inr fun k hk => (ho2.lt k hk).1
  · subst hsize
    subst hby
    by_cases hroom : n + m ≤ cap
    · have hfit : n * i.size + news.length ≤ cur.size := by rw [hl, hcs, ← Nat.add_mul]; exact Nat.mul_le_mul_right _ hroom
      have hr2 := run_append_room (P := P) w t ty e i ht hi g n cap cur hgg a m c news hl hnews h1 hroom hfit
      rw [hr] at hr2
      cases hr2
      exact .inl rfl
    · have holds : ∀ j u, xs[j]? = some u → w.cell? ((⟨g, 0, none⟩ : Addr).add j) = some u := hown.cells (g := g) rfl
      have hsmall : n + m ≤ 9223372036854775807 := by simp only [maxLen] at h63; omega
      have hr2 := run_append_grow (P := P) w t ty e i z ht hi hz ⟨g, 0, none⟩ n cap xs hown.1 holds a m c news hl hnews (by omega) (by omega) (growslice_fits (by omega) hbytes)
      rw [hr] at hr2
      cases hr2
      refine .inr fun k hk => ?_
      simp [Value.ownBlock] at hk
      omega
theorem own_kept {w w' : World} {base e size n : Nat} {v : Value} {xs : List Value} (h : w.ownsRow base e size v n xs) (hb : Below w.heap.size w w') : w'.ownsRow base e size v n xs :=
  h.kept (row := none) ⟨hb.os, hb.tape, hb.output, hb.size, fun k hk _ => hb.block k hk⟩ (by cases hv : v.ownBlock <;> simp)
theorem own_mono {w : World} {base base' e size n : Nat} {v : Value} {xs : List Value} (h : w.ownsRow base e size v n xs) (hb : base' ≤ base) : w.ownsRow base' e size v n xs := by
  refine ⟨h.1, h.2.imp id ?_⟩
  rintro ⟨g, cap, cur, h1, h2, h3⟩
  exact ⟨g, cap, cur, h1, Nat.le_trans hb h2, h3⟩
theorem own_shape {w : World} {base e size n : Nat} {v : Value} {xs : List Value} (h : w.ownsRow base e size v n xs) : ∃ a c, v = .slice a n c := by
  rcases h.2 with ⟨rfl, rfl⟩ | ⟨g, cap, cur, rfl, _⟩
  · exact ⟨none, 0, rfl⟩
  · exact ⟨_, _, rfl⟩
theorem Keep.ofGrow {f : Nat → Prop} {w w' : World} {v v' : Value} (g : Grow w w' v v') (hv : ∀ k, f k → v.ownBlock ≠ some k) : Keep f w w' := ⟨g.os, g.tape, g.output, g.size, fun k hk hf => g.block k hk (hv k hf)⟩
theorem own_keep {f : Nat → Prop} {w w' : World} {base e size n : Nat} {v : Value} {xs : List Value} (h : w.ownsRow base e size v n xs) (hv : ∀ k, v.ownBlock = some k → f k) (g : Keep f w w') : w'.ownsRow base e size v n xs := by
  refine ⟨h.1, ?_⟩
  rcases h.2 with hn | ⟨k, cap, cur, rfl, hb, hk, rest⟩
  · exact .inl hn
  · exact .inr ⟨k, cap, cur, rfl, hb, by rw [g.block k (Array.getElem?_eq_some_iff.1 hk).1 (hv k rfl)]; exact hk, rest⟩
theorem own_row {w : World} {base e size n : Nat} {v : Value} {fl : List Value} (h : w.ownsRow base e size v n fl) {Z : Nat → Prop} (hz : ∀ k, v.ownBlock = some k → Z k) : RowS w Z size v n fl := by
  have hl := h.1
  rcases h.2 with ⟨rfl, h0⟩ | ⟨g, cap, cur, rfl, hbg, hg, hnc, hcm, hcs, htake⟩
  · subst h0
    exact ⟨none, 0, rfl, hl, Nat.le_refl _, by omega, .inl ⟨rfl, fun _ => rfl⟩⟩
  · refine ⟨_, cap, rfl, hl, hnc, by unfold maxLen at hcm; omega, .inr ⟨g, 0, rfl, hz g rfl, fun j u hu => ?_⟩⟩
    have := h.cells (g := g) rfl j u hu
    have hadd : (⟨g, 0, none⟩ : Addr).add j = ⟨g, 0 + j, none⟩ := by unfold Addr.add; split <;> simp_all
    rwa [hadd] at this
theorem own_type {w : World} {base e size n k : Nat} {v : Value} {fl : List Value} (h : w.ownsRow base e size v n fl) (hk : v.ownBlock = some k) : base ≤ k ∧ k < w.heap.size ∧ ∃ cur, w.heap[k]? = some (.cells cur e (0, 0)) := by
  rcases h.2 with ⟨rfl, h0⟩ | ⟨g, cap, cur, rfl, hbg, hg, hnc, hcm, hcs, htake⟩
  · simp [Value.ownBlock] at hk
  · simp [Value.ownBlock] at hk
    subst hk
    exact ⟨hbg, (Array.getElem?_eq_some_iff.1 hg).1, cur, hg⟩
theorem own_apart {w : World} {base e1 e2 s1 s2 n1 n2 : Nat} {v1 v2 : Value} {f1 f2 : List Value} (h1 : w.ownsRow base e1 s1 v1 n1 f1) (h2 : w.ownsRow base e2 s2 v2 n2 f2) (hne : e1 ≠ e2) {k : Nat} (hk : v1.ownBlock = some k) : v2.ownBlock ≠ some k := by
  intro hk2
  obtain ⟨_, _, c1, g1⟩ := own_type h1 hk
  obtain ⟨_, _, c2, g2⟩ := own_type h2 hk2
  rw [g1] at g2
  cases g2
  exact hne rfl
/-- One struct more, laid in a block of its own first. -/
theorem append_st (t ts : TypeId) (size bytes : Nat) (z : Value) (hts : Try.prog.underlying ts = some (.slice t)) (hinfo : (Try.prog.info? t).map (fun i => (i.zero, i.size, i.bytes)) = some (some z, size, bytes)) (hzs : z.cells.size = size) (h0 : 0 < size) (hby : bytes ≤ 400)
    (base : Nat) (v : Value) (n : Nat) (fl : List Value) (w : World) (cs : Array Value) (hcs : cs.size = size) (h1 : ∀ u ∈ cs.toList, u.oneCell' = true) (h : w.ownsRow base t size v n fl) (hb : base ≤ w.heap.size) (hn : n ≤ 4000000) :
    ∃ v' w', (Builtin.append_ #[ts, ts] ts #[v, .slice (some ⟨w.heap.size, 0, none⟩) 1 1]).run Try.prog (w.alloc (.cells cs t)) = .ok v' w' ∧ w'.ownsRow base t size v' (n + 1) (fl ++ cs.toList) ∧ Grow w w' v v' := by
  obtain ⟨i0, hi, hz0, hz1, hz2⟩ := info_parts hinfo
  have hcell : ∀ j u, cs.toList[j]? = some u → (w.alloc (.cells cs t)).cell? ((⟨w.heap.size, 0, none⟩ : Addr).add j) = some u := by
    intro j u hu
    have hadd : (⟨w.heap.size, 0, none⟩ : Addr).add j = ⟨w.heap.size, j, none⟩ := by unfold Addr.add; split <;> simp_all
    rw [hadd, World.cell?_alloc_at _ _ _ _ rfl]
    simpa using hu
  obtain ⟨v', w', hr, ho, hg⟩ := run_append_mine (P := Try.prog) (w.alloc (.cells cs t)) base ts ts t i0 z size bytes hts hi hz0 hz1 hz2 hzs h0 v n fl (h.alloc _) ⟨w.heap.size, 0, none⟩ 1 1 cs.toList (by simp [hcs]) hcell h1 (by unfold maxLen; omega) (Nat.le_trans (Nat.mul_le_mul (show n + 1 ≤ 4000001 by omega) hby) (by decide)) (by simp; omega)
  exact ⟨v', w', hr, ho, ((Grow.refl w v).alloc _).trans hg⟩
theorem wpList_append_ran {P : Program} {w : World} {ops : Array Oper} {rest : List Oper} {o : Oper} {a : Act} {Q : Exit → Act → World → Prop} (hgd : o.guard = none) (s x : Operand) (t ty : TypeId)
    (ho : o.op = .call { callee := .builtin .append, args := #[s, x], argTypes := #[t, t] }) (hty : o.type = ty) (v xv v' : Value) (w' : World) (hs : a.eval s = v) (hx : a.eval x = xv)
    (hr : (Builtin.append_ #[t, t] ty #[v, xv]).run P w = .ok v' w') (h : wpList P ops Q rest (a.put o.dst v') w') : wpList P ops Q (o :: rest) a w := by
  subst hty
  refine wpList_plain hgd fun K hK => ?_
  unfold Oper.wp
  simp [execOp, ho, resolve, invoke, builtin, hs, hx, hr, Result.andThen]
  exact hK _ _ h
theorem Try.infoIn : (Try.prog.info? 3).map (fun i => (i.zero, i.size, i.bytes)) = some (some (.int .i64 0), 1, 8) := by kernel_rfl
theorem grow_own {w w' : World} {v v' u : Value} {base e e2 size s2 n m : Nat} {fl gl : List Value} (g : Grow w w' v v') (ho : w.ownsRow base e size v n fl) (h : w.ownsRow base e2 s2 u m gl) (hne : e ≠ e2) : w'.ownsRow base e2 s2 u m gl :=
  own_keep (f := fun k => v.ownBlock ≠ some k) h (fun k hk e2 => own_apart ho h hne e2 hk) (Keep.ofGrow g (fun _ hk => hk))
end Go.Proofs.Ytliohglpbmpbhaa
