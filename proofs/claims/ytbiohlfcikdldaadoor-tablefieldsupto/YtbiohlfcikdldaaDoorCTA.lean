/-
  What holds of blocks and rows wherever they lie; nothing of the program's functions.
  Plain mathematics for the layer quote: characters of UTF-8 (how wide the first one is; how many there are), quoted texts and their parts. Nothing of the program.
  Plain mathematics for words: bytes by place, lines and columns, scanning, the words of a text; nothing of the program.
  Names: letters, digits, one word (of the program table and of the document).
  Lists of names.
  Lists of names: areNames.
  Kinds, as the tables ask of them.
  A field by itself: its kind, reference, label, oneof, key.
  A field by itself: its label, its oneof, its reference.
-/
import Derived.Test.YtbiohlfcikdldaaDoorRows
import Derived.RowKit
import Derived.WalkKit
import Derived.WalkSpells
import Derived.WalkLawsBesides
import Derived.Outline
import Derived.Below
import Derived.WalkMore
import Derived.OwnWalk
import Derived.OpenShut
import Derived.BigQuiet
import Derived.Deep.QuietTactic
import Derived.ScopeJumps
import Derived.Laws.BytesArg
namespace Go.Proofs.YtbiohlfcikdldaaDoor
open Go.RowKit
set_option maxRecDepth 1000000
set_option linter.unusedVariables false
theorem ret_int {k : IntKind} {a b : Int} (h : a = b) : Ending.returned (.int k a) = .returned (.int k b) := by rw [h]
theorem ret_bool {a b : Bool} (h : a = b) : Ending.returned (.bool a) = .returned (.bool b) := by rw [h]
theorem hid {p : Prop} (h : p) : Hid p := h
theorem below_alloc {w : World} (o : Obj) : Below w.heap.size w (w.alloc o) := (Below.refl _ _).alloc (Nat.le_refl _) o
theorem below_trans {w w1 w2 : World} (h1 : Below w.heap.size w w1) (h2 : Below w1.heap.size w1 w2) : Below w.heap.size w w2 := h1.trans (h2.mono h1.size)
/-- All old blocks that f names stay. -/
structure Keep (f : Nat → Prop) (w w' : World) : Prop where
  os : w'.os = w.os
  tape : w'.tape = w.tape
  output : w'.output = w.output
  size : w.heap.size ≤ w'.heap.size
  block : ∀ k, k < w.heap.size → f k → w'.heap[k]? = w.heap[k]?
theorem Keep.refl (f : Nat → Prop) (w : World) : Keep f w w := ⟨rfl, rfl, rfl, Nat.le_refl _, fun _ _ _ => rfl⟩
theorem Keep.trans {f : Nat → Prop} {w w1 w2 : World} (h : Keep f w w1) (g : Keep f w1 w2) : Keep f w w2 :=
  ⟨g.os.trans h.os, g.tape.trans h.tape, g.output.trans h.output, Nat.le_trans h.size g.size, fun k hk hf => by rw [g.block k (Nat.lt_of_lt_of_le hk h.size) hf, h.block k hk hf]⟩
theorem Keep.ofBelow {f : Nat → Prop} {w w' : World} (h : Below w.heap.size w w') : Keep f w w' := ⟨h.os, h.tape, h.output, h.size, fun k hk _ => h.block k hk⟩
theorem Keep.below {f : Nat → Prop} {w w' : World} {B : Nat} (h : Keep f w w') (hB : B ≤ w.heap.size) (hf : ∀ k, k < B → f k) : Below B w w' := ⟨h.os, h.tape, h.output, h.size, fun k hk => h.block k (by omega) (hf k hk)⟩
theorem Keep.setCell {f : Nat → Prop} (w : World) (a : Addr) (u : Value) (ha : ¬ f a.block) : Keep f w (w.setCell a u) :=
  ⟨rfl, rfl, rfl, by simp [World.setCell], fun k _ hf => Below.heap_setCell _ _ _ _ (fun e => ha (e ▸ hf))⟩
/-- A block of cells that may be written. -/
def Blk (w : World) (p : Nat) (t : TypeId) (cs : Array Value) : Prop := w.heap[p]? = some (.cells cs t (0, 0))
theorem Blk.lt {w : World} {p : Nat} {t : TypeId} {cs : Array Value} (h : Blk w p t cs) : p < w.heap.size := (Array.getElem?_eq_some_iff.1 h).1
theorem Blk.cell {w : World} {p : Nat} {t : TypeId} {cs : Array Value} (h : Blk w p t cs) (i : Nat) (v : Value) (hv : cs[i]? = some v) : w.cell? ⟨p, i, none⟩ = some v := by
  simp only [World.cell?, show w.heap[p]? = _ from h]; simpa using hv
theorem Blk.frozen {w : World} {p : Nat} {t : TypeId} {cs : Array Value} (h : Blk w p t cs) (i : Nat) : w.frozen? ⟨p, i, none⟩ = false := by
  simp [World.frozen?, show w.heap[p]? = _ from h]
theorem Blk.new (w : World) (t : TypeId) (cs : Array Value) : Blk (w.alloc (.cells cs t)) w.heap.size t cs := by show (w.heap.push _)[w.heap.size]? = _; simp
theorem Blk.kept {w w' : World} {p : Nat} {t : TypeId} {cs : Array Value} (h : Blk w p t cs) (hb : Below w.heap.size w w') : Blk w' p t cs := (hb.block p h.lt).trans h
theorem Blk.keep {f : Nat → Prop} {w w' : World} {p : Nat} {t : TypeId} {cs : Array Value} (h : Blk w p t cs) (hb : Keep f w w') (hf : f p) : Blk w' p t cs := (hb.block p h.lt hf).trans h
theorem below_drew1 (w : World) : Below w.heap.size w w.drew := ⟨rfl, rfl, rfl, Nat.le_refl _, fun _ _ => rfl⟩
theorem Blk.is {w : World} {p : Nat} {t : TypeId} {cs cs' : Array Value} (h : Blk w p t cs) (e : cs = cs') : Blk w p t cs' := e ▸ h
theorem cell_below {w0 w : World} {p : Addr} {v : Value} (h : w0.cell? p = some v) (hb : Below w0.heap.size w0 w) : w.cell? p = some v := by
  rw [hb.cell (World.block_lt_of_cell? _ _ h)]; exact h
theorem Blk.newAt {w : World} {p : Nat} {t : TypeId} {cs : Array Value} (h : p = w.heap.size) : Blk (w.alloc (.cells cs t)) p t cs := h ▸ Blk.new w t cs
theorem Blk.cellF {w : World} {p : Nat} {t : TypeId} {cs : Array Value} (h : Blk w p t cs) : ∀ i, w.cell? ⟨p, i, none⟩ = cs[i]? := fun i => by
  simp [World.cell?, show w.heap[p]? = _ from h]
theorem Blk.frz {w : World} {p : Nat} {t : TypeId} {cs : Array Value} (h : Blk w p t cs) : ∀ i, w.frozen? ⟨p, i, none⟩ = false := fun i => h.frozen i
theorem bl_alloc {w w' : World} (h : Below w.heap.size w w') (o : Obj) : Below w.heap.size w (w'.alloc o) := h.alloc h.size o
theorem bl_set {w w' : World} {p : Addr} (h : Below w.heap.size w w') (hp : w.heap.size ≤ p.block) (v : Value) : Below w.heap.size w (w'.setCell p v) := h.setCell hp v
theorem bl_drew {w w' : World} (h : Below w.heap.size w w') : Below w.heap.size w w'.drew := ⟨h.os, h.tape, h.output, h.size, h.block⟩
theorem bl_drewN {w w' : World} (h : Below w.heap.size w w') (n : Nat) : Below w.heap.size w (w'.drewN n) := ⟨h.os, h.tape, h.output, h.size, h.block⟩
theorem bl_then {w w1 w2 : World} (h : Below w.heap.size w w1) (g : Below w1.heap.size w1 w2) : Below w.heap.size w w2 := below_trans h g
theorem blA {w w' : World} {p : Addr} {v : Value} (h : Below w.heap.size w w') (hp : w.heap.size ≤ p.block := by first | (simp; done) | (simp; omega) | omega) : Below w.heap.size w (w'.setCell p v) := bl_set h hp v
theorem blBy {w w' : World} (h : Below w.heap.size w w' := by (with_reducible repeat (first | assumption | refine blA ?_ | refine bl_alloc ?_ _ | refine bl_drew ?_ | refine bl_drewN ?_ _ | exact Below.refl _ _))) : Below w.heap.size w w' := h
/-- A row of structs of k cells that can be read, in a block that Z names. -/
structure RowV (w : World) (Z : Nat → Prop) (k : Nat) (a : Option Addr) (len cap : Nat) (fl : List Value) : Prop where
  length : fl.length = len * k
  le : len ≤ cap
  max : cap ≤ 9223372036854775807
  cells : (len = 0 ∧ (a = none → cap = 0)) ∨ ∃ b off, a = some ⟨b, off, none⟩ ∧ Z b ∧ ∀ j u, fl[j]? = some u → w.cell? ⟨b, off + j, none⟩ = some u
theorem RowV.keep {w w' : World} {Z f : Nat → Prop} {k : Nat} {a : Option Addr} {len cap : Nat} {fl : List Value} (h : RowV w Z k a len cap fl) (g : Keep f w w') (hf : ∀ k, Z k → f k) : RowV w' Z k a len cap fl := by
  refine ⟨h.length, h.le, h.max, ?_⟩
  rcases h.cells with h0 | ⟨b, off, rfl, hz, hc⟩
  · exact .inl h0
  · refine .inr ⟨b, off, rfl, hz, fun j u hu => ?_⟩
    have h1 := hc j u hu
    have hlt := World.block_lt_of_cell? _ _ h1
    rw [← h1]
    simp only [World.cell?]
    rw [g.block b hlt (hf b hz)]
def RowS (w : World) (Z : Nat → Prop) (k : Nat) (v : Value) (n : Nat) (fl : List Value) : Prop := ∃ a cap, v = .slice a n cap ∧ RowV w Z k a n cap fl
theorem RowS.keep {w w' : World} {Z f : Nat → Prop} {k : Nat} {v : Value} {n : Nat} {fl : List Value} (h : RowS w Z k v n fl) (g : Keep f w w') (hf : ∀ k, Z k → f k) : RowS w' Z k v n fl := by
  obtain ⟨a, c, e, h⟩ := h
  exact ⟨a, c, e, h.keep g hf⟩
theorem flatM_get {α : Type} {g : α → List Value} {k : Nat} (hk : ∀ x, (g x).length = k) : ∀ (l : List α) (i j : Nat) (x : α) (u : Value), l[i]? = some x → (g x)[j]? = some u → (l.flatMap g)[i * k + j]? = some u
  | [], i, j, x, u, h, _ => by simp at h
  | y :: l, 0, j, x, u, h, hu => by
    simp at h
    subst h
    have hj : j < (g y).length := (List.getElem?_eq_some_iff.1 hu).1
    rw [List.flatMap_cons, Nat.zero_mul, Nat.zero_add, List.getElem?_append_left hj]
    exact hu
  | y :: l, i + 1, j, x, u, h, hu => by
    have h' : l[i]? = some x := by simpa using h
    rw [List.flatMap_cons, List.getElem?_append_right (by rw [hk, Nat.add_mul]; omega), hk]
    rw [show (i + 1) * k + j - k = i * k + j by rw [Nat.add_mul]; omega]
    exact flatM_get hk l i j x u h' hu
theorem flatM_len {α : Type} {g : α → List Value} {k : Nat} (hk : ∀ x, (g x).length = k) : ∀ (l : List α), (l.flatMap g).length = l.length * k
  | [] => by simp
  | y :: l => by rw [List.flatMap_cons, List.length_append, hk, flatM_len hk l, List.length_cons, Nat.add_mul]; omega
theorem rowAt {α : Type} {g : α → List Value} {K : Nat} (hK : ∀ x, (g x).length = K) {w : World} {Z : Nat → Prop} {l : List α} {a : Option Addr} {n c : Nat} (h : RowS w Z K (.slice a n c) l.length (l.flatMap g)) {i : Nat} {x : α} (hx : l[i]? = some x) : ∃ b o, a = some ⟨b, o, none⟩ ∧ ∀ j u, (g x)[j]? = some u → w.cell? ⟨b, o + i * K + j, none⟩ = some u := by
  obtain ⟨_, _, e, hv⟩ := h
  cases e
  rcases hv.cells with ⟨h0, _⟩ | ⟨b, o, e, _, hc⟩
  · have := (List.getElem?_eq_some_iff.1 hx).1
    omega
  · refine ⟨b, o, e, fun j u hu => ?_⟩
    rw [Nat.add_assoc]
    exact hc _ _ (flatM_get hK l i j x u hx hu)
theorem rowS_sl {w : World} {Z : Nat → Prop} {k n : Nat} {v : Value} {fl : List Value} (h : RowS w Z k v n fl) : ∃ a c, v = .slice a n c ∧ n ≤ 9223372036854775807 := by
  obtain ⟨a, c, e, hv⟩ := h
  exact ⟨a, c, e, Nat.le_trans hv.le hv.max⟩
theorem RowS.kept {w w' : World} {Z : Nat → Prop} {k n : Nat} {v : Value} {fl : List Value} (h : RowS w Z k v n fl) (hb : Below w.heap.size w w') : RowS w' Z k v n fl := h.keep (f := fun _ => True) (Keep.ofBelow hb) (fun _ _ => trivial)
theorem rowS_nil (w : World) (Z : Nat → Prop) (k : Nat) : RowS w Z k (.slice none 0 0) 0 [] := ⟨none, 0, rfl, by simp, Nat.le_refl _, by omega, .inl ⟨rfl, fun _ => rfl⟩⟩
/-! ### Quoted texts -/
def hx (c : Int) : Int := if 48 ≤ c ∧ c ≤ 57 then c - 48 else if 97 ≤ c ∧ c ≤ 102 then c - 87 else if 65 ≤ c ∧ c ≤ 70 then c - 55 else -1
def parts (xs : List Int) : List Int := (xs.drop 1).take (xs.length - 2)
/-- The byte at a place; behind the end 0. -/
def bt (xs : List Int) (i : Nat) : Int := xs[i]?.getD 0
/-- The first place from i on at which p does not hold. -/
def scF (p : Int → Bool) (xs : List Int) : Nat → Nat → Nat
  | 0, i => i
  | f + 1, i => if p (bt xs i) = true then scF p xs f (i + 1) else i
def sc (p : Int → Bool) (xs : List Int) (i : Nat) : Nat := scF p xs (xs.length - i) i
/-- Where a text ends: behind its second quote. -/
def qeF (xs : List Int) : Nat → Nat → Option Nat
  | 0, _ => none
  | f + 1, i => if xs.length ≤ i then none else if bt xs i = 92 then qeF xs f (i + 2) else if bt xs i = 34 then some (i + 1) else qeF xs f (i + 1)
def qe (xs : List Int) (i : Nat) : Option Nat := qeF xs (xs.length + 1 - i) i
def letB (c : Int) : Bool := decide (97 ≤ c ∧ c ≤ 122 ∨ 65 ≤ c ∧ c ≤ 90 ∨ c = 95)
def digB (c : Int) : Bool := decide (48 ≤ c ∧ c ≤ 57)
def namB (c : Int) : Bool := letB c || digB c
/-- A part of a text. -/
def cut (xs : List Int) (a b : Nat) : List Int := (xs.take b).drop a
/-- What stands at a place: something to go over, a word, a fault. -/
inductive Tk where
  | skip (j : Nat)
  | word (kind : Int) (e : Nat) (n : Int) (b : List Int)
  | bad (code : Int)
/-- A token goes on, within the text. -/
def Tk.ok (xs : List Int) (i : Nat) : Tk → Prop
  | .skip j => i < j ∧ j ≤ xs.length
  | .word _ e _ _ => i < e ∧ e ≤ xs.length
  | .bad _ => True
set_option linter.unusedSimpArgs false
set_option maxHeartbeats 2000000
theorem strOfNums_inj : ∀ (xs ys : List Int), (∀ x ∈ xs, 0 ≤ x ∧ x ≤ 255) → (∀ x ∈ ys, 0 ≤ x ∧ x ≤ 255) → strOfNums xs = strOfNums ys → xs = ys := by
  intro xs ys hx hy h
  have h1 : (strOfNums xs).data.toList = (strOfNums ys).data.toList := by rw [h]
  rw [strOfNums_data, strOfNums_data] at h1
  clear h
  induction xs generalizing ys with
  | nil => cases ys with
    | nil => rfl
    | cons y r => simp at h1
  | cons x r ih => cases ys with
    | nil => simp at h1
    | cons y s =>
      simp only [List.map_cons, List.cons.injEq] at h1
      have a := hx x (by simp)
      have b := hy y (by simp)
      have h2 : (UInt8.ofNat x.toNat).toNat = (UInt8.ofNat y.toNat).toNat := by rw [h1.1]
      simp only [UInt8.toNat_ofNat'] at h2
      rw [ih s (fun z hz => hx z (by simp [hz])) (fun z hz => hy z (by simp [hz])) h1.2]
      congr 1
      omega
theorem str_list (xs : List Int) : (strOfNums xs).toList = xs.map fun n => UInt8.ofNat n.toNat := by
  rw [strOfNums, ByteArray.toList_mk]
theorem str_cut (xs : List Int) (a b : Nat) : (strOfNums xs).extract a b = strOfNums ((xs.take b).drop a) := by
  apply ByteArray.ext
  apply Array.ext'
  simp [strOfNums, ByteArray.data_extract, List.map_drop, List.map_take, List.drop_take]
theorem str_eq {xs ys : List Int} (hx : ∀ x ∈ xs, 0 ≤ x ∧ x ≤ 255) (hy : ∀ x ∈ ys, 0 ≤ x ∧ x ≤ 255) : ((strOfNums xs).toList == (strOfNums ys).toList) = decide (xs = ys) := by
  by_cases h : xs = ys
  · subst h; simp
  · have : (strOfNums xs).toList ≠ (strOfNums ys).toList := fun e => h (strOfNums_inj xs ys hx hy (by
      apply ByteArray.ext; apply Array.ext'
      rw [str_list, str_list] at e
      simpa [strOfNums] using e))
    simp [h, this]
theorem index_str {l : List Int} (hb : ∀ x ∈ l, 0 ≤ x ∧ x ≤ 255) (i : Nat) (h : i < l.length) (k : IntKind) (W : World) : (Instr.index 9 (.string (strOfNums l)) (.int k (i : Int))).run Tryd.prog W = .ok (.int .u8 (l[i]?.getD 0)) W := by
  have hs : i < (strOfNums l).size := by rw [strOfNums_size]; exact h
  rw [run_index_string W 9 _ k i Tryd.underlying9, dif_pos ⟨by omega, by omega⟩]
  simp only [Int.toNat_natCast]
  have e2 : (strOfNums l)[i]'hs = UInt8.ofNat (l[i]).toNat := by
    show (strOfNums l).data[i] = _
    simp [strOfNums]
  have := hb l[i] (List.getElem_mem h)
  rw [e2]
  congr 2
  simp [h]
  omega
theorem ldigitR (c : Int) (w : World) : Calls Tryd.prog 86 #[.int .u8 c] w fun e w' => e = .returned (.bool (digB c)) ∧ w = w' := by
  by_cases h1 : 48 ≤ c
  · by_cases h2 : c ≤ 57
    · have H : Hid (digB c = true) := hid (by unfold digB; simp; omega)
      go_enter Tryd.func86, Tryd.ntmps86
      go_wp2
      go_ret
      exact ⟨ret_bool H.out.symm, rfl⟩
    · have H : Hid (digB c = false) := hid (by unfold digB; simp; omega)
      go_enter Tryd.func86, Tryd.ntmps86
      go_wp2
      go_ret
      exact ⟨ret_bool H.out.symm, rfl⟩
  · have H : Hid (digB c = false) := hid (by unfold digB; simp; omega)
    go_enter Tryd.func86, Tryd.ntmps86
    go_wp2
    go_ret
    exact ⟨ret_bool H.out.symm, rfl⟩
theorem letterR (c : Int) (w : World) : Calls Tryd.prog 85 #[.int .u8 c] w fun e w' => e = .returned (.bool (letB c)) ∧ w = w' := by
  have hc : (97 ≤ c ∧ c ≤ 122) ∨ (97 ≤ c ∧ ¬ c ≤ 122) ∨ (¬ 97 ≤ c ∧ ¬ 65 ≤ c) ∨ (¬ 97 ≤ c ∧ 65 ≤ c ∧ c ≤ 90) ∨ (¬ 97 ≤ c ∧ 65 ≤ c ∧ ¬ c ≤ 90 ∧ c = 95) ∨ (¬ 97 ≤ c ∧ 65 ≤ c ∧ ¬ c ≤ 90 ∧ c ≠ 95) := by omega
  rcases hc with ⟨a1, a2⟩ | ⟨a1, a2⟩ | ⟨a1, a2⟩ | ⟨a1, a2, a3⟩ | ⟨a1, a2, a3, rfl⟩ | ⟨a1, a2, a3, a4⟩
  · have H : Hid (letB c = true) := hid (by unfold letB; simp; omega)
    go_enter Tryd.func85, Tryd.ntmps85
    go_wp2
    go_ret
    exact ⟨ret_bool H.out.symm, rfl⟩
  · have H : Hid (letB c = false) := hid (by unfold letB; simp; omega)
    have hz : (c == 95) = false := by simp; omega
    have a3 : 65 ≤ c := by omega
    have a4 : ¬ c ≤ 90 := by omega
    go_enter Tryd.func85, Tryd.ntmps85
    go_wp2
    go_ret
    exact ⟨ret_bool H.out.symm, rfl⟩
  · have H : Hid (letB c = false) := hid (by unfold letB; simp; omega)
    have hz : (c == 95) = false := by simp; omega
    go_enter Tryd.func85, Tryd.ntmps85
    go_wp2
    go_ret
    exact ⟨ret_bool H.out.symm, rfl⟩
  · have H : Hid (letB c = true) := hid (by unfold letB; simp; omega)
    go_enter Tryd.func85, Tryd.ntmps85
    go_wp2
    go_ret
    exact ⟨ret_bool H.out.symm, rfl⟩
  · go_enter Tryd.func85, Tryd.ntmps85
    go_wp2
    go_ret
    exact ⟨rfl, rfl⟩
  · have H : Hid (letB c = false) := hid (by unfold letB; simp; omega)
    have a5 : (c == 95) = false := by simpa using a4
    clear a4
    go_enter Tryd.func85, Tryd.ntmps85
    go_wp2
    go_ret
    exact ⟨ret_bool H.out.symm, rfl⟩
theorem digitT (c : Int) (w : World) : Calls Tryd.prog 92 #[.int .u8 c] w fun e w' => e = .returned (.bool (digB c)) ∧ w = w' := by
  by_cases h1 : 48 ≤ c
  · by_cases h2 : c ≤ 57
    · have H : Hid (digB c = true) := hid (by unfold digB; simp; omega)
      go_enter Tryd.func92, Tryd.ntmps92
      go_wp2
      go_ret
      exact ⟨ret_bool H.out.symm, rfl⟩
    · have H : Hid (digB c = false) := hid (by unfold digB; simp; omega)
      go_enter Tryd.func92, Tryd.ntmps92
      go_wp2
      go_ret
      exact ⟨ret_bool H.out.symm, rfl⟩
  · have H : Hid (digB c = false) := hid (by unfold digB; simp; omega)
    go_enter Tryd.func92, Tryd.ntmps92
    go_wp2
    go_ret
    exact ⟨ret_bool H.out.symm, rfl⟩
theorem letterT (c : Int) (w : World) : Calls Tryd.prog 91 #[.int .u8 c] w fun e w' => e = .returned (.bool (letB c)) ∧ w = w' := by
  have hc : (97 ≤ c ∧ c ≤ 122) ∨ (97 ≤ c ∧ ¬ c ≤ 122) ∨ (¬ 97 ≤ c ∧ ¬ 65 ≤ c) ∨ (¬ 97 ≤ c ∧ 65 ≤ c ∧ c ≤ 90) ∨ (¬ 97 ≤ c ∧ 65 ≤ c ∧ ¬ c ≤ 90 ∧ c = 95) ∨ (¬ 97 ≤ c ∧ 65 ≤ c ∧ ¬ c ≤ 90 ∧ c ≠ 95) := by omega
  rcases hc with ⟨a1, a2⟩ | ⟨a1, a2⟩ | ⟨a1, a2⟩ | ⟨a1, a2, a3⟩ | ⟨a1, a2, a3, rfl⟩ | ⟨a1, a2, a3, a4⟩
  · have H : Hid (letB c = true) := hid (by unfold letB; simp; omega)
    go_enter Tryd.func91, Tryd.ntmps91
    go_wp2
    go_ret
    exact ⟨ret_bool H.out.symm, rfl⟩
  · have H : Hid (letB c = false) := hid (by unfold letB; simp; omega)
    have hz : (c == 95) = false := by simp; omega
    have a3 : 65 ≤ c := by omega
    have a4 : ¬ c ≤ 90 := by omega
    go_enter Tryd.func91, Tryd.ntmps91
    go_wp2
    go_ret
    exact ⟨ret_bool H.out.symm, rfl⟩
  · have H : Hid (letB c = false) := hid (by unfold letB; simp; omega)
    have hz : (c == 95) = false := by simp; omega
    go_enter Tryd.func91, Tryd.ntmps91
    go_wp2
    go_ret
    exact ⟨ret_bool H.out.symm, rfl⟩
  · have H : Hid (letB c = true) := hid (by unfold letB; simp; omega)
    go_enter Tryd.func91, Tryd.ntmps91
    go_wp2
    go_ret
    exact ⟨ret_bool H.out.symm, rfl⟩
  · go_enter Tryd.func91, Tryd.ntmps91
    go_wp2
    go_ret
    exact ⟨rfl, rfl⟩
  · have H : Hid (letB c = false) := hid (by unfold letB; simp; omega)
    have a5 : (c == 95) = false := by simpa using a4
    clear a4
    go_enter Tryd.func91, Tryd.ntmps91
    go_wp2
    go_ret
    exact ⟨ret_bool H.out.symm, rfl⟩
/-- One word. -/
def nmA (xs : List Int) : Nat → Nat → Bool
  | 0, _ => true
  | f + 1, i => (letB (bt xs i) || (decide (i ≠ 0) && digB (bt xs i))) && nmA xs f (i + 1)
def nmB (xs : List Int) : Bool := decide (xs ≠ []) && nmA xs xs.length 0
theorem isNameT (xs : List Int) (w : World) (hb : ∀ x ∈ xs, 0 ≤ x ∧ x ≤ 255) (hl : xs.length ≤ 9223372036854775807) : Calls Tryd.prog 68 #[.string (strOfNums xs)] w fun e w' => e = .returned (.bool (nmB xs)) ∧ w = w' := by
  have hz : (strOfNums xs).size = xs.length := strOfNums_size xs
  have h1 : (xs.length : Int) ≤ 9223372036854775807 := by omega
  have HIX := hid (fun j (hj : j < xs.length) => index_str hb j hj .i64)
  have HNE : Hid (((strOfNums xs).toList == []) = decide (xs = [])) := hid (by rw [str_list]; cases xs <;> simp)
  go_enter Tryd.func68, Tryd.ntmps68
  go_wp2
  go_loopw [7] (fun r wr => ∃ j : Nat, r = .int .i64 j ∧ j ≤ xs.length ∧ Hid (nmA xs xs.length 0 = nmA xs (xs.length - j) j) ∧ w = wr) (fun r _ => xs.length - (match r with | .int _ n => n.toNat | _ => 0))
  case atStart => exact ⟨0, rfl, by omega, hid rfl, rfl⟩
  case round =>
    obtain ⟨j, rfl, hj, hn, rfl⟩ := hrel
    by_cases hlt : j < xs.length
    · have hx : _ := HIX.out j hlt
      have h2 : (j : Int) < (xs.length : Int) := by omega
      have HST : Hid (nmA xs (xs.length - j) j = ((letB (bt xs j) || (decide (j ≠ 0) && digB (bt xs j))) && nmA xs (xs.length - (j + 1)) (j + 1))) := hid (by rw [show xs.length - j = (xs.length - (j + 1)) + 1 by omega]; rfl)
      have hbt : xs[j]?.getD 0 = bt xs j := rfl
      rw [hbt] at hx
      generalize hc : bt xs j = c at *
      have HL := hid (letterT c)
      have HD := hid (digitT c)
      cases hl : letB c with
      | true =>
        rw [hl] at HL
        go_wp2_with (first | (go_at_call 91; refine (HL.out _).mono ?_; rintro e w1 ⟨rfl, rfl⟩) | (go_at_call 92; refine (HD.out _).mono ?_; rintro e w1 ⟨rfl, rfl⟩))
        exact ⟨⟨j + 1, by simp, by omega, hid (by rw [hn.out, HST.out, hl]; simp), by first | rfl | trivial⟩, by simp; omega⟩
      | false =>
        rw [hl] at HL
        by_cases h0 : j = 0
        · have k0 : ((j : Int) == 0) = true := by subst h0; rfl
          replace h0 := hid h0
          go_wp2_with (first | (go_at_call 91; refine (HL.out _).mono ?_; rintro e w1 ⟨rfl, rfl⟩) | (go_at_call 92; refine (HD.out _).mono ?_; rintro e w1 ⟨rfl, rfl⟩))
          go_ret
          exact ⟨ret_bool (by unfold nmB; rw [hn.out, HST.out, hl, h0.out]; simp), rfl⟩
        · have k0 : ((j : Int) == 0) = false := by simp; omega
          replace h0 := hid h0
          cases hd : digB c with
          | true =>
            rw [hd] at HD
            go_wp2_with (first | (go_at_call 91; refine (HL.out _).mono ?_; rintro e w1 ⟨rfl, rfl⟩) | (go_at_call 92; refine (HD.out _).mono ?_; rintro e w1 ⟨rfl, rfl⟩))
            exact ⟨⟨j + 1, by simp, by omega, hid (by rw [hn.out, HST.out, hl, hd]; simp [h0.out]), by first | rfl | trivial⟩, by simp; omega⟩
          | false =>
            rw [hd] at HD
            go_wp2_with (first | (go_at_call 91; refine (HL.out _).mono ?_; rintro e w1 ⟨rfl, rfl⟩) | (go_at_call 92; refine (HD.out _).mono ?_; rintro e w1 ⟨rfl, rfl⟩))
            go_ret
            exact ⟨ret_bool (by unfold nmB; rw [hn.out, HST.out, hl, hd]; simp), rfl⟩
    · have h2 : ¬ (j : Int) < (xs.length : Int) := by omega
      have HJ : Hid (nmA xs xs.length 0 = true) := hid (by rw [hn.out, show xs.length - j = 0 by omega]; rfl)
      have hne := HNE.out
      go_wp2
      go_ret
      exact ⟨ret_bool (by unfold nmB; rw [HJ.out]; by_cases h : xs = [] <;> simp [h]), rfl⟩
set_option maxHeartbeats 600000
/-- Behind its first sign. -/
def nmN (xs : List Int) : Nat → Nat → Bool
  | 0, _ => true
  | f + 1, i => namB (bt xs i) && nmN xs f (i + 1)
theorem nmN_A (xs : List Int) : ∀ f i, i ≠ 0 → nmA xs f i = nmN xs f i
  | 0, _, _ => rfl
  | f + 1, i, h => by rw [nmA, nmN, nmN_A xs f (i + 1) (by omega)]; simp [namB, h]
theorem nmB_is (xs : List Int) : nmB xs = (decide (xs ≠ []) && (letB (bt xs 0) && nmN xs xs.length 0)) := by
  unfold nmB
  cases xs with
  | nil => rfl
  | cons x r =>
    rw [List.length_cons, nmA, nmN, nmN_A _ _ _ (by omega)]
    cases h : letB (bt (x :: r) 0) <;> simp [namB, h]
theorem isNameR (xs : List Int) (w : World) (hb : ∀ x ∈ xs, 0 ≤ x ∧ x ≤ 255) (hl : xs.length ≤ 9223372036854775807) : Calls Tryd.prog 58 #[.string (strOfNums xs)] w fun e w' => e = .returned (.bool (nmB xs)) ∧ w = w' := by
  have HB := hid (nmB_is xs)
  have hz : (strOfNums xs).size = xs.length := strOfNums_size xs
  have h1 : (xs.length : Int) ≤ 9223372036854775807 := by omega
  have HIX := hid (fun j (hj : j < xs.length) => index_str hb j hj .i64)
  by_cases he : xs.length = 0
  · have hx : xs = [] := List.eq_nil_of_length_eq_zero he
    subst hx
    clear HIX HB hb
    go_enter Tryd.func58, Tryd.ntmps58
    go_wp2
    go_ret
    exact ⟨rfl, rfl⟩
  · have hne : ¬ ((xs.length : Int) = 0) := by omega
    have hne2 : ((xs.length : Int) == 0) = false := by simpa using hne
    have h0 : (0 : Int) < (xs.length : Int) := by omega
    have hx0 : ∀ W, (Instr.index 9 (.string (strOfNums xs)) (.int .i64 0)).run Tryd.prog W = .ok (.int .u8 (bt xs 0)) W := fun W => HIX.out 0 (by omega) W
    have HNE : Hid (decide (xs ≠ []) = true) := hid (by cases xs; simp at he; simp)
    cases hl0 : letB (bt xs 0) with
    | false =>
      have HL := hid (letterR (bt xs 0))
      rw [hl0] at HL
      go_enter Tryd.func58, Tryd.ntmps58
      go_wp2_with (first | (go_at_call 85; refine (HL.out _).mono ?_; rintro e w1 ⟨rfl, rfl⟩))
      go_ret
      exact ⟨ret_bool (by rw [HB.out, hl0]; simp), rfl⟩
    | true =>
      have HL0 := hid (letterR (bt xs 0))
      rw [hl0] at HL0
      go_enter Tryd.func58, Tryd.ntmps58
      go_wp2_with (first | (go_at_call 85; refine (HL0.out _).mono ?_; rintro e w1 ⟨rfl, rfl⟩))
      go_loopw [3] (fun r wr => ∃ j : Nat, r = .int .i64 j ∧ j ≤ xs.length ∧ Hid (nmN xs xs.length 0 = nmN xs (xs.length - j) j) ∧ w = wr) (fun r _ => xs.length - (match r with | .int _ n => n.toNat | _ => 0))
      case atStart => exact ⟨0, rfl, by omega, hid rfl, rfl⟩
      case round =>
        obtain ⟨j, rfl, hj, hn, rfl⟩ := hrel
        clear hx0
        by_cases hlt : j < xs.length
        · have hx : _ := HIX.out j hlt
          have h2 : (j : Int) < (xs.length : Int) := by omega
          have HST : Hid (nmN xs (xs.length - j) j = (namB (bt xs j) && nmN xs (xs.length - (j + 1)) (j + 1))) := hid (by rw [show xs.length - j = (xs.length - (j + 1)) + 1 by omega]; rfl)
          have hbt : xs[j]?.getD 0 = bt xs j := rfl
          rw [hbt] at hx
          generalize hc : bt xs j = c at *
          have HL := hid (letterR c)
          have HD := hid (ldigitR c)
          cases hl : letB c with
          | true =>
            rw [hl] at HL
            go_wp2_with (first | (go_at_call 85; refine (HL.out _).mono ?_; rintro e w1 ⟨rfl, rfl⟩))
            exact ⟨⟨j + 1, by simp, by omega, hid (by rw [hn.out, HST.out]; simp [namB, hl]), by first | rfl | trivial⟩, by simp; omega⟩
          | false =>
            rw [hl] at HL
            cases hd : digB c with
            | true =>
              rw [hd] at HD
              go_wp2_with (first | (go_at_call 85; refine (HL.out _).mono ?_; rintro e w1 ⟨rfl, rfl⟩) | (go_at_call 86; refine (HD.out _).mono ?_; rintro e w1 ⟨rfl, rfl⟩))
              exact ⟨⟨j + 1, by simp, by omega, hid (by rw [hn.out, HST.out]; simp [namB, hd]), by first | rfl | trivial⟩, by simp; omega⟩
            | false =>
              rw [hd] at HD
              go_wp2_with (first | (go_at_call 85; refine (HL.out _).mono ?_; rintro e w1 ⟨rfl, rfl⟩) | (go_at_call 86; refine (HD.out _).mono ?_; rintro e w1 ⟨rfl, rfl⟩))
              go_ret
              exact ⟨ret_bool (by rw [HB.out, hn.out, HST.out]; simp [namB, hl, hd]), rfl⟩
        · have h2 : ¬ (j : Int) < (xs.length : Int) := by omega
          have HJ : Hid (nmN xs xs.length 0 = true) := hid (by rw [hn.out, show xs.length - j = 0 by omega]; rfl)
          go_wp2
          go_ret
          exact ⟨ret_bool (by rw [HB.out, HJ.out, HNE.out, hl0]; rfl), rfl⟩
theorem areNames1 (xs : List Int) (w : World) (hb : ∀ x ∈ xs, 0 ≤ x ∧ x ≤ 255) (hl : xs.length ≤ 9223372036854775807) : Calls Tryd.prog 67 #[.string (strOfNums xs)] w fun e w' => e = .returned (.bool (!nmB xs)) ∧ w = w' := by
  have HI := hid (fun W => isNameT xs W hb hl)
  go_enter Tryd.func67, Tryd.ntmps67
  go_wp2_with (first | (go_at_call 68; refine (HI.out _).mono ?_; rintro e w1 ⟨rfl, rfl⟩))
  go_ret
  exact ⟨rfl, rfl⟩
/-- The first place from i on at which p holds; -1: none. -/
def fnd {α : Type} (p : α → Bool) : List α → Nat → Int
  | [], _ => -1
  | x :: r, i => if p x = true then (i : Int) else fnd p r (i + 1)
theorem fnd_any {α : Type} (p : α → Bool) : ∀ (l : List α) (i : Nat), decide (0 ≤ fnd p l i) = l.any p
  | [], _ => by simp [fnd]
  | x :: r, i => by
    rw [fnd, List.any_cons]
    cases h : p x with
    | true => simp
    | false => simp [fnd_any p r (i + 1)]
theorem fnd_at {α : Type} {p : α → Bool} {l : List α} {j : Nat} (h : j < l.length) : fnd p (l.drop j) j = if p l[j] = true then (j : Int) else fnd p (l.drop (j + 1)) (j + 1) := by
  rw [List.drop_eq_getElem_cons h, fnd]
def cN (x : List Int) : List Value := [.string (strOfNums x)]
/-- Texts that may be: of bytes, not too long. -/
def TxA (x : List Int) : Prop := (∀ c ∈ x, 0 ≤ c ∧ c ≤ 255) ∧ x.length ≤ 9223372036854775807
def AnyZ : Nat → Prop := fun _ => True
section
variable (ns : List (List Int)) (w : World) (a : Option Addr) (n c : Nat)
theorem indexFnN (h : RowS w AnyZ 1 (.slice a n c) ns.length (ns.flatMap cN)) (ht : ∀ x ∈ ns, TxA x) : Calls Tryd.prog 90 #[.slice a n c, .func (.func 67) #[] #[]] w fun e w' => e = .returned (.int .i64 (fnd (fun x => !nmB x) ns 0)) ∧ w = w' := by
  obtain ⟨a', c', e, hn⟩ := rowS_sl h
  cases e
  have HR := hid h
  have HT := hid ht
  have h1 : (ns.length : Int) ≤ 9223372036854775807 := by omega
  clear h ht
  go_enter Tryd.func90, Tryd.ntmps90
  go_wp2
  go_loopw [8] (fun r wr => ∃ j : Nat, r = .int .i64 j ∧ j ≤ ns.length ∧ Hid (fnd (fun x => !nmB x) ns 0 = fnd (fun x => !nmB x) (ns.drop j) j) ∧ w = wr) (fun r _ => ns.length - (match r with | .int _ n => n.toNat | _ => 0))
  case atStart => exact ⟨0, rfl, by omega, hid rfl, rfl⟩
  case round =>
    obtain ⟨j, rfl, hj, hf, rfl⟩ := hrel
    by_cases hlt : j < ns.length
    · have h2 : (j : Int) < (ns.length : Int) := by omega
      obtain ⟨b, o, rfl, hc⟩ := rowAt (g := cN) (fun _ => rfl) HR.out (i := j) (x := ns[j]) (by simp [hlt])
      have c0 : w.cell? ⟨b, o + j, none⟩ = some (.string (strOfNums ns[j])) := by have := hc 0 _ rfl; simpa using this
      have HA := hid (areNames1 ns[j] w (HT.out _ (List.getElem_mem hlt)).1 (HT.out _ (List.getElem_mem hlt)).2)
      have HST := hid (fnd_at (p := fun x => !nmB x) hlt)
      generalize ns[j] = x at *
      cases hq : nmB x with
      | true =>
        rw [hq] at HA
        go_wp2_with (first | (go_at_call 67; refine HA.out.mono ?_; rintro e w1 ⟨rfl, rfl⟩))
        exact ⟨⟨j + 1, by simp, by omega, hid (by rw [hf.out, HST.out, hq]; simp), by first | rfl | trivial⟩, by simp; omega⟩
      | false =>
        rw [hq] at HA
        go_wp2_with (first | (go_at_call 67; refine HA.out.mono ?_; rintro e w1 ⟨rfl, rfl⟩))
        go_ret
        exact ⟨ret_int (by rw [hf.out, HST.out, hq]; simp), rfl⟩
    · have h2 : ¬ (j : Int) < (ns.length : Int) := by omega
      have HE : Hid (fnd (fun x => !nmB x) ns 0 = -1) := hid (by rw [hf.out, List.drop_of_length_le (by omega)]; rfl)
      go_wp2
      go_ret
      exact ⟨ret_int (by rw [HE.out]), rfl⟩
theorem areNamesT (h : RowS w AnyZ 1 (.slice a n c) ns.length (ns.flatMap cN)) (ht : ∀ x ∈ ns, TxA x) : Calls Tryd.prog 47 #[.slice a n c] w fun e w' => e = .returned (.bool (ns.all nmB)) ∧ w = w' := by
  have HI := hid (indexFnN ns w a n c h ht)
  have HX : Hid (decide (0 ≤ fnd (fun x => !nmB x) ns 0) = !ns.all nmB) := hid (by rw [fnd_any, List.not_all_eq_any_not])
  clear h ht
  generalize fnd (fun x => !nmB x) ns 0 = k at *
  have HC : Hid (Calls Tryd.prog 66 #[.slice a n c, .func (.func 67) #[] #[]] w fun e w' => e = .returned (.bool (!ns.all nmB)) ∧ w = w') := by
    refine hid ?_
    by_cases hk : 0 ≤ k
    · have hk2 : ¬ k < 0 := by omega
      go_enter Tryd.func66, Tryd.ntmps66
      go_wp2_with (first | (go_at_call 90; refine HI.out.mono ?_; rintro e w1 ⟨rfl, rfl⟩))
      go_ret
      exact ⟨ret_bool (by rw [← HX.out]; try simp [hk]), rfl⟩
    · have hk2 : k < 0 := by omega
      go_enter Tryd.func66, Tryd.ntmps66
      go_wp2_with (first | (go_at_call 90; refine HI.out.mono ?_; rintro e w1 ⟨rfl, rfl⟩))
      go_ret
      exact ⟨ret_bool (by rw [← HX.out]; try simp [hk]), rfl⟩
  clear HI HX
  go_enter Tryd.func47, Tryd.ntmps47
  go_wp2_with (first | (go_at_call 66; refine HC.out.mono ?_; rintro e w1 ⟨rfl, rfl⟩))
  go_ret
  exact ⟨by first | rfl | simp, rfl⟩
end
set_option maxHeartbeats 1000000
/-- A number that is no kind: what the walks ask of it. -/
def NoKind (k : Int) : Prop := (k == 1) = false ∧ (k == 2) = false ∧ (k == 3) = false ∧ (k == 4) = false ∧ (k == 5) = false ∧ (k == 6) = false ∧ (k == 7) = false ∧ (k == 8) = false ∧ (k == 9) = false ∧ (k == 10) = false ∧ (k == 11) = false ∧ (k == 12) = false ∧ (k == 13) = false ∧ (k == 14) = false ∧ (k == 15) = false ∧ (k == 16) = false ∧ (k == 17) = false
theorem noKind {k : Int} (h : k < 1 ∨ 17 < k) : NoKind k := by
  unfold NoKind
  simp only [beq_eq_false_iff_ne]
  omega
theorem kinds (k : Int) : k = 1 ∨ k = 2 ∨ k = 3 ∨ k = 4 ∨ k = 5 ∨ k = 6 ∨ k = 7 ∨ k = 8 ∨ k = 9 ∨ k = 10 ∨ k = 11 ∨ k = 12 ∨ k = 13 ∨ k = 14 ∨ k = 15 ∨ k = 16 ∨ k = 17 ∨ k < 1 ∨ 17 < k := by omega
/-- The wire kind; -1: no kind. -/
def kwire (k : Int) : Int := if k = 8 ∨ k = 10 ∨ k = 12 then 5 else if k = 9 ∨ k = 11 ∨ k = 13 then 1 else if k = 14 ∨ k = 15 ∨ k = 17 then 2 else if (1 ≤ k ∧ k ≤ 7) ∨ k = 16 then 0 else -1
def kwireE (k : Int) : Int := if 1 ≤ k ∧ k ≤ 17 then 0 else 18
def knum (k : Int) : Bool := decide ((1 ≤ k ∧ k ≤ 13) ∨ k = 16)
def kkey (k : Int) : Bool := decide ((1 ≤ k ∧ k ≤ 11) ∨ k = 14)
theorem ret_ii {a b c d : Int} (h1 : a = c) (h2 : b = d) : Ending.returned (.tuple #[.int .i64 a, .int .i64 b]) = .returned (.tuple #[.int .i64 c, .int .i64 d]) := by rw [h1, h2]
theorem kwire_no {k : Int} (h : k < 1 ∨ 17 < k) : kwire k = -1 := by unfold kwire; rw [if_neg (by omega), if_neg (by omega), if_neg (by omega), if_neg (by omega)]
theorem kwireE_no {k : Int} (h : k < 1 ∨ 17 < k) : kwireE k = 18 := by unfold kwireE; rw [if_neg (by omega)]
theorem knum_no {k : Int} (h : k < 1 ∨ 17 < k) : knum k = false := by unfold knum; simp; omega
theorem kkey_no {k : Int} (h : k < 1 ∨ 17 < k) : kkey k = false := by unfold kkey; simp; omega
theorem wireKW (k : Int) (w : World) : Calls Tryd.prog 103 #[.int .i64 k] w fun e w' => e = .returned (.tuple #[.int .i64 (max (kwire k) 0), .int .i64 (kwireE k)]) ∧ w = w' := by
  rcases kinds k with rfl | rfl | rfl | rfl | rfl | rfl | rfl | rfl | rfl | rfl | rfl | rfl | rfl | rfl | rfl | rfl | rfl | h | h
  iterate 17 (next => go_enter Tryd.func103, Tryd.ntmps103; go_wp2; go_ret2; exact ⟨rfl, rfl⟩)
  · obtain ⟨e1, e2, e3, e4, e5, e6, e7, e8, e9, e10, e11, e12, e13, e14, e15, e16, e17⟩ := noKind (.inl h)
    have H : Hid (Ending.returned (.tuple #[.int .i64 0, .int .i64 18]) = .returned (.tuple #[.int .i64 (max (kwire k) 0), .int .i64 (kwireE k)])) := hid (ret_ii (by rw [kwire_no (.inl h)]; rfl) (kwireE_no (.inl h)).symm)
    clear h
    go_enter Tryd.func103, Tryd.ntmps103
    go_wp2
    go_ret2
    exact ⟨H.out, rfl⟩
  · obtain ⟨e1, e2, e3, e4, e5, e6, e7, e8, e9, e10, e11, e12, e13, e14, e15, e16, e17⟩ := noKind (.inr h)
    have H : Hid (Ending.returned (.tuple #[.int .i64 0, .int .i64 18]) = .returned (.tuple #[.int .i64 (max (kwire k) 0), .int .i64 (kwireE k)])) := hid (ret_ii (by rw [kwire_no (.inr h)]; rfl) (kwireE_no (.inr h)).symm)
    clear h
    go_enter Tryd.func103, Tryd.ntmps103
    go_wp2
    go_ret2
    exact ⟨H.out, rfl⟩
theorem wireKR (k : Int) (w : World) : Calls Tryd.prog 62 #[.int .i64 k] w fun e w' => e = .returned (.int .i64 (kwire k)) ∧ w = w' := by
  rcases kinds k with rfl | rfl | rfl | rfl | rfl | rfl | rfl | rfl | rfl | rfl | rfl | rfl | rfl | rfl | rfl | rfl | rfl | h | h
  iterate 17 (next => go_enter Tryd.func62, Tryd.ntmps62; go_wp2; go_ret; exact ⟨rfl, rfl⟩)
  · obtain ⟨e1, e2, e3, e4, e5, e6, e7, e8, e9, e10, e11, e12, e13, e14, e15, e16, e17⟩ := noKind (.inl h)
    have H : Hid (Ending.returned (.int .i64 (-1)) = .returned (.int .i64 (kwire k))) := hid (ret_int (kwire_no (.inl h)).symm)
    clear h
    go_enter Tryd.func62, Tryd.ntmps62
    go_wp2
    go_ret
    exact ⟨H.out, rfl⟩
  · obtain ⟨e1, e2, e3, e4, e5, e6, e7, e8, e9, e10, e11, e12, e13, e14, e15, e16, e17⟩ := noKind (.inr h)
    have H : Hid (Ending.returned (.int .i64 (-1)) = .returned (.int .i64 (kwire k))) := hid (ret_int (kwire_no (.inr h)).symm)
    clear h
    go_enter Tryd.func62, Tryd.ntmps62
    go_wp2
    go_ret
    exact ⟨H.out, rfl⟩
/-- Numeric asks Wire. -/
theorem numericW (k : Int) (w : World) : Calls Tryd.prog 83 #[.int .i64 k] w fun e w' => e = .returned (.bool (knum k)) ∧ w = w' := by
  have HB : Hid ((decide (kwireE k = 0) && !decide (max (kwire k) 0 = 2)) = knum k) := hid (by
    rcases kinds k with rfl | rfl | rfl | rfl | rfl | rfl | rfl | rfl | rfl | rfl | rfl | rfl | rfl | rfl | rfl | rfl | rfl | h | h
    iterate 17 (next => rfl)
    · rw [kwireE_no (.inl h), knum_no (.inl h)]; rfl
    · rw [kwireE_no (.inr h), knum_no (.inr h)]; rfl)
  have hw := wireKW k w
  generalize kwireE k = we at HB hw
  generalize max (kwire k) 0 = wk at HB hw
  have HW := hid hw
  clear hw
  by_cases h : we = 0
  · subst h
    go_enter Tryd.func83, Tryd.ntmps83
    go_wp2_with (go_at_call 103; refine HW.out.mono ?_; rintro e w' ⟨rfl, rfl⟩)
    go_ret
    exact ⟨ret_bool (by rw [← HB.out]; simp; rfl), rfl⟩
  · have h' : (we == 0) = false := by simpa using h
    have H : Hid (false = knum k) := hid (by rw [← HB.out]; simp [h])
    clear h
    go_enter Tryd.func83, Tryd.ntmps83
    go_wp2_with (go_at_call 103; refine HW.out.mono ?_; rintro e w' ⟨rfl, rfl⟩)
    go_ret
    exact ⟨ret_bool H.out, rfl⟩
theorem numericR (k : Int) (w : World) : Calls Tryd.prog 45 #[.int .i64 k] w fun e w' => e = .returned (.bool (knum k)) ∧ w = w' := by
  have HB : Hid ((decide (0 ≤ kwire k) && !decide (kwire k = 2)) = knum k) := hid (by
    rcases kinds k with rfl | rfl | rfl | rfl | rfl | rfl | rfl | rfl | rfl | rfl | rfl | rfl | rfl | rfl | rfl | rfl | rfl | h | h
    iterate 17 (next => rfl)
    · rw [kwire_no (.inl h), knum_no (.inl h)]; rfl
    · rw [kwire_no (.inr h), knum_no (.inr h)]; rfl)
  have HW : Hid (∀ w : World, Calls Tryd.prog 62 #[.int .i64 k] w fun e w' => e = .returned (.int .i64 (kwire k)) ∧ w = w') := hid (wireKR k)
  generalize kwire k = wk at HB HW
  by_cases h : 0 ≤ wk
  · go_enter Tryd.func45, Tryd.ntmps45
    go_wp2_with (go_at_call 62; refine (HW.out _).mono ?_; rintro e w' ⟨rfl, rfl⟩)
    go_ret
    exact ⟨ret_bool (by rw [← HB.out]; simp [h]; rfl), rfl⟩
  · have h' : decide (0 ≤ wk) = false := by simpa using h
    have H : Hid (false = knum k) := hid (by rw [← HB.out]; simp [h'])
    clear h
    go_enter Tryd.func45, Tryd.ntmps45
    go_wp2_with (go_at_call 62; refine (HW.out _).mono ?_; rintro e w' ⟨rfl, rfl⟩)
    go_ret
    exact ⟨ret_bool H.out, rfl⟩
theorem isKeyW (k : Int) (w : World) : Calls Tryd.prog 110 #[.int .i64 k] w fun e w' => e = .returned (.bool (kkey k)) ∧ w = w' := by
  have HN : Hid (∀ (k : Int) (w : World), Calls Tryd.prog 83 #[.int .i64 k] w fun e w' => e = .returned (.bool (knum k)) ∧ w = w') := hid numericW
  rcases kinds k with rfl | rfl | rfl | rfl | rfl | rfl | rfl | rfl | rfl | rfl | rfl | rfl | rfl | rfl | rfl | rfl | rfl | h | h
  iterate 17 (next => go_enter Tryd.func110, Tryd.ntmps110; go_wp2_with (go_at_call 83; refine (HN.out _ _).mono ?_; rintro e w' ⟨rfl, rfl⟩); go_ret; exact ⟨rfl, rfl⟩)
  · obtain ⟨e1, e2, e3, e4, e5, e6, e7, e8, e9, e10, e11, e12, e13, e14, e15, e16, e17⟩ := noKind (.inl h)
    have H : Hid (knum k = kkey k) := hid (by rw [knum_no (.inl h), kkey_no (.inl h)])
    clear h
    go_enter Tryd.func110, Tryd.ntmps110
    go_wp2_with (go_at_call 83; refine (HN.out _ _).mono ?_; rintro e w' ⟨rfl, rfl⟩)
    go_ret
    exact ⟨ret_bool H.out, rfl⟩
  · obtain ⟨e1, e2, e3, e4, e5, e6, e7, e8, e9, e10, e11, e12, e13, e14, e15, e16, e17⟩ := noKind (.inr h)
    have H : Hid (knum k = kkey k) := hid (by rw [knum_no (.inr h), kkey_no (.inr h)])
    clear h
    go_enter Tryd.func110, Tryd.ntmps110
    go_wp2_with (go_at_call 83; refine (HN.out _ _).mono ?_; rintro e w' ⟨rfl, rfl⟩)
    go_ret
    exact ⟨ret_bool H.out, rfl⟩
theorem isKeyR (k : Int) (w : World) : Calls Tryd.prog 87 #[.int .i64 k] w fun e w' => e = .returned (.bool (kkey k)) ∧ w = w' := by
  rcases kinds k with rfl | rfl | rfl | rfl | rfl | rfl | rfl | rfl | rfl | rfl | rfl | rfl | rfl | rfl | rfl | rfl | rfl | h | h
  iterate 17 (next => go_enter Tryd.func87, Tryd.ntmps87; go_wp2; go_ret; exact ⟨rfl, rfl⟩)
  · obtain ⟨e1, e2, e3, e4, e5, e6, e7, e8, e9, e10, e11, e12, e13, e14, e15, e16, e17⟩ := noKind (.inl h)
    have H : Hid (false = kkey k) := hid (kkey_no (.inl h)).symm
    have hf : decide (1 ≤ k) = false := by simp; omega
    go_enter Tryd.func87, Tryd.ntmps87
    go_wp2
    go_ret
    exact ⟨ret_bool H.out, rfl⟩
  · obtain ⟨e1, e2, e3, e4, e5, e6, e7, e8, e9, e10, e11, e12, e13, e14, e15, e16, e17⟩ := noKind (.inr h)
    have H : Hid (false = kkey k) := hid (kkey_no (.inr h)).symm
    have hf : decide (k ≤ 11) = false := by simp; omega
    go_enter Tryd.func87, Tryd.ntmps87
    go_wp2
    go_ret
    exact ⟨ret_bool H.out, rfl⟩
set_option maxHeartbeats 600000
structure FT where
  name : List Int
  num : Int
  kind : Int
  ref : Int
  lab : Int
  one : Int
  key : Int
structure SY where
  name : List Int
  num : Int
structure RG where
  lo : Int
  hi : Int
structure TT where
  name : List Int
  enum : Bool
  fs : List FT
  os : List (List Int)
  ss : List SY
  rs : List RG
def cFT (f : FT) : List Value := [.string (strOfNums f.name), .int .i64 f.num, .int .i64 f.kind, .int .i64 f.ref, .int .i64 f.lab, .int .i64 f.one, .int .i64 f.key]
def cSY (f : SY) : List Value := [.string (strOfNums f.name), .int .i64 f.num]
def cRG (f : RG) : List Value := [.int .i64 f.lo, .int .i64 f.hi]
/-- A type and the values of its four lists. -/
structure TV where
  t : TT
  f : Value
  o : Value
  s : Value
  r : Value
def cTV (x : TV) : List Value := [.string (strOfNums x.t.name), .bool x.t.enum, x.f, x.o, x.s, x.r]
/-- A type's lists, in memory. -/
structure TyR (w : World) (x : TV) : Prop where
  f : RowS w AnyZ 7 x.f x.t.fs.length (x.t.fs.flatMap cFT)
  o : RowS w AnyZ 1 x.o x.t.os.length (x.t.os.flatMap cN)
  s : RowS w AnyZ 2 x.s x.t.ss.length (x.t.ss.flatMap cSY)
  r : RowS w AnyZ 2 x.r x.t.rs.length (x.t.rs.flatMap cRG)
/-- A table, in memory. -/
structure TbR (w : World) (v : Value) (l : List TV) : Prop where
  row : RowS w AnyZ 6 v l.length (l.flatMap cTV)
  ty : ∀ x ∈ l, TyR w x
theorem TyR.kept {w w' : World} {x : TV} (h : TyR w x) (g : Below w.heap.size w w') : TyR w' x := ⟨h.f.kept g, h.o.kept g, h.s.kept g, h.r.kept g⟩
theorem TbR.kept {w w' : World} {v : Value} {l : List TV} (h : TbR w v l) (g : Below w.heap.size w w') : TbR w' v l := ⟨h.row.kept g, fun x hx => (h.ty x hx).kept g⟩
def keyB (f : FT) : Bool := if f.lab = 5 then kkey f.key else decide (f.key = 0)
def oneB (k : Nat) (f : FT) : Bool := if f.lab = 4 then decide (0 ≤ f.one ∧ f.one < k) else decide (f.one = 0)
def labB (f : FT) : Bool := if f.lab = 0 then decide (f.kind ≠ 17) else if f.lab = 3 then knum f.kind else decide (0 < f.lab ∧ f.lab ≤ 5)
section
variable (f : FT) (w : World)
theorem hasGoodKeyT : Calls Tryd.prog 98 #[.agg #[.string (strOfNums f.name), .int .i64 f.num, .int .i64 f.kind, .int .i64 f.ref, .int .i64 f.lab, .int .i64 f.one, .int .i64 f.key]] w fun e w' => e = .returned (.bool (keyB f)) ∧ Below w.heap.size w w' := by
  obtain ⟨nm, num, kind, ref, lab, one, key⟩ := f
  dsimp only
  have HK := hid (isKeyW key)
  by_cases h : lab = 5
  · have k5 : (lab == 5) = true := by simpa using h
    have HX : Hid (keyB ⟨nm, num, kind, ref, lab, one, key⟩ = kkey key) := hid (by unfold keyB; rw [if_pos h])
    replace h := hid h
    go_enter Tryd.func98, Tryd.ntmps98
    go_wp2_with (first | (go_at_call 110; refine (HK.out _).mono ?_; rintro e w1 ⟨rfl, rfl⟩))
    go_ret
    exact ⟨ret_bool HX.out.symm, by exact blBy⟩
  · have k5 : (lab == 5) = false := by simpa using h
    have HX : Hid (keyB ⟨nm, num, kind, ref, lab, one, key⟩ = decide (key = 0)) := hid (by unfold keyB; rw [if_neg h])
    replace h := hid h
    go_enter Tryd.func98, Tryd.ntmps98
    go_wp2
    go_ret
    exact ⟨ret_bool (by rw [HX.out]; by_cases hk : key = 0 <;> simp [hk]), by exact blBy⟩
end
def refB (l : List TV) (f : FT) : Bool := if f.kind = 16 ∨ f.kind = 17 then (match l[f.ref.toNat]? with | some x => decide (0 ≤ f.ref) && (x.t.enum == decide (f.kind = 16)) | none => false) else decide (f.ref = 0)
section
variable (f : FT) (w : World)
theorem hasGoodLabelT : Calls Tryd.prog 96 #[.agg #[.string (strOfNums f.name), .int .i64 f.num, .int .i64 f.kind, .int .i64 f.ref, .int .i64 f.lab, .int .i64 f.one, .int .i64 f.key]] w fun e w' => e = .returned (.bool (labB f)) ∧ Below w.heap.size w w' := by
  obtain ⟨nm, num, kind, ref, lab, one, key⟩ := f
  dsimp only
  have HK := hid (numericW kind)
  by_cases h0 : lab = 0
  · have k0 : (lab == 0) = true := by simpa using h0
    have HX : Hid (labB ⟨nm, num, kind, ref, lab, one, key⟩ = decide (kind ≠ 17)) := hid (by unfold labB; rw [if_pos h0])
    replace h0 := hid h0
    go_enter Tryd.func96, Tryd.ntmps96
    go_wp2
    go_ret
    exact ⟨ret_bool (by rw [HX.out]; by_cases hk : kind = 17 <;> simp [hk]), by exact blBy⟩
  · have k0 : (lab == 0) = false := by simpa using h0
    by_cases h3 : lab = 3
    · have k3 : (lab == 3) = true := by simpa using h3
      have HX : Hid (labB ⟨nm, num, kind, ref, lab, one, key⟩ = knum kind) := hid (by unfold labB; rw [if_neg h0, if_pos h3])
      replace h0 := hid h0
      replace h3 := hid h3
      go_enter Tryd.func96, Tryd.ntmps96
      go_wp2_with (first | (go_at_call 83; refine (HK.out _).mono ?_; rintro e w1 ⟨rfl, rfl⟩))
      go_ret
      exact ⟨ret_bool (HX.out.symm), by exact blBy⟩
    · have k3 : (lab == 3) = false := by simpa using h3
      have HX : Hid (labB ⟨nm, num, kind, ref, lab, one, key⟩ = decide (0 < lab ∧ lab ≤ 5)) := hid (by unfold labB; rw [if_neg h0, if_neg h3])
      replace h0 := hid h0
      replace h3 := hid h3
      by_cases h1 : 0 < lab
      · by_cases h2 : lab ≤ 5
        · go_enter Tryd.func96, Tryd.ntmps96
          go_wp2
          go_ret
          exact ⟨ret_bool (by rw [HX.out]; simp; omega), by exact blBy⟩
        · go_enter Tryd.func96, Tryd.ntmps96
          go_wp2
          go_ret
          exact ⟨ret_bool (by rw [HX.out]; simp; omega), by exact blBy⟩
      · go_enter Tryd.func96, Tryd.ntmps96
        go_wp2
        go_ret
        exact ⟨ret_bool (by rw [HX.out]; simp; omega), by exact blBy⟩
theorem hasGoodOneofT (t : TT) (fa oa sa ra : Option Addr) (fc oc sc rc : Nat) (hl : t.os.length ≤ 9223372036854775807) : Calls Tryd.prog 97 #[.agg #[.string (strOfNums t.name), .bool t.enum, .slice fa t.fs.length fc, .slice oa t.os.length oc, .slice sa t.ss.length sc, .slice ra t.rs.length rc], .agg #[.string (strOfNums f.name), .int .i64 f.num, .int .i64 f.kind, .int .i64 f.ref, .int .i64 f.lab, .int .i64 f.one, .int .i64 f.key]] w fun e w' => e = .returned (.bool (oneB t.os.length f)) ∧ Below w.heap.size w w' := by
  obtain ⟨nm, num, kind, ref, lab, one, key⟩ := f
  dsimp only
  have h63 : (t.os.length : Int) ≤ 9223372036854775807 := by omega
  by_cases h : lab = 4
  · have k4 : (lab == 4) = true := by simpa using h
    have HX : Hid (oneB t.os.length ⟨nm, num, kind, ref, lab, one, key⟩ = decide (0 ≤ one ∧ one < (t.os.length : Int))) := hid (by unfold oneB; rw [if_pos h])
    replace h := hid h
    by_cases h1 : 0 ≤ one
    · by_cases h2 : one < (t.os.length : Int)
      · go_enter Tryd.func97, Tryd.ntmps97
        go_wp2
        go_ret
        exact ⟨ret_bool (by rw [HX.out]; simp; omega), by exact blBy⟩
      · go_enter Tryd.func97, Tryd.ntmps97
        go_wp2
        go_ret
        exact ⟨ret_bool (by rw [HX.out]; simp; omega), by exact blBy⟩
    · go_enter Tryd.func97, Tryd.ntmps97
      go_wp2
      go_ret
      exact ⟨ret_bool (by rw [HX.out]; simp; omega), by exact blBy⟩
  · have k4 : (lab == 4) = false := by simpa using h
    have HX : Hid (oneB t.os.length ⟨nm, num, kind, ref, lab, one, key⟩ = decide (one = 0)) := hid (by unfold oneB; rw [if_neg h])
    replace h := hid h
    go_enter Tryd.func97, Tryd.ntmps97
    go_wp2
    go_ret
    exact ⟨ret_bool (by rw [HX.out]; by_cases hk : one = 0 <;> simp [hk]), by exact blBy⟩
theorem hasGoodRefT (l : List TV) (ta : Option Addr) (tc : Nat) (h : TbR w (.slice ta l.length tc) l) : Calls Tryd.prog 95 #[.agg #[.slice ta l.length tc], .agg #[.string (strOfNums f.name), .int .i64 f.num, .int .i64 f.kind, .int .i64 f.ref, .int .i64 f.lab, .int .i64 f.one, .int .i64 f.key]] w fun e w' => e = .returned (.bool (refB l f)) ∧ Below w.heap.size w w' := by
  obtain ⟨nm, num, kind, ref, lab, one, key⟩ := f
  dsimp only
  obtain ⟨_, _, e, hn⟩ := rowS_sl h.row
  clear e
  have h63 : (l.length : Int) ≤ 9223372036854775807 := by omega
  by_cases hk6 : kind = 16
  · subst hk6
    have HX : Hid (refB l ⟨nm, num, 16, ref, lab, one, key⟩ = (match l[ref.toNat]? with | some x => decide (0 ≤ ref) && (x.t.enum == true) | none => false)) := hid (by unfold refB; rw [if_pos (by simp)]; rfl)
    by_cases h1 : 0 ≤ ref
    · obtain ⟨k, rfl⟩ := Int.eq_ofNat_of_zero_le h1
      by_cases h2 : k < l.length
      · have h2' : (k : Int) < (l.length : Int) := by omega
        obtain ⟨b, o, rfl, hc⟩ := rowAt (g := cTV) (fun _ => rfl) h.row (i := k) (x := l[k]) (by simp [h2])
        have c0 : w.cell? ⟨b, o + k * 6 + 1, none⟩ = some (.bool l[k].t.enum) := hc 1 _ rfl
        have hbl : b < w.heap.size := World.block_lt_of_cell? _ _ c0
        have HY : Hid (refB l ⟨nm, num, 16, (k : Int), lab, one, key⟩ = (l[k].t.enum == true)) := hid (by rw [HX.out]; simp [h2])
        clear HX
        generalize l[k] = x at *
        cases hx : x.t.enum with
        | true =>
          rw [hx] at c0
          go_enter Tryd.func95, Tryd.ntmps95
          go_wp2
          go_region
          go_wp2
          go_ret
          exact ⟨ret_bool (by rw [HY.out, hx]; rfl), by exact blBy⟩
        | false =>
          rw [hx] at c0
          go_enter Tryd.func95, Tryd.ntmps95
          go_wp2
          go_region
          go_wp2
          go_ret
          exact ⟨ret_bool (by rw [HY.out, hx]; rfl), by exact blBy⟩
      · have h2' : ¬ (k : Int) < (l.length : Int) := by omega
        have HY : Hid (refB l ⟨nm, num, 16, (k : Int), lab, one, key⟩ = false) := hid (by rw [HX.out, List.getElem?_eq_none (by simp; omega)])
        go_enter Tryd.func95, Tryd.ntmps95
        go_wp2
        go_region
        go_wp2
        go_ret
        exact ⟨ret_bool HY.out.symm, by exact blBy⟩
    · have HY : Hid (refB l ⟨nm, num, 16, ref, lab, one, key⟩ = false) := hid (by rw [HX.out]; split <;> simp [h1])
      have hz : (0 ≤ ref) = False := by simp; omega
      replace h1 := hid h1
      go_enter Tryd.func95, Tryd.ntmps95
      go_wp2
      go_region
      go_wp2
      go_ret
      exact ⟨ret_bool HY.out.symm, by exact blBy⟩
  by_cases hk7 : kind = 17
  · subst hk7
    have HX : Hid (refB l ⟨nm, num, 17, ref, lab, one, key⟩ = (match l[ref.toNat]? with | some x => decide (0 ≤ ref) && (x.t.enum == false) | none => false)) := hid (by unfold refB; rw [if_pos (by simp)]; rfl)
    by_cases h1 : 0 ≤ ref
    · obtain ⟨k, rfl⟩ := Int.eq_ofNat_of_zero_le h1
      by_cases h2 : k < l.length
      · have h2' : (k : Int) < (l.length : Int) := by omega
        obtain ⟨b, o, rfl, hc⟩ := rowAt (g := cTV) (fun _ => rfl) h.row (i := k) (x := l[k]) (by simp [h2])
        have c0 : w.cell? ⟨b, o + k * 6 + 1, none⟩ = some (.bool l[k].t.enum) := hc 1 _ rfl
        have hbl : b < w.heap.size := World.block_lt_of_cell? _ _ c0
        have HY : Hid (refB l ⟨nm, num, 17, (k : Int), lab, one, key⟩ = (l[k].t.enum == false)) := hid (by rw [HX.out]; simp [h2])
        clear HX
        generalize l[k] = x at *
        cases hx : x.t.enum with
        | true =>
          rw [hx] at c0
          go_enter Tryd.func95, Tryd.ntmps95
          go_wp2
          go_region
          go_wp2
          go_ret
          exact ⟨ret_bool (by rw [HY.out, hx]; rfl), by exact blBy⟩
        | false =>
          rw [hx] at c0
          go_enter Tryd.func95, Tryd.ntmps95
          go_wp2
          go_region
          go_wp2
          go_ret
          exact ⟨ret_bool (by rw [HY.out, hx]; rfl), by exact blBy⟩
      · have h2' : ¬ (k : Int) < (l.length : Int) := by omega
        have HY : Hid (refB l ⟨nm, num, 17, (k : Int), lab, one, key⟩ = false) := hid (by rw [HX.out, List.getElem?_eq_none (by simp; omega)])
        go_enter Tryd.func95, Tryd.ntmps95
        go_wp2
        go_region
        go_wp2
        go_ret
        exact ⟨ret_bool HY.out.symm, by exact blBy⟩
    · have HY : Hid (refB l ⟨nm, num, 17, ref, lab, one, key⟩ = false) := hid (by rw [HX.out]; split <;> simp [h1])
      have hz : (0 ≤ ref) = False := by simp; omega
      replace h1 := hid h1
      go_enter Tryd.func95, Tryd.ntmps95
      go_wp2
      go_region
      go_wp2
      go_ret
      exact ⟨ret_bool HY.out.symm, by exact blBy⟩
  have hk : ¬ (kind = 16 ∨ kind = 17) := fun h => h.elim hk6 hk7
  have k1 : (kind != 16) = true := by simpa using hk6
  have k2 : (kind != 17) = true := by simpa using hk7
  have HX : Hid (refB l ⟨nm, num, kind, ref, lab, one, key⟩ = decide (ref = 0)) := hid (by unfold refB; rw [if_neg hk])
  replace hk := hid hk
  go_enter Tryd.func95, Tryd.ntmps95
  go_wp2
  go_ret
  exact ⟨ret_bool (by rw [HX.out]; by_cases hk : ref = 0 <;> simp [hk]), by exact blBy⟩
end
end Go.Proofs.YtbiohlfcikdldaaDoor
