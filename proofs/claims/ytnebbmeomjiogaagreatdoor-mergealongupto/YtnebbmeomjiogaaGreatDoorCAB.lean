/-
  Equal: what the program answers.
  Rows of one's own, of structs that hold other rows.
  What a function makes of each one of a list.
  The names of a message's oneofs and fields.
  Fields are found by halving.
  Ranges that are free.
-/
import Derived.Test.YtnebbmeomjiogaaGreatDoorCTI
import Derived.Test.YtnebbmeomjiogaaGreatDoorTO
import Derived.Laws.OwnMore
import Derived.Test.YtnebbmeomjiogaaGreatDoorShelf
namespace Go.Proofs.YtnebbmeomjiogaaGreatDoor
open Go.RowKit
set_option maxRecDepth 1000000
set_option linter.unusedVariables false
set_option linter.unusedSimpArgs false
set_option maxHeartbeats 1000000
theorem mgs_at' {w : World} {Z : Nat → Prop} {d : Nat} {a : Option Addr} {n c : Nat} {xs : List CM} (h : MgsR w Z d (.slice a n c) xs) {i : Nat} (hi : i < xs.length) : ∃ b o fa fc ua uc, a = some ⟨b, o, none⟩ ∧ Z b ∧ b < w.heap.size ∧ w.cell? ⟨b, o + i * 2, none⟩ = some (.slice fa xs[i].fs.length fc) ∧ w.cell? ⟨b, o + i * 2 + 1, none⟩ = some (.slice ua xs[i].us.length uc) ∧ MsgE w Z d [.slice fa xs[i].fs.length fc, .slice ua xs[i].us.length uc] xs[i] := by
  cases d with
  | zero => rw [mgs_zero h] at hi; simp at hi
  | succ d => exact mgs_at h hi
/-- A bool that says P. -/
def EqR (w : World) (P : Prop) (e : Ending) (w' : World) : Prop := ∃ r : Bool, e = .returned (.bool r) ∧ (r = true ↔ P) ∧ Below w.heap.size w w'
theorem EqR.mk {w : World} {P : Prop} {w' : World} (r : Bool) (h : r = true ↔ P) (hb : Below w.heap.size w w') : EqR w P (.returned (.bool r)) w' := ⟨r, rfl, h, hb⟩
theorem EqR.yes {w : World} {P : Prop} {w' : World} (h : P) (hb : Below w.heap.size w w') : EqR w P (.returned (.bool true)) w' := ⟨true, rfl, ⟨fun _ => h, fun _ => rfl⟩, hb⟩
theorem EqR.no {w : World} {P : Prop} {w' : World} (h : ¬ P) (hb : Below w.heap.size w w') : EqR w P (.returned (.bool false)) w' := ⟨false, rfl, ⟨fun q => (by cases q), fun q => absurd q h⟩, hb⟩
theorem take_next {α : Type} {xs ys : List α} {i : Nat} (h1 : i < xs.length) (h2 : i < ys.length) (h : xs.take i = ys.take i) (he : xs[i] = ys[i]) : xs.take (i + 1) = ys.take (i + 1) := by
  rw [List.take_succ_eq_append_getElem h1, List.take_succ_eq_append_getElem h2, h, he]
theorem take_all {α : Type} {xs ys : List α} {i : Nat} (h1 : xs.length ≤ i) (h2 : ys.length ≤ i) (h : xs.take i = ys.take i) : xs = ys := by
  rw [List.take_of_length_le h1, List.take_of_length_le h2] at h
  exact h
theorem ne_at {α : Type} {xs ys : List α} {i : Nat} (h1 : i < xs.length) (h2 : i < ys.length) (h : ¬ xs[i] = ys[i]) : ¬ xs = ys := by
  intro e
  subst e
  exact h rfl
/-- Bytes as a string. -/
theorem by_conv {w : World} {Z : Nat → Prop} {a : Option Addr} {n c : Nat} {b : List Int} (h : ByE w Z (.slice a n c) b) : (convert 36 9 (.slice a n c)).run Tryz.prog w = .ok (.string (strOfNums b)) w := by
  obtain ⟨⟨a', c', e, hv⟩, hbd, -⟩ := h
  cases e
  rcases hv.cells with ⟨h0, hn⟩ | ⟨b', off, rfl, _, hc⟩
  · have hx : b = [] := List.eq_nil_of_length_eq_zero h0
    subst hx
    cases a with
    | none => exact run_convert_bytes_nil w 36 5 Tryz.underlying36 Tryz.underlying5 0 c 9 Tryz.underlying9
    | some x =>
      show (convert 36 9 (.slice (some x) 0 c)).run Tryz.prog w = _
      rw [run_convert_bytes_string w 36 9 5 _ 0 c Tryz.underlying36 Tryz.underlying5 Tryz.underlying9, run_bytesToString w _ 0 c [] (by simp [loadCells, loadCellsFrom])]
      rfl
  · exact run_convert_bytes_arg w 36 5 Tryz.underlying36 Tryz.underlying5 b' off b.length c b rfl (fun i hi => hc i _ (by simp [List.getD, hi])) 9 Tryz.underlying9
/-- What is needed of a struct's relation. -/
structure Fam {α : Type} (k : Nat) (E : World → (Nat → Prop) → List Value → α → Prop) : Prop where
  go : ∀ {w w' : World} {Z Z' f : Nat → Prop} {cs : List Value} {x : α}, E w Z cs x → Keep f w w' → (∀ b, Z b → f b) → (∀ b, Z b → Z' b) → E w' Z' cs x
  old : ∀ {w : World} {Z : Nat → Prop} {cs : List Value} {x : α}, E w Z cs x → E w (fun b => Z b ∧ b < w.heap.size) cs x
  one : ∀ {w : World} {Z : Nat → Prop} {cs : List Value} {x : α}, E w Z cs x → ∀ u ∈ cs, u.oneCell' = true
  len : ∀ {w : World} {Z : Nat → Prop} {cs : List Value} {x : α}, E w Z cs x → cs.length = k
theorem row_oldZ {w : World} {Z : Nat → Prop} {k : Nat} {v : Value} {n : Nat} {fl : List Value} (hk : 0 < k) (h : RowS w Z k v n fl) : RowS w (fun b => Z b ∧ b < w.heap.size) k v n fl := by
  obtain ⟨a, c, e, h⟩ := h
  refine ⟨a, c, e, h.length, h.le, h.max, ?_⟩
  rcases h.cells with h0 | ⟨b, off, rfl, hz, hc⟩
  · exact .inl h0
  · by_cases hn : n = 0
    · exact .inl ⟨hn, fun q => by cases q⟩
    · have hlt : 0 < fl.length := by rw [h.length]; exact Nat.mul_pos (by omega) hk
      exact .inr ⟨b, off, rfl, ⟨hz, World.block_lt_of_cell? _ _ (hc 0 _ (List.getElem?_eq_getElem hlt))⟩, hc⟩
theorem RowM.old {α : Type} {w : World} {Z : Nat → Prop} {k : Nat} {E E' : List Value → α → Prop} {v : Value} {xs : List α} (hk : 0 < k) (h : RowM w Z k E v xs) (hE : ∀ cs x, x ∈ xs → E cs x → E' cs x) : RowM w (fun b => Z b ∧ b < w.heap.size) k E' v xs := by
  obtain ⟨ts, hr, hl, hn, he⟩ := h
  exact ⟨ts, row_oldZ hk hr, hl, hn, fun i t x ht hx => hE _ _ (List.mem_of_getElem? hx) (he i t x ht hx)⟩
theorem ByE.old {w : World} {Z : Nat → Prop} {v : Value} {b : List Int} (h : ByE w Z v b) : ByE w (fun b => Z b ∧ b < w.heap.size) v b := ⟨row_oldZ (by decide) h.1, h.2⟩
theorem EntE.old {w : World} {Z : Nat → Prop} {cs : List Value} {x : CE} (h : EntE w Z cs x) : EntE w (fun b => Z b ∧ b < w.heap.size) cs x := by
  obtain ⟨bv, e, h1, h2⟩ := h
  exact ⟨bv, e, h1.old, h2⟩
theorem ValE.old' {w : World} {Z : Nat → Prop} {R R' : List Value → CM → Prop} {cs : List Value} {x : CV CM} (h : ValE w Z R cs x) (hR : ∀ cs m, R cs m → R' cs m) : ValE w (fun b => Z b ∧ b < w.heap.size) R' cs x := by
  obtain ⟨bv, mv, e, h1, h2, h3⟩ := h
  exact ⟨bv, mv, e, h1.old, h2.old (by decide) (fun cs m _ => hR cs m), h3⟩
theorem FldE.old' {w : World} {Z : Nat → Prop} {R R' : List Value → CM → Prop} {cs : List Value} {x : CF CM} (h : FldE w Z R cs x) (hR : ∀ cs m, R cs m → R' cs m) : FldE w (fun b => Z b ∧ b < w.heap.size) R' cs x := by
  obtain ⟨kv, vv, e, h1, h2, h3⟩ := h
  exact ⟨kv, vv, e, h1.old (by decide) (fun cs v _ hv => hv.old' hR), h2.old (by decide) (fun cs v _ hv => hv.old' hR), h3⟩
theorem MsgE.old {w : World} {Z : Nat → Prop} : ∀ (d : Nat) (cs : List Value) (m : CM), MsgE w Z d cs m → MsgE w (fun b => Z b ∧ b < w.heap.size) d cs m
  | 0, _, _, h => h.elim
  | d + 1, cs, m, ⟨fv, uv, e, h1, h2⟩ => ⟨fv, uv, e, h1.old (by decide) (fun cs x _ hx => hx.old' (MsgE.old d)), h2.old (by decide) (fun cs x _ hx => hx.old)⟩
theorem famM (d : Nat) : Fam 2 (fun w Z => MsgE w Z d) where
  go h g hf hz := MsgE.go g hf hz d _ _ h
  old h := MsgE.old d _ _ h
  one h u hu := by
    cases d with
    | zero => exact h.elim
    | succ d =>
      obtain ⟨fa, fc, ua, uc, rfl, _⟩ := msg_open h
      simp at hu
      rcases hu with rfl | rfl <;> rfl
  len h := by
    cases d with
    | zero => exact h.elim
    | succ d =>
      obtain ⟨fa, fc, ua, uc, rfl, _⟩ := msg_open h
      rfl
theorem famV (d : Nat) : Fam 3 (fun w Z => ValE w Z (MsgE w Z d)) where
  go h g hf hz := h.go g hf hz (fun cs m _ hm => MsgE.go g hf hz d cs m hm)
  old h := h.old' (MsgE.old d)
  one h u hu := by
    obtain ⟨ba, bc, ma, mc, rfl, _⟩ := val_open h
    simp at hu
    rcases hu with rfl | rfl | rfl <;> rfl
  len h := by
    obtain ⟨ba, bc, ma, mc, rfl, _⟩ := val_open h
    rfl
theorem famF (d : Nat) : Fam 3 (fun w Z => FldE w Z (MsgE w Z d)) where
  go h g hf hz := h.go g hf hz (MsgE.go g hf hz d)
  old h := h.old' (MsgE.old d)
  one h u hu := by
    obtain ⟨ba, bc, ma, mc, rfl, _⟩ := fld_open h
    simp at hu
    rcases hu with rfl | rfl | rfl <;> rfl
  len h := by
    obtain ⟨ba, bc, ma, mc, rfl, _⟩ := fld_open h
    rfl
theorem famE : Fam 4 (fun w Z => EntE w Z) where
  go h g hf hz := (h.keep g hf).weak hz
  old h := h.old
  one h u hu := by
    obtain ⟨ba, bc, rfl, _⟩ := ent_open h
    simp at hu
    rcases hu with rfl | rfl | rfl | rfl <;> rfl
  len h := by
    obtain ⟨ba, bc, rfl, _⟩ := ent_open h
    rfl
/-- Old memory from base on, but for v's own block. -/
def Zof (w : World) (base : Nat) (v : Value) (b : Nat) : Prop := base ≤ b ∧ b < w.heap.size ∧ v.ownBlock ≠ some b
/-- A row of one's own, each struct as E says, in other memory. -/
def OwnM {α : Type} (w : World) (base : Nat) (t : TypeId) (k : Nat) (E : World → (Nat → Prop) → List Value → α → Prop) (v : Value) (xs : List α) : Prop :=
  ∃ ts : List (Tup k), w.ownsRow base t k v xs.length (ts.flatMap Subtype.val) ∧ ts.length = xs.length ∧ ∀ (i : Nat) (t : Tup k) (x : α), ts[i]? = some t → xs[i]? = some x → E w (Zof w base v) t.1 x
theorem OwnM.nil {α : Type} (w : World) (base : Nat) (t : TypeId) (k : Nat) (E : World → (Nat → Prop) → List Value → α → Prop) : OwnM w base t k E (.slice none 0 0) [] := ⟨[], World.ownsRow_nil _ _ _ _, rfl, fun i t x ht => by simp at ht⟩
theorem OwnM.shape {α : Type} {w : World} {base : Nat} {t : TypeId} {k : Nat} {E : World → (Nat → Prop) → List Value → α → Prop} {v : Value} {xs : List α} (h : OwnM w base t k E v xs) : ∃ a c, v = .slice a xs.length c := by
  obtain ⟨ts, h1, _⟩ := h
  exact own_shape h1
theorem OwnM.own {α : Type} {w : World} {base : Nat} {t : TypeId} {k : Nat} {E : World → (Nat → Prop) → List Value → α → Prop} {v : Value} {xs : List α} (h : OwnM w base t k E v xs) {b : Nat} (hb : v.ownBlock = some b) : base ≤ b ∧ b < w.heap.size := by
  obtain ⟨ts, h1, _⟩ := h
  have := own_type h1 hb
  exact ⟨this.1, this.2.1⟩
theorem OwnM.kept {α : Type} {w w' : World} {base : Nat} {t : TypeId} {k : Nat} {E : World → (Nat → Prop) → List Value → α → Prop} (F : Fam k E) {v : Value} {xs : List α} (h : OwnM w base t k E v xs) (hb : Below w.heap.size w w') : OwnM w' base t k E v xs := by
  obtain ⟨ts, h1, h2, h3⟩ := h
  exact ⟨ts, own_kept h1 hb, h2, fun i t x ht hx => F.go (h3 i t x ht hx) (keepT hb) (fun _ _ => trivial) (fun b hz => ⟨hz.1, Nat.lt_of_lt_of_le hz.2.1 hb.size, hz.2.2⟩)⟩
theorem OwnM.row {α : Type} {w : World} {base : Nat} {t : TypeId} {k : Nat} {E : World → (Nat → Prop) → List Value → α → Prop} (F : Fam k E) {v : Value} {xs : List α} (h : OwnM w base t k E v xs) (hn : xs.length ≤ 4000000) : RowM w (base ≤ ·) k (E w (base ≤ ·)) v xs := by
  obtain ⟨ts, h1, h2, h3⟩ := h
  exact ⟨ts, own_row h1 (fun b hb => (own_type h1 hb).1), h2, hn, fun i t x ht hx => F.go (h3 i t x ht hx) (Keep.refl (fun _ => True) w) (fun _ _ => trivial) (fun b hz => hz.1)⟩
/-- One struct more. -/
theorem OwnM.push {α : Type} {k : Nat} {E : World → (Nat → Prop) → List Value → α → Prop} (F : Fam k E) (t ts : TypeId) (bytes : Nat) (z : Value) (hts : Tryz.prog.underlying ts = some (.slice t)) (hinfo : (Tryz.prog.info? t).map (fun i => (i.zero, i.size, i.bytes)) = some (some z, k, bytes)) (hzs : z.cells.size = k) (h0 : 0 < k) (hby : bytes ≤ 400)
    {base : Nat} {v : Value} {xs : List α} {w : World} {cs : List Value} {x : α} (h : OwnM w base t k E v xs) (hx : E w (Zof w base v) cs x) (hb : base ≤ w.heap.size) (hn : xs.length ≤ 4000000) :
    ∃ a c w', Hid ((Builtin.append_ #[ts, ts] ts #[v, .slice (some ⟨w.heap.size, 0, none⟩) 1 1]).run Tryz.prog (w.alloc (.cells cs.toArray t)) = .ok (.slice a (xs.length + 1) c) w') ∧ Hid (OwnM w' base t k E (.slice a (xs.length + 1) c) (xs ++ [x])) ∧ Hid (Grow w w' v (.slice a (xs.length + 1) c)) := by
  obtain ⟨us, h1, h2, h3⟩ := h
  obtain ⟨v', w', r1, r2, r3⟩ := append_st t ts k bytes z hts hinfo hzs h0 hby base v xs.length (us.flatMap Subtype.val) w cs.toArray (by simp [F.len hx]) (by simpa using F.one hx) h1 hb hn
  obtain ⟨a, c, rfl⟩ := own_shape r2
  refine ⟨a, c, w', hid r1, hid ⟨us ++ [⟨cs, F.len hx⟩], ?_, by simp [h2], ?_⟩, hid r3⟩
  · rw [List.length_append, List.flatMap_append]
    simpa using r2
  · have hz : ∀ b, Zof w base v b → Zof w' base (.slice a (xs.length + 1) c) b := fun b hzb => by
      refine ⟨hzb.1, Nat.lt_of_lt_of_le hzb.2.1 r3.size, ?_⟩
      intro e
      rcases r3.own with q | q
      · rw [q] at e; exact hzb.2.2 e
      · have := q b e; have := hzb.2.1; omega
    have hk : Keep (fun b => v.ownBlock ≠ some b) w w' := Keep.ofGrow r3 (fun _ hk => hk)
    intro i u y hu hy
    by_cases hi : i < us.length
    · rw [List.getElem?_append_left hi] at hu
      rw [List.getElem?_append_left (by omega)] at hy
      exact F.go (h3 i u y hu hy) hk (fun b hz => hz.2.2) hz
    · have ei : i = us.length := by
        have := (List.getElem?_eq_some_iff.1 hu).1
        simp at this
        omega
      subst ei
      rw [List.getElem?_append_right (Nat.le_refl _), Nat.sub_self] at hu
      rw [h2, List.getElem?_append_right (Nat.le_refl _), Nat.sub_self] at hy
      simp at hu hy
      subst hu hy
      exact F.go hx hk (fun b hz => hz.2.2) hz
theorem OwnM.bel {α : Type} {w w' : World} {base : Nat} {t : TypeId} {k : Nat} {E : World → (Nat → Prop) → List Value → α → Prop} {v v' : Value} {xs : List α} (h : OwnM w base t k E v xs) (g : Grow w w' v v') {B : Nat} (hB : B ≤ base) (hs : B ≤ w.heap.size) : Below B w w' := g.below hs (fun b hb => Nat.le_trans hB (h.own hb).1)
/-- Bytes of one's own. -/
theorem Tryz.infoBy : (Tryz.prog.info? 5).map (fun i => (i.zero, i.size, i.bytes)) = some (some (.int .u8 0), 1, 1) := by kernel_rfl
theorem appendBy {w : World} {Z : Nat → Prop} {a : Option Addr} {c : Nat} {b : List Int} (h : ByE w Z (.slice a b.length c) b) : ∃ a' c' w', (Builtin.append_ #[36, 36] 36 #[.slice none 0 0, .slice a b.length c]).run Tryz.prog w = .ok (.slice a' b.length c') w' ∧ ByE w' (w.heap.size ≤ ·) (.slice a' b.length c') b ∧ Below w.heap.size w w' := by
  obtain ⟨⟨a2, c2, e, hv⟩, hbd, hlen⟩ := h
  cases e
  obtain ⟨i0, hi, hz0, hz1, hz2⟩ := info_parts Tryz.infoBy
  have key : ∀ (ad : Addr), a = some ad → (∀ j u, (b.map (Value.int .u8))[j]? = some u → w.cell? (ad.add j) = some u) → ∃ a' c' w', (Builtin.append_ #[36, 36] 36 #[.slice none 0 0, .slice a b.length c]).run Tryz.prog w = .ok (.slice a' b.length c') w' ∧ ByE w' (w.heap.size ≤ ·) (.slice a' b.length c') b ∧ Below w.heap.size w w' := by
    intro ad e hc
    subst e
    obtain ⟨v', w', r1, r2, r3⟩ := run_append_mine (P := Tryz.prog) w w.heap.size 36 36 5 i0 (.int .u8 0) 1 1 Tryz.underlying36 hi hz0 hz1 hz2 rfl (by decide) (.slice none 0 0) 0 [] (World.ownsRow_nil _ _ _ _) ad b.length c (b.map (Value.int .u8)) (by simp) hc (fun u hu => by
      obtain ⟨y, _, rfl⟩ := List.mem_map.1 hu
      rfl) (by unfold maxLen; omega) (by omega) (Nat.le_refl _)
    rw [Nat.zero_add, List.nil_append] at r2
    obtain ⟨a', c', rfl⟩ := own_shape r2
    exact ⟨a', c', w', r1, ⟨own_row r2 (fun k hk => (own_type r2 hk).1), hbd, hlen⟩, r3.below (Nat.le_refl _) (fun k hk => by simp [Value.ownBlock] at hk)⟩
  rcases hv.cells with ⟨h0, hn⟩ | ⟨b', off, rfl, _, hc⟩
  · have hx : b = [] := List.eq_nil_of_length_eq_zero h0
    subst hx
    cases a with
    | none =>
      have hc0 := hn rfl
      subst hc0
      refine ⟨none, 0, w, ?_, ⟨rowS_nil _ _ _, hbd, hlen⟩, Below.refl _ _⟩
      exact run_append_owned_none (P := Tryz.prog) (w := w) w.heap.size 36 36 5 i0 1 Tryz.underlying36 hi (.slice none 0 0) 0 [] (World.ownsRow_nil _ _ _ _)
    | some ad => exact key ad rfl (fun j u hu => by simp at hu)
  · exact key ⟨b', off, none⟩ rfl (fun j u hu => by rw [Addr.add_lit]; exact hc j u hu)
/-- A struct in new memory. -/
def NewE {α : Type} (E : World → (Nat → Prop) → List Value → α → Prop) (w : World) (x : α) (e : Ending) (w' : World) : Prop := ∃ cs : List Value, e = .returned (.agg cs.toArray) ∧ E w' (w.heap.size ≤ ·) cs x ∧ Below w.heap.size w w'
/-- A list in new memory. -/
def NewL {α : Type} (k : Nat) (E : World → (Nat → Prop) → List Value → α → Prop) (w : World) (xs : List α) (e : Ending) (w' : World) : Prop := ∃ a c, e = .returned (.slice a xs.length c) ∧ RowM w' (w.heap.size ≤ ·) k (E w' (w.heap.size ≤ ·)) (.slice a xs.length c) xs ∧ Below w.heap.size w w'
theorem NewE.mk {α : Type} {E : World → (Nat → Prop) → List Value → α → Prop} {w : World} {x : α} {w' : World} (cs : List Value) (h : E w' (w.heap.size ≤ ·) cs x) (hb : Below w.heap.size w w') : NewE E w x (.returned (.agg cs.toArray)) w' := ⟨cs, rfl, h, hb⟩
theorem NewL.mk {α : Type} {k : Nat} {E : World → (Nat → Prop) → List Value → α → Prop} {w : World} {xs : List α} {w' : World} (a : Option Addr) (c n : Nat) (hn : n = xs.length) (h : RowM w' (w.heap.size ≤ ·) k (E w' (w.heap.size ≤ ·)) (.slice a n c) xs) (hb : Below w.heap.size w w') : NewL k E w xs (.returned (.slice a n c)) w' := by
  subst hn
  exact ⟨a, c, rfl, h, hb⟩
abbrev FmF (d : Nat) : World → (Nat → Prop) → List Value → CF CM → Prop := fun w Z => FldE w Z (MsgE w Z d)
abbrev FmV (d : Nat) : World → (Nat → Prop) → List Value → CV CM → Prop := fun w Z => ValE w Z (MsgE w Z d)
abbrev FmM (d : Nat) : World → (Nat → Prop) → List Value → CM → Prop := fun w Z => MsgE w Z d
abbrev FmE : World → (Nat → Prop) → List Value → CE → Prop := fun w Z => EntE w Z
theorem zof_new {α : Type} {w w1 W : World} {base : Nat} {t : TypeId} {k : Nat} {E : World → (Nat → Prop) → List Value → α → Prop} (F : Fam k E) {v : Value} {xs : List α} (h : OwnM w base t k E v xs) (hW : w.heap.size ≤ W.heap.size) (hb : base ≤ w.heap.size) {cs : List Value} {x : α} (hx : E w1 (W.heap.size ≤ ·) cs x) : E w1 (Zof w1 base v) cs x :=
  F.go (F.old hx) (Keep.refl (fun _ => True) w1) (fun _ _ => trivial) (fun b hz => ⟨by have := hz.1; omega, hz.2, fun e => by have := (h.own e).2; have := hz.1; omega⟩)
theorem newBytesT (w : World) (Z : Nat → Prop) (a : Option Addr) (c : Nat) (b : List Int) (h : ByE w Z (.slice a b.length c) b) : Calls Tryz.prog 106 #[.slice a b.length c] w fun e w' => ∃ a' c', e = .returned (.slice a' b.length c') ∧ ByE w' (w.heap.size ≤ ·) (.slice a' b.length c') b ∧ Below w.heap.size w w' := by
  obtain ⟨a', c', w', hr, h1, h2⟩ := appendBy h
  have HR := hid hr
  have H1 := hid h1
  have H2 := hid h2
  clear h hr h1 h2
  go_enter Tryz.func106, Tryz.ntmps106
  go_wp2_with (first | (at_builtin; refine wpList_append_ran rfl _ _ 36 36 rfl rfl _ _ (.slice a' b.length c') w' rfl rfl HR.out ?_))
  go_ret
  exact ⟨a', c', rfl, H1.out, H2.out⟩
theorem msg_openD {w : World} {Z : Nat → Prop} {d : Nat} {cs : List Value} {m : CM} (h : MsgE w Z d cs m) : ∃ fa fc ua uc, cs = [.slice fa m.fs.length fc, .slice ua m.us.length uc] ∧ True := by
  cases d with
  | zero => exact h.elim
  | succ d =>
    obtain ⟨fa, fc, ua, uc, e, _⟩ := msg_open h
    exact ⟨fa, fc, ua, uc, e, trivial⟩
theorem Tryz.infoF : (Tryz.prog.info? 33).map (fun i => (i.zero, i.size, i.bytes)) = some (some (.agg #[.int .i64 0, .slice none 0 0, .slice none 0 0]), 3, 56) := by kernel_rfl
theorem turnedF (w : World) (Z : Nat → Prop) (d d2 : Nat) (xs : List (CF CM)) (a : Option Addr) (c : Nat) (h : FlsR w Z d (.slice a xs.length c) xs) (fn : FuncId) (caps : Array Value) (hcf : ∀ (args : Array Value) (W : World), (callFunc fn args).run Tryz.prog W = .ok (.enter fn args) W) (g : CF CM → CF CM)
    (hf : ∀ (W : World), Below w.heap.size w W → ∀ (cs : List Value) (x : CF CM), x ∈ xs → FmF d W Z cs x → Calls Tryz.prog fn (#[.agg cs.toArray] ++ caps) W (NewE (FmF d2) W (g x))) : Calls Tryz.prog 109 #[.slice a xs.length c, .func (.func fn) #[] caps] w (NewL 3 (FmF d2) w (xs.map g)) := by
  obtain ⟨_, _, e1, l1⟩ := RowM.sl h
  clear e1
  have m1 : (xs.length : Int) ≤ 9223372036854775807 := by omega
  have H1 := hid h
  have HF := hid hf
  clear h hf
  go_enter Tryz.func109, Tryz.ntmps109
  go_wp2
  go_loopw [5, 10] (fun s5 s10 wr => ∃ (j : Nat) (oa : Option Addr) (oc : Nat), s5 = .slice oa j oc ∧ s10 = .int .i64 j ∧ j ≤ xs.length ∧ Hid (OwnM wr w.heap.size 33 3 (FmF d2) (.slice oa j oc) ((xs.take j).map g)) ∧ Hid (Below w.heap.size w wr)) (fun s5 s10 wr => xs.length - numAt wr s10)
  case atStart => exact ⟨0, none, 0, rfl, rfl, by omega, hid (OwnM.nil _ _ _ _ _), hid (Below.refl _ _)⟩
  case round =>
    obtain ⟨j, oa, oc, rfl, rfl, hj, HO, hb⟩ := hrel
    by_cases hlt : j < xs.length
    · have k2 : (j : Int) < (xs.length : Int) := by omega
      obtain ⟨b1, o1, ka1, kc1, va1, vc1, rfl, -, hb1, c0, c1, c2, he⟩ := fls_at (H1.out.kept hb.out) hlt
      have HE := hid he
      have HTK : Hid ((xs.take (j + 1)).map g = (xs.take j).map g ++ [g xs[j]]) := hid (by rw [List.take_succ_eq_append_getElem hlt, List.map_append]; rfl)
      have HLN : Hid (((xs.take j).map g).length = j) := hid (by simp; omega)
      have HME := hid (List.getElem_mem hlt)
      clear he
      generalize xs[j] = x at *
      go_wp2_with fail
      refine (HF.out _ (by have := hb.out; exact blBy) [.int .i64 x.num, .slice ka1 x.ks.length kc1, .slice va1 x.vs.length vc1] x HME.out (Fam.go (famF d) HE.out (keepT (below_alloc _)) (fun _ _ => trivial) (fun _ h => h))).mono ?_
      rintro e w1 ⟨ds, rfl, hn, hbx⟩
      have HZ := hid (zof_new (famF d2) HO.out (by simp) hb.out.size hn)
      have HO1 := hid (HO.out.kept (famF d2) (below_trans (below_alloc _) hbx))
      have hb1 : Hid (Below w.heap.size w w1) := hid (bl_then (by have := hb.out; exact blBy) hbx)
      clear hn hbx HO HE c0 c1 c2
      obtain ⟨ka2, kc2, va2, vc2, rfl, -⟩ := fld_open HZ.out
      generalize g x = y at *
      obtain ⟨la, lc, x1, HRUN, HO2, HG⟩ := OwnM.push (famF d2) 33 26 56 (.agg #[.int .i64 0, .slice none 0 0, .slice none 0 0]) Tryz.underlying26 Tryz.infoF rfl (by decide) (by decide) HO1.out HZ.out hb1.out.size (by rw [HLN.out]; omega)
      rw [HLN.out] at HRUN HO2 HG
      have hb2 : Hid (Below w.heap.size w x1) := hid (hb1.out.trans (HO1.out.bel HG.out (Nat.le_refl _) hb1.out.size))
      go_wp2_with (first | (at_builtin; refine wpList_append_ran rfl _ _ 26 26 rfl rfl _ _ (.slice la (j + 1) lc) x1 rfl rfl HRUN.out ?_))
      exact ⟨⟨j + 1, la, lc, rfl, by simp, by omega, hid (by rw [HTK.out]; exact HO2.out), hb2⟩, by simp [numAt]; omega⟩
    · have k2 : ¬ (j : Int) < (xs.length : Int) := by omega
      have ej : xs.length = j := by omega
      have e1 : xs.take j = xs := List.take_of_length_le (by omega)
      rw [e1] at HO
      have HRW := hid (HO.out.row (famF d2) (by simp; omega))
      have HEJ := hid ej
      clear ej e1
      go_wp2
      go_ret
      exact NewL.mk oa oc j (by simp; exact HEJ.out.symm) HRW.out hb.out
theorem Tryz.infoV : (Tryz.prog.info? 39).map (fun i => (i.zero, i.size, i.bytes)) = some (some (.agg #[.int .u64 0, .slice none 0 0, .slice none 0 0]), 3, 56) := by kernel_rfl
theorem turnedV (w : World) (Z : Nat → Prop) (d d2 : Nat) (xs : List (CV CM)) (a : Option Addr) (c : Nat) (h : VlsR w Z d (.slice a xs.length c) xs) (fn : FuncId) (caps : Array Value) (hcf : ∀ (args : Array Value) (W : World), (callFunc fn args).run Tryz.prog W = .ok (.enter fn args) W) (g : CV CM → CV CM)
    (hf : ∀ (W : World), Below w.heap.size w W → ∀ (cs : List Value) (x : CV CM), x ∈ xs → FmV d W Z cs x → Calls Tryz.prog fn (#[.agg cs.toArray] ++ caps) W (NewE (FmV d2) W (g x))) : Calls Tryz.prog 108 #[.slice a xs.length c, .func (.func fn) #[] caps] w (NewL 3 (FmV d2) w (xs.map g)) := by
  obtain ⟨_, _, e1, l1⟩ := RowM.sl h
  clear e1
  have m1 : (xs.length : Int) ≤ 9223372036854775807 := by omega
  have H1 := hid h
  have HF := hid hf
  clear h hf
  go_enter Tryz.func108, Tryz.ntmps108
  go_wp2
  go_loopw [5, 10] (fun s5 s10 wr => ∃ (j : Nat) (oa : Option Addr) (oc : Nat), s5 = .slice oa j oc ∧ s10 = .int .i64 j ∧ j ≤ xs.length ∧ Hid (OwnM wr w.heap.size 39 3 (FmV d2) (.slice oa j oc) ((xs.take j).map g)) ∧ Hid (Below w.heap.size w wr)) (fun s5 s10 wr => xs.length - numAt wr s10)
  case atStart => exact ⟨0, none, 0, rfl, rfl, by omega, hid (OwnM.nil _ _ _ _ _), hid (Below.refl _ _)⟩
  case round =>
    obtain ⟨j, oa, oc, rfl, rfl, hj, HO, hb⟩ := hrel
    by_cases hlt : j < xs.length
    · have k2 : (j : Int) < (xs.length : Int) := by omega
      obtain ⟨b1, o1, ka1, kc1, va1, vc1, rfl, -, hb1, c0, c1, c2, he⟩ := vls_at (H1.out.kept hb.out) hlt
      have HE := hid he
      have HTK : Hid ((xs.take (j + 1)).map g = (xs.take j).map g ++ [g xs[j]]) := hid (by rw [List.take_succ_eq_append_getElem hlt, List.map_append]; rfl)
      have HLN : Hid (((xs.take j).map g).length = j) := hid (by simp; omega)
      have HME := hid (List.getElem_mem hlt)
      clear he
      generalize xs[j] = x at *
      go_wp2_with fail
      refine (HF.out _ (by have := hb.out; exact blBy) [.int .u64 x.n, .slice ka1 x.b.length kc1, .slice va1 x.ms.length vc1] x HME.out (Fam.go (famV d) HE.out (keepT (below_alloc _)) (fun _ _ => trivial) (fun _ h => h))).mono ?_
      rintro e w1 ⟨ds, rfl, hn, hbx⟩
      have HZ := hid (zof_new (famV d2) HO.out (by simp) hb.out.size hn)
      have HO1 := hid (HO.out.kept (famV d2) (below_trans (below_alloc _) hbx))
      have hb1 : Hid (Below w.heap.size w w1) := hid (bl_then (by have := hb.out; exact blBy) hbx)
      clear hn hbx HO HE c0 c1 c2
      obtain ⟨ka2, kc2, va2, vc2, rfl, -⟩ := val_open HZ.out
      generalize g x = y at *
      obtain ⟨la, lc, x1, HRUN, HO2, HG⟩ := OwnM.push (famV d2) 39 31 56 (.agg #[.int .u64 0, .slice none 0 0, .slice none 0 0]) Tryz.underlying31 Tryz.infoV rfl (by decide) (by decide) HO1.out HZ.out hb1.out.size (by rw [HLN.out]; omega)
      rw [HLN.out] at HRUN HO2 HG
      have hb2 : Hid (Below w.heap.size w x1) := hid (hb1.out.trans (HO1.out.bel HG.out (Nat.le_refl _) hb1.out.size))
      go_wp2_with (first | (at_builtin; refine wpList_append_ran rfl _ _ 31 31 rfl rfl _ _ (.slice la (j + 1) lc) x1 rfl rfl HRUN.out ?_))
      exact ⟨⟨j + 1, la, lc, rfl, by simp, by omega, hid (by rw [HTK.out]; exact HO2.out), hb2⟩, by simp [numAt]; omega⟩
    · have k2 : ¬ (j : Int) < (xs.length : Int) := by omega
      have ej : xs.length = j := by omega
      have e1 : xs.take j = xs := List.take_of_length_le (by omega)
      rw [e1] at HO
      have HRW := hid (HO.out.row (famV d2) (by simp; omega))
      have HEJ := hid ej
      clear ej e1
      go_wp2
      go_ret
      exact NewL.mk oa oc j (by simp; exact HEJ.out.symm) HRW.out hb.out
theorem Tryz.infoM : (Tryz.prog.info? 29).map (fun i => (i.zero, i.size, i.bytes)) = some (some (.agg #[.slice none 0 0, .slice none 0 0]), 2, 48) := by kernel_rfl
theorem turnedM (w : World) (Z : Nat → Prop) (d d2 : Nat) (xs : List (CM)) (a : Option Addr) (c : Nat) (h : MgsR w Z d (.slice a xs.length c) xs) (fn : FuncId) (caps : Array Value) (hcf : ∀ (args : Array Value) (W : World), (callFunc fn args).run Tryz.prog W = .ok (.enter fn args) W) (g : CM → CM)
    (hf : ∀ (W : World), Below w.heap.size w W → ∀ (cs : List Value) (x : CM), x ∈ xs → FmM d W Z cs x → Calls Tryz.prog fn (#[.agg cs.toArray] ++ caps) W (NewE (FmM d2) W (g x))) : Calls Tryz.prog 107 #[.slice a xs.length c, .func (.func fn) #[] caps] w (NewL 2 (FmM d2) w (xs.map g)) := by
  obtain ⟨_, _, e1, l1⟩ := RowM.sl h
  clear e1
  have m1 : (xs.length : Int) ≤ 9223372036854775807 := by omega
  have H1 := hid h
  have HF := hid hf
  clear h hf
  go_enter Tryz.func107, Tryz.ntmps107
  go_wp2
  go_loopw [5, 10] (fun s5 s10 wr => ∃ (j : Nat) (oa : Option Addr) (oc : Nat), s5 = .slice oa j oc ∧ s10 = .int .i64 j ∧ j ≤ xs.length ∧ Hid (OwnM wr w.heap.size 29 2 (FmM d2) (.slice oa j oc) ((xs.take j).map g)) ∧ Hid (Below w.heap.size w wr)) (fun s5 s10 wr => xs.length - numAt wr s10)
  case atStart => exact ⟨0, none, 0, rfl, rfl, by omega, hid (OwnM.nil _ _ _ _ _), hid (Below.refl _ _)⟩
  case round =>
    obtain ⟨j, oa, oc, rfl, rfl, hj, HO, hb⟩ := hrel
    by_cases hlt : j < xs.length
    · have k2 : (j : Int) < (xs.length : Int) := by omega
      obtain ⟨b1, o1, ka1, kc1, va1, vc1, rfl, -, hb1, c0, c1, he⟩ := mgs_at' (H1.out.kept hb.out) hlt
      have HE := hid he
      have HTK : Hid ((xs.take (j + 1)).map g = (xs.take j).map g ++ [g xs[j]]) := hid (by rw [List.take_succ_eq_append_getElem hlt, List.map_append]; rfl)
      have HLN : Hid (((xs.take j).map g).length = j) := hid (by simp; omega)
      have HME := hid (List.getElem_mem hlt)
      clear he
      generalize xs[j] = x at *
      go_wp2_with fail
      refine (HF.out _ (by have := hb.out; exact blBy) [.slice ka1 x.fs.length kc1, .slice va1 x.us.length vc1] x HME.out (Fam.go (famM d) HE.out (keepT (below_alloc _)) (fun _ _ => trivial) (fun _ h => h))).mono ?_
      rintro e w1 ⟨ds, rfl, hn, hbx⟩
      have HZ := hid (zof_new (famM d2) HO.out (by simp) hb.out.size hn)
      have HO1 := hid (HO.out.kept (famM d2) (below_trans (below_alloc _) hbx))
      have hb1 : Hid (Below w.heap.size w w1) := hid (bl_then (by have := hb.out; exact blBy) hbx)
      clear hn hbx HO HE c0 c1
      obtain ⟨ka2, kc2, va2, vc2, rfl, -⟩ := msg_openD HZ.out
      generalize g x = y at *
      obtain ⟨la, lc, x1, HRUN, HO2, HG⟩ := OwnM.push (famM d2) 29 37 48 (.agg #[.slice none 0 0, .slice none 0 0]) Tryz.underlying37 Tryz.infoM rfl (by decide) (by decide) HO1.out HZ.out hb1.out.size (by rw [HLN.out]; omega)
      rw [HLN.out] at HRUN HO2 HG
      have hb2 : Hid (Below w.heap.size w x1) := hid (hb1.out.trans (HO1.out.bel HG.out (Nat.le_refl _) hb1.out.size))
      go_wp2_with (first | (at_builtin; refine wpList_append_ran rfl _ _ 37 37 rfl rfl _ _ (.slice la (j + 1) lc) x1 rfl rfl HRUN.out ?_))
      exact ⟨⟨j + 1, la, lc, rfl, by simp, by omega, hid (by rw [HTK.out]; exact HO2.out), hb2⟩, by simp [numAt]; omega⟩
    · have k2 : ¬ (j : Int) < (xs.length : Int) := by omega
      have ej : xs.length = j := by omega
      have e1 : xs.take j = xs := List.take_of_length_le (by omega)
      rw [e1] at HO
      have HRW := hid (HO.out.row (famM d2) (by simp; omega))
      have HEJ := hid ej
      clear ej e1
      go_wp2
      go_ret
      exact NewL.mk oa oc j (by simp; exact HEJ.out.symm) HRW.out hb.out
theorem Tryz.infoE : (Tryz.prog.info? 102).map (fun i => (i.zero, i.size, i.bytes)) = some (some (.agg #[.int .i64 0, .int .i64 0, .int .u64 0, .slice none 0 0]), 4, 48) := by kernel_rfl
theorem turnedE (w : World) (Z : Nat → Prop) (xs : List (CE)) (a : Option Addr) (c : Nat) (h : EnsR w Z (.slice a xs.length c) xs) (fn : FuncId) (caps : Array Value) (hcf : ∀ (args : Array Value) (W : World), (callFunc fn args).run Tryz.prog W = .ok (.enter fn args) W) (g : CE → CE)
    (hf : ∀ (W : World), Below w.heap.size w W → ∀ (cs : List Value) (x : CE), x ∈ xs → FmE W Z cs x → Calls Tryz.prog fn (#[.agg cs.toArray] ++ caps) W (NewE (FmE) W (g x))) : Calls Tryz.prog 110 #[.slice a xs.length c, .func (.func fn) #[] caps] w (NewL 4 (FmE) w (xs.map g)) := by
  obtain ⟨_, _, e1, l1⟩ := RowM.sl h
  clear e1
  have m1 : (xs.length : Int) ≤ 9223372036854775807 := by omega
  have H1 := hid h
  have HF := hid hf
  clear h hf
  go_enter Tryz.func110, Tryz.ntmps110
  go_wp2
  go_loopw [5, 10] (fun s5 s10 wr => ∃ (j : Nat) (oa : Option Addr) (oc : Nat), s5 = .slice oa j oc ∧ s10 = .int .i64 j ∧ j ≤ xs.length ∧ Hid (OwnM wr w.heap.size 102 4 (FmE) (.slice oa j oc) ((xs.take j).map g)) ∧ Hid (Below w.heap.size w wr)) (fun s5 s10 wr => xs.length - numAt wr s10)
  case atStart => exact ⟨0, none, 0, rfl, rfl, by omega, hid (OwnM.nil _ _ _ _ _), hid (Below.refl _ _)⟩
  case round =>
    obtain ⟨j, oa, oc, rfl, rfl, hj, HO, hb⟩ := hrel
    by_cases hlt : j < xs.length
    · have k2 : (j : Int) < (xs.length : Int) := by omega
      obtain ⟨b1, o1, ka1, kc1, rfl, -, hb1, c0, c1, c2, c3, he⟩ := ens_at (H1.out.kept hb.out) hlt
      have HE := hid he
      have HTK : Hid ((xs.take (j + 1)).map g = (xs.take j).map g ++ [g xs[j]]) := hid (by rw [List.take_succ_eq_append_getElem hlt, List.map_append]; rfl)
      have HLN : Hid (((xs.take j).map g).length = j) := hid (by simp; omega)
      have HME := hid (List.getElem_mem hlt)
      clear he
      generalize xs[j] = x at *
      go_wp2_with fail
      refine (HF.out _ (by have := hb.out; exact blBy) [.int .i64 x.num, .int .i64 x.kind, .int .u64 x.n, .slice ka1 x.b.length kc1] x HME.out (Fam.go (famE) HE.out (keepT (below_alloc _)) (fun _ _ => trivial) (fun _ h => h))).mono ?_
      rintro e w1 ⟨ds, rfl, hn, hbx⟩
      have HZ := hid (zof_new (famE) HO.out (by simp) hb.out.size hn)
      have HO1 := hid (HO.out.kept (famE) (below_trans (below_alloc _) hbx))
      have hb1 : Hid (Below w.heap.size w w1) := hid (bl_then (by have := hb.out; exact blBy) hbx)
      clear hn hbx HO HE c0 c1 c2 c3
      obtain ⟨ka2, kc2, rfl, -⟩ := ent_open HZ.out
      generalize g x = y at *
      obtain ⟨la, lc, x1, HRUN, HO2, HG⟩ := OwnM.push (famE) 102 27 48 (.agg #[.int .i64 0, .int .i64 0, .int .u64 0, .slice none 0 0]) Tryz.underlying27 Tryz.infoE rfl (by decide) (by decide) HO1.out HZ.out hb1.out.size (by rw [HLN.out]; omega)
      rw [HLN.out] at HRUN HO2 HG
      have hb2 : Hid (Below w.heap.size w x1) := hid (hb1.out.trans (HO1.out.bel HG.out (Nat.le_refl _) hb1.out.size))
      go_wp2_with (first | (at_builtin; refine wpList_append_ran rfl _ _ 27 27 rfl rfl _ _ (.slice la (j + 1) lc) x1 rfl rfl HRUN.out ?_))
      exact ⟨⟨j + 1, la, lc, rfl, by simp, by omega, hid (by rw [HTK.out]; exact HO2.out), hb2⟩, by simp [numAt]; omega⟩
    · have k2 : ¬ (j : Int) < (xs.length : Int) := by omega
      have ej : xs.length = j := by omega
      have e1 : xs.take j = xs := List.take_of_length_le (by omega)
      rw [e1] at HO
      have HRW := hid (HO.out.row (famE) (by simp; omega))
      have HEJ := hid ej
      clear ej e1
      go_wp2
      go_ret
      exact NewL.mk oa oc j (by simp; exact HEJ.out.symm) HRW.out hb.out
theorem cloneT (ns : List (List Int)) (w : World) (a : Option Addr) (c : Nat) (h : RowS w AnyZ 1 (.slice a ns.length c) ns.length (ns.flatMap cN)) (hl : ns.length ≤ 200000) : Calls Tryz.prog 221 #[.slice a ns.length c] w fun e w' => (∃ va vc, e = .returned (.slice va ns.length vc) ∧ Hid (w'.ownsRow w.heap.size 9 1 (.slice va ns.length vc) ns.length (ns.flatMap cN))) ∧ Below w.heap.size w w' := by
  have fin : ∀ (v' : Value) (w' : World), w'.ownsRow w.heap.size 9 1 v' ns.length (ns.flatMap cN) → Below w.heap.size w w' → (∃ va vc, Ending.returned v' = .returned (.slice va ns.length vc) ∧ Hid (w'.ownsRow w.heap.size 9 1 (.slice va ns.length vc) ns.length (ns.flatMap cN))) ∧ Below w.heap.size w w' := fun v' w' h1 h2 => by
    obtain ⟨va, vc, rfl⟩ := own_shape h1
    exact ⟨⟨va, vc, rfl, hid h1⟩, h2⟩
  cases a with
  | none =>
    have hz : ns = [] := by
      obtain ⟨_, _, e, hv⟩ := h
      cases e
      rcases hv.cells with ⟨h0, _⟩ | ⟨b, o, e, _⟩
      · exact List.eq_nil_of_length_eq_zero h0
      · cases e
    subst hz
    refine (Tryz.slices_Clone_string_nil 0 c w).mono ?_
    rintro e w' ⟨rfl, rfl⟩
    exact fin _ _ (World.ownsRow_nil _ _ _ _) (Below.refl _ _)
  | some x =>
    by_cases hz : ns.length = 0
    · have e : ns = [] := List.eq_nil_of_length_eq_zero hz
      subst e
      refine (Tryz.slices_Clone_string_zero x c w).mono ?_
      rintro e w' ⟨v', rfl, h1, _, h2⟩
      exact fin _ _ h1 h2
    · have hx : ∃ b o, x = ⟨b, o, none⟩ := by
        obtain ⟨b, o, e, _⟩ := rowAt (g := cN) (fun _ => rfl) h (i := 0) (x := ns[0]) (by simp)
        cases e
        exact ⟨b, o, rfl⟩
      obtain ⟨b, o, rfl⟩ := hx
      have e1 : ns.flatMap cN = (ns.map strOfNums).map Value.string := by
        clear fin h hl hz
        induction ns with
        | nil => rfl
        | cons y r ih => rw [List.flatMap_cons, ih]; rfl
      refine (Tryz.slices_Clone_string b o ns.length c (ns.map strOfNums) w (by simp) (by omega) (fun j hj => ?_)).mono ?_
      · have hj' : j < ns.length := by simpa using hj
        obtain ⟨b', o', e, hc⟩ := rowAt (g := cN) (fun _ => rfl) h (i := j) (x := ns[j]) (by simp [hj'])
        cases e
        have := hc 0 _ rfl
        simp only [Nat.mul_one, Nat.add_zero] at this
        rw [this]
        simp [hj']
      · rintro e w' ⟨v', rfl, h1, _, h2⟩
        rw [List.take_of_length_le (by simp), ← e1] at h1
        exact fin _ _ h1 h2
def nmsB (t : TT) : Bool := (t.os ++ t.fs.map FT.name).all nmB && dfB ((t.os ++ t.fs.map FT.name).map litS)
theorem hasGoodNamesT (w : World) (t : TT) (fa oa sa ra : Option Addr) (fc oc sc rc : Nat) (hf : RowS w AnyZ 7 (.slice fa t.fs.length fc) t.fs.length (t.fs.flatMap cFT)) (ho : RowS w AnyZ 1 (.slice oa t.os.length oc) t.os.length (t.os.flatMap cN)) (hlf : t.fs.length ≤ 128) (hlo : t.os.length ≤ 200000) (htf : ∀ x ∈ t.fs, TxA x.name) (hto : ∀ x ∈ t.os, TxA x) : Calls Tryz.prog 198 #[.agg #[.string (strOfNums t.name), .bool t.enum, .slice fa t.fs.length fc, .slice oa t.os.length oc, .slice sa t.ss.length sc, .slice ra t.rs.length rc]] w fun e w' => e = .returned (.bool (nmsB t)) ∧ Below w.heap.size w w' := by
  have HF := hid hf
  have HO := hid ho
  have HTA : Hid (∀ x ∈ t.os ++ t.fs.map FT.name, TxA x) := hid (fun x hx => by
    rcases List.mem_append.1 hx with q | q
    · exact hto x q
    · obtain ⟨y, hy, rfl⟩ := List.mem_map.1 q
      exact htf y hy)
  have h1 : (t.fs.length : Int) ≤ 9223372036854775807 := by omega
  clear hf ho htf hto
  go_enter Tryz.func198, Tryz.ntmps198
  go_wp2_with fail
  refine (cloneT t.os _ oa oc (HO.out.kept (by exact blBy)) hlo).mono ?_
  rintro e w1 ⟨⟨va, vc, rfl, HV⟩, hb1⟩
  have BX : Blk w1 w.heap.size 75 #[.string (strOfNums t.name), .bool t.enum, .slice fa t.fs.length fc, .slice oa t.os.length oc, .slice sa t.ss.length sc, .slice ra t.rs.length rc] := (Blk.newAt rfl).kept hb1
  have HB1 := hid (bl_then (below_alloc _) hb1)
  have hs1 := hb1.size
  clear hb1
  have HV0 := hid (own_mono HV.out (show w.heap.size ≤ (w.alloc (.cells #[.string (strOfNums t.name), .bool t.enum, .slice fa t.fs.length fc, .slice oa t.os.length oc, .slice sa t.ss.length sc, .slice ra t.rs.length rc] 75)).heap.size by simp))
  clear HV
  have xb := BX.cellF
  have zb := BX.lt
  go_wp2
  clear xb zb
  go_loopw [3, 12] (fun v r wr => ∃ (j : Nat) (va : Option Addr) (vc : Nat), v = .slice va (t.os.length + j) vc ∧ r = .int .i64 j ∧ j ≤ t.fs.length ∧ Hid (wr.ownsRow w.heap.size 9 1 (.slice va (t.os.length + j) vc) (t.os ++ (t.fs.take j).map FT.name).length ((t.os ++ (t.fs.take j).map FT.name).flatMap cN)) ∧ Hid (Below w.heap.size w wr)) (fun _ r wr => t.fs.length - numAt wr r)
  case atStart => exact ⟨0, va, vc, rfl, rfl, by omega, hid (by have := HV0.out; simpa using this), HB1⟩
  case round =>
    obtain ⟨j, va', vc', rfl, rfl, hj, HV, hb⟩ := hrel
    by_cases hlt : j < t.fs.length
    · have h4 : (j : Int) < (t.fs.length : Int) := by omega
      obtain ⟨b', o', rfl, hbl', c0, c1, c2, c3, c4, c5, c6⟩ := row7 (HF.out.kept hb.out) hlt
      have HTK : Hid (t.fs.take (j + 1) = t.fs.take j ++ [t.fs[j]]) := hid (List.take_succ_eq_append_getElem hlt)
      have HLN : Hid ((t.os ++ (t.fs.take j).map FT.name).length = t.os.length + j) := hid (by simp; omega)
      generalize t.fs[j] = f at *
      go_upto_region 5 with fail
      have BS : Blk (wr.alloc (.cells #[.string (strOfNums f.name), .int .i64 f.num, .int .i64 f.kind, .int .i64 f.ref, .int .i64 f.lab, .int .i64 f.one, .int .i64 f.key] 59)) wr.heap.size 59 #[.string (strOfNums f.name), .int .i64 f.num, .int .i64 f.kind, .int .i64 f.ref, .int .i64 f.lab, .int .i64 f.one, .int .i64 f.key] := Blk.newAt rfl
      have HV1 := hid (own_kept HV.out (below_alloc (.cells #[.string (strOfNums f.name), .int .i64 f.num, .int .i64 f.kind, .int .i64 f.ref, .int .i64 f.lab, .int .i64 f.one, .int .i64 f.key] 59)))
      have hb1 : Hid (Below w.heap.size w (wr.alloc (.cells #[.string (strOfNums f.name), .int .i64 f.num, .int .i64 f.kind, .int .i64 f.ref, .int .i64 f.lab, .int .i64 f.one, .int .i64 f.key] 59))) := hid (by have := hb.out; exact blBy)
      clear c0 c1 c2 c3 c4 c5 c6
      generalize (wr.alloc (.cells #[.string (strOfNums f.name), .int .i64 f.num, .int .i64 f.kind, .int .i64 f.ref, .int .i64 f.lab, .int .i64 f.one, .int .i64 f.key] 59)) = w2 at *
      have xs := BS.cellF
      have zs := BS.lt
      obtain ⟨la, lc, x1, HRUN, HV2, HG1⟩ := appendSt w.heap.size (.slice va' (t.os.length + j) vc') (t.os ++ (t.fs.take j).map FT.name) f.name w2 HV1.out hb1.out.size (by have := HLN.out; omega)
      rw [HLN.out] at HRUN HV2 HG1
      have hb2 : Hid (Below w.heap.size w x1) := hid (hb1.out.trans (grow_bel HG1.out HV1.out (Nat.le_refl _) hb1.out.size))
      go_wp2_with (first | (at_builtin; refine wpList_append_ran rfl _ _ 52 52 rfl rfl _ _ (.slice la (t.os.length + j + 1) lc) x1 rfl rfl HRUN.out ?_))
      exact ⟨⟨j + 1, la, lc, rfl, by simp, by omega, hid (by rw [HTK.out, List.map_append, ← List.append_assoc]; exact HV2.out), hb2⟩, by simp [numAt]; omega⟩
    · have h4 : ¬ (j : Int) < (t.fs.length : Int) := by omega
      have e1 : t.fs.take j = t.fs := List.take_of_length_le (by omega)
      have ej : j = t.fs.length := by omega
      subst ej
      rw [e1] at HV
      have HX : Hid (nmsB t = ((t.os ++ t.fs.map FT.name).all nmB && dfB ((t.os ++ t.fs.map FT.name).map litS))) := hid rfl
      have HLM : Hid ((t.os ++ t.fs.map FT.name).length = t.os.length + t.fs.length) := hid (by simp)
      generalize t.os ++ t.fs.map FT.name = ns at *
      have HRV : Hid (RowS wr AnyZ 1 (.slice va' (t.os.length + t.fs.length) vc') ns.length (ns.flatMap cN)) := hid (own_row HV.out (fun _ _ => trivial))
      go_wp2_with fail
      refine (areNamesT ns _ va' (t.os.length + t.fs.length) vc' HRV.out HTA.out).mono ?_
      rintro e w1 ⟨rfl, rfl⟩
      cases hq : ns.all nmB with
      | false =>
        go_wp2
        go_ret
        exact ⟨ret_bool (by rw [HX.out, hq]; rfl), hb.out⟩
      | true =>
        go_wp2_with fail
        have HA := areDiffS ns wr va' vc' (by rw [HLM.out]; have := HRV.out; rw [HLM.out] at this; exact this) HTA.out
        rw [HLM.out] at HA
        refine HA.mono ?_
        rintro e w2 ⟨rfl, hb2⟩
        have HB2 := hid (bl_then hb.out hb2)
        clear hb2
        go_wp2
        go_ret
        exact ⟨ret_bool (by rw [HX.out, hq]; rfl), HB2.out⟩
set_option maxHeartbeats 600000
/-- Numbers rise. -/
def Rise (fs : List FT) : Prop := ∀ i j, i < j → ∀ (hj : j < fs.length) (hi : i < fs.length), fs[i].num < fs[j].num
/-- While it halves. -/
structure Halv (fs : List FT) (n : Int) (k first left : Nat) : Prop where
  le : left ≤ 2 ^ k
  one : 1 ≤ left
  fit : first + left ≤ fs.length
  up : ∀ i, first + left ≤ i → ∀ (h : i < fs.length), n < fs[i].num
  lo : first = 0 ∨ ∀ (h : first < fs.length), fs[first].num ≤ n
theorem Halv.yes {fs : List FT} {n : Int} {k first left : Nat} (h : Halv fs n (k + 1) first left) (hq : ∀ (q : first + left / 2 < fs.length), fs[first + left / 2].num ≤ n) : Halv fs n k (first + left / 2) (left - left / 2) := by
  have h1 := h.le
  have h2 := h.one
  have h3 := h.fit
  rw [Nat.pow_succ] at h1
  exact ⟨by omega, by omega, by omega, fun i hi hh => h.up i (by omega) hh, .inr hq⟩
theorem Halv.no {fs : List FT} {n : Int} {k first left : Nat} (h : Halv fs n (k + 1) first left) (hr : Rise fs) (h0 : 2 ≤ left) (hq : ∀ (q : first + left / 2 < fs.length), n < fs[first + left / 2].num) : Halv fs n k first (left - left / 2) := by
  have h1 := h.le
  have h2 := h.one
  have h3 := h.fit
  rw [Nat.pow_succ] at h1
  refine ⟨by omega, by omega, by omega, fun i hi hh => ?_, h.lo⟩
  by_cases e : i = first + left / 2
  · subst e; exact hq hh
  · by_cases hl : i < first + left / 2
    · omega
    · exact Int.lt_trans (hq (by omega)) (hr _ _ (by omega) hh (by omega))
theorem Halv.still {fs : List FT} {n : Int} {k first left : Nat} (h : Halv fs n (k + 1) first left) (h0 : left = 1) : Halv fs n k first (left - left / 2) := by
  subst h0
  exact ⟨Nat.one_le_two_pow, by decide, h.fit, h.up, h.lo⟩
theorem bitLen_lt : ∀ n : Fin 129, n.val < 2 ^ Go.Lib.bitLen n.val := by decide +kernel
/-- What lastUpTo answers. -/
def LutR (fs : List FT) (n : Int) (w : World) (e : Ending) (w' : World) : Prop := ((e = .returned (.tuple #[.agg #[.string ⟨#[]⟩, .int .i64 0, .int .i64 0, .int .i64 0, .int .i64 0, .int .i64 0, .int .i64 0], .bool false]) ∧ (∀ i, ∀ (h : i < fs.length), n < fs[i].num)) ∨ (∃ (k : Nat) (hk : k < fs.length), e = .returned (.tuple #[.agg #[.string (strOfNums fs[k].name), .int .i64 fs[k].num, .int .i64 fs[k].kind, .int .i64 fs[k].ref, .int .i64 fs[k].lab, .int .i64 fs[k].one, .int .i64 fs[k].key], .bool true]) ∧ fs[k].num ≤ n ∧ ∀ i, k < i → ∀ (h : i < fs.length), n < fs[i].num)) ∧ Below w.heap.size w w'
theorem LutR.no {fs : List FT} {n : Int} {w w' : World} (h : ∀ i, ∀ (h : i < fs.length), n < fs[i].num) (hb : Below w.heap.size w w') : LutR fs n w (.returned (.tuple #[.agg #[.string ⟨#[]⟩, .int .i64 0, .int .i64 0, .int .i64 0, .int .i64 0, .int .i64 0, .int .i64 0], .bool false])) w' := ⟨.inl ⟨rfl, h⟩, hb⟩
theorem LutR.yes {fs : List FT} {n : Int} {w w' : World} (k : Nat) (hk : k < fs.length) (h1 : fs[k].num ≤ n) (h : ∀ i, k < i → ∀ (h : i < fs.length), n < fs[i].num) (hb : Below w.heap.size w w') : LutR fs n w (.returned (.tuple #[.agg #[.string (strOfNums fs[k].name), .int .i64 fs[k].num, .int .i64 fs[k].kind, .int .i64 fs[k].ref, .int .i64 fs[k].lab, .int .i64 fs[k].one, .int .i64 fs[k].key], .bool true])) w' := ⟨.inr ⟨k, hk, rfl, h1, h⟩, hb⟩
theorem LutR.yes' {fs : List FT} {n : Int} {w w' : World} {x : FT} (k : Nat) (hk : k < fs.length) (hx : fs[k] = x) (h1 : x.num ≤ n) (h : ∀ i, k < i → ∀ (h : i < fs.length), n < fs[i].num) (hb : Below w.heap.size w w') : LutR fs n w (.returned (.tuple #[.agg #[.string (strOfNums x.name), .int .i64 x.num, .int .i64 x.kind, .int .i64 x.ref, .int .i64 x.lab, .int .i64 x.one, .int .i64 x.key], .bool true])) w' := by
  subst hx
  exact LutR.yes k hk h1 h hb
theorem lastUpToT (fs : List FT) (n : Int) (w : World) (a : Option Addr) (c : Nat) (h : RowS w AnyZ 7 (.slice a fs.length c) fs.length (fs.flatMap cFT)) (hr : Rise fs) (hl : fs.length ≤ 128) : Calls Tryz.prog 94 #[.slice a fs.length c, .int .i64 n] w (LutR fs n w) := by
  have HR := hid h
  have HRI := hid hr
  have h1 : (fs.length : Int) ≤ 9223372036854775807 := by omega
  have HLN := hid (fun W => Tryz.bits_Len (fs.length : Int) W (by omega) (by omega))
  have HBL : Hid (fs.length < 2 ^ Go.Lib.bitLen fs.length ∧ Go.Lib.bitLen fs.length ≤ 8) := hid ⟨bitLen_lt ⟨fs.length, by omega⟩, Go.Lib.bitLen_le8 ⟨fs.length, by omega⟩⟩
  clear h hr
  by_cases h0 : fs.length = 0
  case pos =>
    have e : fs = [] := List.eq_nil_of_length_eq_zero h0
    subst e
    clear HR HRI HBL
    go_enter Tryz.func94, Tryz.ntmps94
    go_wp2_with fail
    refine (HLN.out _).mono ?_
    rintro e w1 ⟨rfl, rfl⟩
    go_wp2
    go_loopw [6, 7, 14] (fun a b r wr => a = .int .i64 0 ∧ b = .int .i64 0 ∧ r = .int .i64 0 ∧ Hid (Below w.heap.size w wr) ∧ Hid (Blk wr w.heap.size 59 #[.string ⟨#[]⟩, .int .i64 0, .int .i64 0, .int .i64 0, .int .i64 0, .int .i64 0, .int .i64 0])) (fun _ _ _ _ => 0)
    case atStart => exact ⟨rfl, rfl, rfl, hid (by exact blBy), hid (Blk.newAt rfl)⟩
    case round =>
      obtain ⟨rfl, rfl, rfl, hb, BR⟩ := hrel
      have xr := BR.out.cellF
      have yr := BR.out.frz
      have zr := BR.out.lt
      have hbl0 : Go.Lib.bitLen 0 = 0 := by decide
      have hbl1 : Go.Lib.bitLen ([] : List FT).length = 0 := by decide
      go_wp2
      exact bodyPost_ret (v := .tuple #[.agg #[.string ⟨#[]⟩, .int .i64 0, .int .i64 0, .int .i64 0, .int .i64 0, .int .i64 0, .int .i64 0], .bool false]) (by simp [results, Tryz.results94, go_sem, xr, zr]) rfl (LutR.no (fun i h => absurd h (by simp)) (by have := hb.out; exact blBy))
  go_enter Tryz.func94, Tryz.ntmps94
  go_wp2_with fail
  refine (HLN.out _).mono ?_
  rintro e w1 ⟨rfl, rfl⟩
  clear HLN
  go_wp2
  go_loopw [6, 7, 14] (fun a b r wr => ∃ (i first left : Nat), a = .int .i64 first ∧ b = .int .i64 left ∧ r = .int .i64 i ∧ i ≤ Go.Lib.bitLen fs.length ∧ Hid (Halv fs n (Go.Lib.bitLen fs.length - i) first left) ∧ Hid (Below w.heap.size w wr) ∧ Hid (Blk wr w.heap.size 59 #[.string ⟨#[]⟩, .int .i64 0, .int .i64 0, .int .i64 0, .int .i64 0, .int .i64 0, .int .i64 0])) (fun _ _ r wr => Go.Lib.bitLen fs.length - numAt wr r)
  case atStart => exact ⟨0, 0, fs.length, rfl, rfl, rfl, by omega, hid ⟨by have := HBL.out.1; simp; omega, by omega, by omega, fun i hi h => by omega, .inl rfl⟩, hid (by exact blBy), hid (Blk.newAt rfl)⟩
  case round =>
    obtain ⟨i, first, left, rfl, rfl, rfl, hi, HH, hb, BR⟩ := hrel
    have hfl : first + left ≤ fs.length := HH.out.fit
    have hlo : 1 ≤ left := HH.out.one
    have hb8 := HBL.out.2
    have xr := BR.out.cellF
    have yr := BR.out.frz
    have zr := BR.out.lt
    by_cases hlt : i < Go.Lib.bitLen fs.length
    · have h4 : (i : Int) < (Go.Lib.bitLen fs.length : Int) := by omega
      have hw : wrap64 ((left : Int) / 2) = ((left / 2 : Nat) : Int) := by unfold wrap64; omega
      have HK : Hid (Go.Lib.bitLen fs.length - i = (Go.Lib.bitLen fs.length - (i + 1)) + 1) := hid (by omega)
      have hpl : first + left / 2 < fs.length := by omega
      obtain ⟨b', o', rfl, hbl', c0, c1, c2, c3, c4, c5, c6⟩ := row7 (HR.out.kept hb.out) hpl
      have HY := hid (fun q => (HK.out ▸ HH.out : Halv fs n ((Go.Lib.bitLen fs.length - (i + 1)) + 1) first left).yes q)
      have HN := hid (fun q z => (HK.out ▸ HH.out : Halv fs n ((Go.Lib.bitLen fs.length - (i + 1)) + 1) first left).no HRI.out z q)
      have HS := hid (fun z => (HK.out ▸ HH.out : Halv fs n ((Go.Lib.bitLen fs.length - (i + 1)) + 1) first left).still z)
      have HX : Hid (∀ (q : first + left / 2 < fs.length), fs[first + left / 2] = fs[first + left / 2]) := hid (fun q => rfl)
      have hpl2 : (first : Int) + (left : Int) / 2 < (fs.length : Int) := by omega
      generalize hx : fs[first + left / 2] = x at *
      by_cases hq : x.num ≤ n
      · go_wp2
        exact ⟨⟨i + 1, first + left / 2, left - left / 2, by simp, by simp; omega, by simp, by omega, hid (HY.out (fun q => by rw [hx]; exact hq)), hb, BR⟩, by simp [numAt]; omega⟩
      · go_wp2
        exact ⟨⟨i + 1, first, left - left / 2, rfl, by simp; omega, by simp, by omega, hid (by by_cases z : 2 ≤ left; exact HN.out (fun q => by rw [hx]; omega) z; exact HS.out (by omega)), hb, BR⟩, by simp [numAt]; omega⟩
    · have h4 : ¬ (i : Int) < (Go.Lib.bitLen fs.length : Int) := by omega
      have hl1 : left = 1 := by have := HH.out.le; rw [show Go.Lib.bitLen fs.length - i = 0 by omega] at this; simp at this; omega
      have hpl : first < fs.length := by omega
      have HUP : Hid (∀ i, first < i → ∀ (h : i < fs.length), n < fs[i].num) := hid (fun i hi h => HH.out.up i (by omega) h)
      have HLO := hid HH.out.lo
      obtain ⟨b', o', rfl, hbl', c0, c1, c2, c3, c4, c5, c6⟩ := row7 (HR.out.kept hb.out) hpl
      have hpl2 : (first : Int) < (fs.length : Int) := by omega
      subst hl1
      have HXX : Hid (fs[first] = fs[first]) := hid rfl
      generalize hx : fs[first] = x at *
      by_cases hq : n < x.num
      · go_wp2
        exact bodyPost_ret (v := .tuple #[.agg #[.string ⟨#[]⟩, .int .i64 0, .int .i64 0, .int .i64 0, .int .i64 0, .int .i64 0, .int .i64 0], .bool false]) (by simp [results, Tryz.results94, go_sem, xr, zr]) rfl (LutR.no (fun i h => by
          rcases HLO.out with z | z
          · subst z
            by_cases e : i = 0
            · subst e; rw [hx]; exact hq
            · exact HUP.out i (by omega) h
          · have := z hpl; rw [hx] at this; omega) (by have := hb.out; exact blBy))
      · go_wp2
        exact bodyPost_ret (v := .tuple #[.agg #[.string (strOfNums x.name), .int .i64 x.num, .int .i64 x.kind, .int .i64 x.ref, .int .i64 x.lab, .int .i64 x.one, .int .i64 x.key], .bool true]) (by simp [results, Tryz.results94, go_sem, xr, zr]) rfl (LutR.yes' first hpl hx (by omega) HUP.out (by have := hb.out; exact blBy))
def hitB (fs : List FT) (r : RG) : Bool := fs.any (fun f => decide (r.lo ≤ f.num ∧ f.num ≤ r.hi))
def freeA (fs : List FT) : List RG → Int → Bool
  | [], z => decide (z ≤ 536870911)
  | r :: l, z => if r.lo ≤ z ∨ r.hi < r.lo then false else if hitB fs r = true then false else freeA fs l r.hi
theorem hit_no {fs : List FT} {r : RG} (h : ∀ i, ∀ (h : i < fs.length), r.hi < fs[i].num) : hitB fs r = false := by
  unfold hitB
  rw [List.any_eq_false]
  intro f hf
  obtain ⟨i, hi, rfl⟩ := List.getElem_of_mem hf
  have := h i hi
  simp
  omega
theorem hit_yes {fs : List FT} {r : RG} (hr : Rise fs) {k : Nat} (hk : k < fs.length) (h1 : fs[k].num ≤ r.hi) (h : ∀ i, k < i → ∀ (h : i < fs.length), r.hi < fs[i].num) : hitB fs r = decide (r.lo ≤ fs[k].num) := by
  unfold hitB
  by_cases hq : r.lo ≤ fs[k].num
  · rw [show decide (r.lo ≤ fs[k].num) = true by simpa using hq, List.any_eq_true]
    exact ⟨fs[k], List.getElem_mem hk, by simp; omega⟩
  · rw [show decide (r.lo ≤ fs[k].num) = false by simpa using hq, List.any_eq_false]
    intro f hf
    obtain ⟨i, hi, rfl⟩ := List.getElem_of_mem hf
    by_cases e : k < i
    · have := h i e hi; simp; omega
    · by_cases e2 : i = k
      · subst e2; simp; omega
      · have := hr i k (by omega) hk hi; simp; omega
theorem areFreeT (rs : List RG) (fs : List FT) (w : World) (a b0 : Option Addr) (c d : Nat) (h : RowS w AnyZ 2 (.slice a rs.length c) rs.length (rs.flatMap cRG)) (hf : RowS w AnyZ 7 (.slice b0 fs.length d) fs.length (fs.flatMap cFT)) (hr : Rise fs) (hl : fs.length ≤ 128) : Calls Tryz.prog 196 #[.slice a rs.length c, .slice b0 fs.length d] w fun e w' => e = .returned (.bool (freeA fs rs 0)) ∧ Below w.heap.size w w' := by
  obtain ⟨_, _, e, hn⟩ := rowS_sl h
  clear e
  have h1 : (rs.length : Int) ≤ 9223372036854775807 := by omega
  have HR := hid h
  have HF := hid hf
  have HRI := hid hr
  clear h hf hr
  go_enter Tryz.func196, Tryz.ntmps196
  go_wp2
  go_loopw [5, 12] (fun z r wr => ∃ (j : Nat) (q : Int), z = .int .i64 q ∧ r = .int .i64 j ∧ j ≤ rs.length ∧ Hid (freeA fs rs 0 = freeA fs (rs.drop j) q) ∧ Hid (Below w.heap.size w wr)) (fun z r wr => rs.length - numAt wr r)
  case atStart => exact ⟨0, 0, rfl, rfl, by omega, hid rfl, hid (Below.refl _ _)⟩
  case round =>
    obtain ⟨j, q, rfl, rfl, hj, hfr, hb⟩ := hrel
    by_cases hlt : j < rs.length
    · have h2 : (j : Int) < (rs.length : Int) := by omega
      obtain ⟨b, o, rfl, hbl, c0, c1⟩ := rowG (HR.out.kept hb.out) hlt
      have HST : Hid (freeA fs (rs.drop j) q = if rs[j].lo ≤ q ∨ rs[j].hi < rs[j].lo then false else if hitB fs rs[j] = true then false else freeA fs (rs.drop (j + 1)) rs[j].hi) := hid (by rw [List.drop_eq_getElem_cons hlt, freeA])
      generalize rs[j] = r at *
      by_cases q1 : r.lo ≤ q
      · go_wp2
        go_ret
        exact ⟨ret_bool (by rw [hfr.out, HST.out, if_pos (.inl q1)]), by have := hb.out; exact blBy⟩
      · by_cases q2 : r.hi < r.lo
        · go_wp2
          go_ret
          exact ⟨ret_bool (by rw [hfr.out, HST.out, if_pos (.inr q2)]), by have := hb.out; exact blBy⟩
        · replace HST := hid (show freeA fs (rs.drop j) q = if hitB fs r = true then false else freeA fs (rs.drop (j + 1)) r.hi by rw [HST.out, if_neg (fun z => z.elim q1 q2)])
          go_wp2_with fail
          refine (lastUpToT fs r.hi _ b0 d (HF.out.kept (by have := hb.out; exact blBy)) HRI.out hl).mono ?_
          rintro e w1 ⟨hor, hb1⟩
          have BR : Blk w1 wr.heap.size 175 #[.int .i64 r.lo, .int .i64 r.hi] := (Blk.newAt rfl).kept hb1
          have HB1 : Hid (Below w.heap.size w w1) := hid (bl_then (by have := hb.out; exact blBy) hb1)
          have hs1 := hb1.size
          clear hb1 c0 c1
          have xr := BR.cellF
          have zr := BR.lt
          rcases hor with ⟨rfl, hno⟩ | ⟨k, hk, rfl, hle, hup⟩
          · have HT := hid (hit_no hno)
            clear hno
            go_wp2
            exact ⟨⟨j + 1, r.hi, rfl, by simp, by omega, hid (by rw [hfr.out, HST.out, HT.out]; rfl), hid (by have := HB1.out; exact blBy)⟩, by simp [numAt]; omega⟩
          · have HT := hid (hit_yes HRI.out hk hle hup)
            clear hle hup
            generalize fs[k] = f at *
            by_cases q3 : r.lo ≤ f.num
            · go_wp2
              go_ret
              exact ⟨ret_bool (by rw [hfr.out, HST.out, HT.out, show decide (r.lo ≤ f.num) = true by simpa using q3]; rfl), by have := HB1.out; exact blBy⟩
            · go_wp2
              exact ⟨⟨j + 1, r.hi, rfl, by simp, by omega, hid (by rw [hfr.out, HST.out, HT.out, show decide (r.lo ≤ f.num) = false by simpa using q3]; rfl), hid (by have := HB1.out; exact blBy)⟩, by simp [numAt]; omega⟩
    · have h2 : ¬ (j : Int) < (rs.length : Int) := by omega
      have HE : Hid (freeA fs rs 0 = decide (q ≤ 536870911)) := hid (by rw [hfr.out, List.drop_of_length_le (by omega)]; rfl)
      go_wp2
      go_ret
      exact ⟨ret_bool HE.out.symm, hb.out⟩
end Go.Proofs.YtnebbmeomjiogaaGreatDoor
