/-
  What holds of bytes wherever they lie: rows that can be read, rows of one's own, appending to them. Nothing of the program's functions.
-/
import Derived.Test.YtlkdcdmdkncjoaaDoorRows
import Derived.RowKit
import Derived.Laws.BytesArg
import Derived.WalkKit
import Derived.WalkSpells
import Derived.WalkLawsBesides
import Derived.Outline
import Derived.Below
import Derived.WalkMore
import Derived.Laws.MakeOwn
import Derived.OwnWalk
import Derived.Laws.AppendOwnNone
import Derived.OpenShut
namespace Go.Proofs.YtlkdcdmdkncjoaaDoor
open Go.RowKit
set_option maxRecDepth 1000000

theorem strOfNums_inj : ∀ (xs ys : List Int), (∀ x ∈ xs, 0 ≤ x ∧ x ≤ 255) → (∀ x ∈ ys, 0 ≤ x ∧ x ≤ 255) → strOfNums xs = strOfNums ys → xs = ys := by
  intro xs ys hx hy h
  have h1 : (strOfNums xs).data.toList = (strOfNums ys).data.toList := by rw [h]
  rw [strOfNums_data, strOfNums_data] at h1
  clear h
  induction xs generalizing ys with
  | nil => cases ys with
    | nil => rfl
    | cons y r => simp at h1
  | cons x r ih => cases ys with
    | nil => simp at h1
    | cons y s =>
      simp only [List.map_cons, List.cons.injEq] at h1
      have a := hx x (by simp)
      have b := hy y (by simp)
      have h2 : (UInt8.ofNat x.toNat).toNat = (UInt8.ofNat y.toNat).toNat := by rw [h1.1]
      simp only [UInt8.toNat_ofNat'] at h2
      rw [ih s (fun z hz => hx z (by simp [hz])) (fun z hz => hy z (by simp [hz])) h1.2]
      congr 1
      omega
theorem drop_at {xs : List Int} {j : Nat} (h : j < xs.length) : xs.drop j = xs[j]?.getD 0 :: xs.drop (j + 1) := by
  rw [List.drop_eq_getElem_cons h]
  simp [h]
theorem ret_int {k : IntKind} {a b : Int} (h : a = b) : Ending.returned (.int k a) = .returned (.int k b) := by rw [h]
theorem ret_bool {a b : Bool} (h : a = b) : Ending.returned (.bool a) = .returned (.bool b) := by rw [h]
theorem hid {p : Prop} (h : p) : Hid p := h
/-- A slice of bytes that can be read: its bytes are xs. -/
structure Reads (w : World) (a : Option Addr) (len cap : Nat) (xs : List Int) : Prop where
  length : xs.length = len
  le : len ≤ cap
  max : cap ≤ 9223372036854775807
  bd : ∀ i, 0 ≤ xs.getD i 0 ∧ xs.getD i 0 ≤ 255
  cells : (len = 0 ∧ (a = none → cap = 0)) ∨ ∃ b off, a = some ⟨b, off, none⟩ ∧ ∀ i, i < len → w.cell? ⟨b, off + i, none⟩ = some (.int .u8 (xs.getD i 0))
theorem conv {w : World} {a : Option Addr} {len cap : Nat} {xs : List Int} (h : Reads w a len cap xs) : (convert 30 9 (.slice a len cap)).run Tryd.prog w = .ok (.string (strOfNums xs)) w := by
  rcases h.cells with ⟨h0, _⟩ | ⟨b, off, rfl, hc⟩
  · subst h0
    have hx : xs = [] := List.eq_nil_of_length_eq_zero h.length
    subst hx
    cases a with
    | none => rw [run_convert_bytes_nil w 30 5 Tryd.underlying30 Tryd.underlying5 0 cap 9 Tryd.underlying9]; rfl
    | some x =>
      rw [run_convert_bytes_string w 30 9 5 _ 0 cap Tryd.underlying30 Tryd.underlying5 Tryd.underlying9, run_bytesToString w _ 0 cap [] (by simp [loadCells, loadCellsFrom])]
      rfl
  · exact run_convert_bytes_arg w 30 5 Tryd.underlying30 Tryd.underlying5 b off len cap xs h.length hc 9 Tryd.underlying9
theorem bd_mem {xs : List Int} (h : ∀ i, 0 ≤ xs.getD i 0 ∧ xs.getD i 0 ≤ 255) : ∀ x ∈ xs, 0 ≤ x ∧ x ≤ 255 := by
  intro x hx
  obtain ⟨i, hi, rfl⟩ := List.mem_iff_getElem.1 hx
  have := h i
  simpa [hi] using this
theorem Tryd.info5 : (Tryd.prog.info? 5).map (fun i => (i.zero, i.size, i.bytes)) = some (some (.int .u8 0), 1, 1) := by kernel_rfl
theorem bd_get {xs : List Int} (h : ∀ x ∈ xs, 0 ≤ x ∧ x ≤ 255) : ∀ i, 0 ≤ xs.getD i 0 ∧ xs.getD i 0 ≤ 255 := by
  intro i
  by_cases hi : i < xs.length
  · have := h xs[i] (List.getElem_mem hi)
    simpa [hi] using this
  · simp [hi]
theorem own_reads {w : World} {base n : Nat} {v : Value} {xs : List Int} (h : w.ownsRow base 5 1 v n (xs.map (Value.int .u8))) (hb : ∀ x ∈ xs, 0 ≤ x ∧ x ≤ 255) :
    ∃ a cap, v = .slice a n cap ∧ Reads w a n cap xs := by
  have hl : xs.length = n := by simpa using h.1
  rcases h.2 with ⟨rfl, h0⟩ | ⟨g, cap, cur, rfl, hbg, hg, hnc, hcm, hcs, htake⟩
  · subst h0
    exact ⟨none, 0, rfl, hl, Nat.le_refl _, by omega, bd_get hb, .inl ⟨rfl, fun _ => rfl⟩⟩
  · refine ⟨_, cap, rfl, hl, hnc, by unfold maxLen at hcm; omega, bd_get hb, .inr ⟨g, 0, rfl, fun i hi => ?_⟩⟩
    have hx : (xs.map (Value.int .u8))[i]? = some (.int .u8 (xs.getD i 0)) := by simp [show i < xs.length by omega]
    have := h.cells (g := g) rfl i _ hx
    have hadd : (⟨g, 0, none⟩ : Addr).add i = ⟨g, 0 + i, none⟩ := by unfold Addr.add; split <;> simp_all
    rwa [hadd] at this
theorem reads_kept {w w' : World} {a : Option Addr} {len cap : Nat} {xs : List Int} (h : Reads w a len cap xs) (hb : Below w.heap.size w w') : Reads w' a len cap xs := by
  refine ⟨h.length, h.le, h.max, h.bd, ?_⟩
  rcases h.cells with h0 | ⟨b, off, rfl, hc⟩
  · exact .inl h0
  · exact .inr ⟨b, off, rfl, fun i hi => by rw [hb.cell (p := ⟨b, off + i, none⟩) (World.block_lt_of_cell? _ _ (hc i hi))]; exact hc i hi⟩
theorem below_alloc {w : World} (o : Obj) : Below w.heap.size w (w.alloc o) := (Below.refl _ _).alloc (Nat.le_refl _) o
theorem below_trans {w w1 w2 : World} (h1 : Below w.heap.size w w1) (h2 : Below w1.heap.size w1 w2) : Below w.heap.size w w2 := h1.trans (h2.mono h1.size)
/-- A row that has just been laid. -/
theorem reads_new (w : World) (xs : List Int) (hb : ∀ x ∈ xs, 0 ≤ x ∧ x ≤ 255) (hm : xs.length ≤ 9223372036854775807) : Reads (w.alloc (.cells (xs.map (Value.int .u8)).toArray 5)) (some ⟨w.heap.size, 0, none⟩) xs.length xs.length xs := by
  refine ⟨rfl, Nat.le_refl _, hm, bd_get hb, .inr ⟨w.heap.size, 0, rfl, fun i hi => ?_⟩⟩
  rw [World.cell?_alloc_at _ _ _ _ rfl]
  simp [hi]
/-- WHAT THE WALK IS TOLD OF A SLICE OF INTEGERS THAT CAME IN: it is nil; or it leads to a row of 'cap' cells, the numbers 'zs' (the first 'len' are its elements, the rest its spare room), each fitting its kind. -/
def IsRow (k : IntKind) (w : World) (a : Option Addr) (len cap : Nat) (zs : List Int) : Prop :=
  (a = none ∧ len = 0 ∧ cap = 0 ∧ zs = []) ∨
  ∃ x, a = some x ∧ len ≤ cap ∧ cap ≤ maxLen ∧ zs.length = cap ∧ (∀ i, i < zs.length → w.cell? (x.add i) = some (.int k (zs.getD i 0))) ∧ ∀ n ∈ zs, (Lit.int k n).wf = true
theorem isRow_reads {w : World} {a : Option Addr} {len cap : Nat} {zs : List Int} (h : IsRow .u8 w a len cap zs) : Reads w a len cap (zs.take len) := by
  rcases h with ⟨rfl, rfl, rfl, rfl⟩ | ⟨x, rfl, hl, hm, hz, hcell, hwz⟩
  · exact ⟨rfl, Nat.le_refl _, by omega, by simp, .inl ⟨rfl, fun _ => rfl⟩⟩
  · have hb : ∀ x ∈ zs.take len, 0 ≤ x ∧ x ≤ 255 := fun x hx => bounds_u8 (hwz x (List.mem_of_mem_take hx))
    refine ⟨by simp; omega, hl, by unfold maxLen at hm; omega, bd_get hb, ?_⟩
    by_cases h0 : len = 0
    · exact .inl ⟨h0, fun e => by cases e⟩
    · obtain ⟨b, off, spot⟩ := x
      have hc := hcell 0 (by omega)
      have hspot : spot = none := by simpa [Addr.add] using World.cell?_spot hc
      subst hspot
      refine .inr ⟨b, off, rfl, fun i hi => ?_⟩
      have hadd : (⟨b, off, none⟩ : Addr).add i = ⟨b, off + i, none⟩ := by unfold Addr.add; split <;> simp_all
      have := hcell i (by omega)
      rw [hadd] at this
      rw [this]
      simp [hi]
theorem reads_nil (w : World) : Reads w none 0 0 [] := ⟨rfl, Nat.le_refl _, by omega, by simp, .inl ⟨rfl, fun _ => rfl⟩⟩
theorem byte_of (n : Int) : IntKind.u8.wrap n = n % 256 := by simp [IntKind.wrap, IntKind.bits, IntKind.signed]
theorem reads_src {w : World} {x : Addr} {len cap : Nat} {xs : List Int} (h : Reads w (some x) len cap xs) : ∀ j u, (xs.map (Value.int .u8))[j]? = some u → w.cell? (x.add j) = some u := by
  intro j u hu
  have hlen := h.length
  have hj : j < xs.length := by
    rcases Nat.lt_or_ge j xs.length with h' | h'
    · exact h'
    · rw [List.getElem?_eq_none (by simpa using h')] at hu; cases hu
  rcases h.cells with ⟨h0, _⟩ | ⟨b, off, e, hc⟩
  · omega
  · cases e
    have hadd : (⟨b, off, none⟩ : Addr).add j = ⟨b, off + j, none⟩ := by unfold Addr.add; split <;> simp_all
    rw [hadd, hc j (by omega)]
    simp [hj] at hu ⊢
    exact hu
theorem one_u8 (xs : List Int) : ∀ u ∈ xs.map (Value.int .u8), u.oneCell' = true := by
  intro u hu
  obtain ⟨x, _, rfl⟩ := List.mem_map.1 hu
  rfl
theorem reads_none {w : World} {len cap : Nat} {xs : List Int} (h : Reads w none len cap xs) : len = 0 ∧ cap = 0 ∧ xs = [] := by
  rcases h.cells with ⟨h0, h1⟩ | ⟨b, off, e, _⟩
  · exact ⟨h0, h1 rfl, List.eq_nil_of_length_eq_zero (by rw [h.length, h0])⟩
  · cases e
/-- From w to w' the slice v became v': every old block but v's own is as it was, and v' lies in v's block or in a new one. -/
structure Grow (w w' : World) (v v' : Value) : Prop where
  os : w'.os = w.os
  tape : w'.tape = w.tape
  output : w'.output = w.output
  size : w.heap.size ≤ w'.heap.size
  block : ∀ k, k < w.heap.size → v.ownBlock ≠ some k → w'.heap[k]? = w.heap[k]?
  own : v'.ownBlock = v.ownBlock ∨ ∀ k, v'.ownBlock = some k → w.heap.size ≤ k
theorem Grow.refl (w : World) (v : Value) : Grow w w v v := ⟨rfl, rfl, rfl, Nat.le_refl _, fun _ _ _ => rfl, .inl rfl⟩
theorem Grow.trans {w w1 w2 : World} {v v1 v2 : Value} (h : Grow w w1 v v1) (g : Grow w1 w2 v1 v2) : Grow w w2 v v2 := by
  refine ⟨g.os.trans h.os, g.tape.trans h.tape, g.output.trans h.output, Nat.le_trans h.size g.size, fun k hk hv => ?_, ?_⟩
  · rw [g.block k (Nat.lt_of_lt_of_le hk h.size) ?_, h.block k hk hv]
    intro e
    rcases h.own with h1 | h1
    · exact hv (h1.symm.trans e)
    · have := h1 k e; omega
  · rcases g.own with g1 | g1
    · rcases h.own with h1 | h1
      · exact .inl (g1.trans h1)
      · exact .inr fun k hk => h1 k (g1.symm.trans hk)
    · exact .inr fun k hk => Nat.le_trans h.size (g1 k hk)
theorem Grow.ofBelow {w w' : World} {v : Value} (h : Below w.heap.size w w') : Grow w w' v v :=
  ⟨h.os, h.tape, h.output, h.size, fun k hk _ => h.block k hk, .inl rfl⟩
theorem Grow.alloc {w w' : World} {v v' : Value} (h : Grow w w' v v') (o : Obj) : Grow w (w'.alloc o) v v' := h.trans (Grow.ofBelow (below_alloc o))
/-- What lies below B stays, where v lies from B on. -/
theorem Grow.below {w w' : World} {v v' : Value} {B : Nat} (h : Grow w w' v v') (hB : B ≤ w.heap.size) (hv : ∀ k, v.ownBlock = some k → B ≤ k) : Below B w w' :=
  ⟨h.os, h.tape, h.output, h.size, fun k hk => h.block k (by omega) (fun e => by have := hv k e; omega)⟩
theorem run_append_mine {P : Program} (w : World) (base : Nat) (t ty e : TypeId) (i : TypeInfo) (z : Value) (size bytes : Nat) (ht : P.underlying t = some (.slice e)) (hi : P.info? e = some i) (hz : i.zero = some z)
    (hsize : i.size = size) (hby : i.bytes = bytes) (hzs : z.cells.size = size) (hsz : 0 < size)
    (v : Value) (n : Nat) (xs : List Value) (hown : w.ownsRow base e size v n xs)
    (a : Addr) (m c : Nat) (news : List Value) (hl : news.length = m * size) (hnews : ∀ j u, news[j]? = some u → w.cell? (a.add j) = some u) (h1 : ∀ u ∈ news, u.oneCell' = true)
    (h63 : n + m ≤ maxLen) (hbytes : (n + m) * bytes ≤ 140737488355328) (hbase : base ≤ w.heap.size) :
    ∃ v' w', (Builtin.append_ #[t, t] ty #[v, .slice (some a) m c]).run P w = .ok v' w' ∧ w'.ownsRow base e size v' (n + m) (xs ++ news) ∧ Grow w w' v v' := by
  obtain ⟨v', w', hr, ho, hg, hn⟩ := run_append_own (P := P) w base t ty e i z size bytes ht hi hz hsize hby hzs hsz v n xs hown a m c news hl hnews h1 h63 hbytes hbase
  refine ⟨v', w', hr, ho, hg.os, hg.tape, hg.output, hg.size, fun k hk hv => hg.block k hk (fun e => hv e.symm), ?_⟩
  have hown0 := hown
  rcases hown.2 with ⟨rfl, rfl⟩ | ⟨g, cap, cur, rfl, hbg, hgg, hnc, hcm, hcs, htake⟩
  · have hx : xs = [] := List.eq_nil_of_length_eq_zero (by simpa using hown.1)
    subst hx
    obtain ⟨v2, w2, hr2, ho2, _, _⟩ := run_append_own (P := P) w w.heap.size t ty e i z size bytes ht hi hz hsize hby hzs hsz _ 0 [] (World.ownsRow_nil _ _ _ _) a m c news hl hnews h1 h63 hbytes (Nat.le_refl _)
    rw [hr] at hr2
    cases hr2
    exact .inr fun k hk => (ho2.lt k hk).1
  · subst hsize
    subst hby
    by_cases hroom : n + m ≤ cap
    · have hfit : n * i.size + news.length ≤ cur.size := by rw [hl, hcs, ← Nat.add_mul]; exact Nat.mul_le_mul_right _ hroom
      have hr2 := run_append_room (P := P) w t ty e i ht hi g n cap cur hgg a m c news hl hnews h1 hroom hfit
      rw [hr] at hr2
      cases hr2
      exact .inl rfl
    · have holds : ∀ j u, xs[j]? = some u → w.cell? ((⟨g, 0, none⟩ : Addr).add j) = some u := hown.cells (g := g) rfl
      have hsmall : n + m ≤ 9223372036854775807 := by simp only [maxLen] at h63; omega
      have hr2 := run_append_grow (P := P) w t ty e i z ht hi hz ⟨g, 0, none⟩ n cap xs hown.1 holds a m c news hl hnews (by omega) (by omega) (growslice_fits (by omega) hbytes)
      rw [hr] at hr2
      cases hr2
      refine .inr fun k hk => ?_
      simp [Value.ownBlock] at hk
      omega
theorem wpList_append_ran {P : Program} {w : World} {ops : Array Oper} {rest : List Oper} {o : Oper} {a : Act} {Q : Exit → Act → World → Prop} (hgd : o.guard = none) (s x : Operand) (t ty : TypeId)
    (ho : o.op = .call { callee := .builtin .append, args := #[s, x], argTypes := #[t, t] }) (hty : o.type = ty) (v xv v' : Value) (w' : World) (hs : a.eval s = v) (hx : a.eval x = xv)
    (hr : (Builtin.append_ #[t, t] ty #[v, xv]).run P w = .ok v' w') (h : wpList P ops Q rest (a.put o.dst v') w') : wpList P ops Q (o :: rest) a w := by
  subst hty
  refine wpList_plain hgd fun K hK => ?_
  unfold Oper.wp
  simp [execOp, ho, resolve, invoke, builtin, hs, hx, hr, Result.andThen]
  exact hK _ _ h
/-- One byte more, laid in a block of its own first. -/
theorem append_byte (base : Nat) (v : Value) (n : Nat) (xs : List Value) (w : World) (x : Int) (hown : w.ownsRow base 5 1 v n xs) (hb : base ≤ w.heap.size) (hn : n + 1 ≤ 140737488355328) :
    ∃ v' w', (Builtin.append_ #[30, 30] 30 #[v, .slice (some ⟨w.heap.size, 0, none⟩) 1 1]).run Tryd.prog (w.alloc (.cells #[.int .u8 x] 5)) = .ok v' w' ∧ w'.ownsRow base 5 1 v' (n + 1) (xs ++ [.int .u8 x]) ∧ Grow w w' v v' := by
  obtain ⟨i0, hi, hz0, hz1, hz2⟩ := info_parts Tryd.info5
  obtain ⟨v', w', hr, ho, hg⟩ := run_append_mine (P := Tryd.prog) (w.alloc (.cells #[.int .u8 x] 5)) base 30 30 5 i0 (.int .u8 0) 1 1 Tryd.underlying30 hi hz0 hz1 hz2 rfl (by decide) v n xs (hown.alloc _) ⟨w.heap.size, 0, none⟩ 1 1 [.int .u8 x] rfl (cell_one_new _ _ _) (fun u hu => by simp at hu; subst hu; rfl) (by unfold maxLen; omega) (by omega) (by simp; omega)
  exact ⟨v', w', hr, ho, ((Grow.refl w v).alloc _).trans hg⟩
/-- A slice's bytes, from wherever they lie. -/
theorem append_bytes (base : Nat) (v : Value) (n : Nat) (xs : List Value) (w : World) (a : Option Addr) (len cap : Nat) (ys : List Int) (hown : w.ownsRow base 5 1 v n xs) (hb : base ≤ w.heap.size) (hr : Reads w a len cap ys) (hn : n + len ≤ 140737488355328) :
    ∃ v' w', (Builtin.append_ #[30, 30] 30 #[v, .slice a len cap]).run Tryd.prog w = .ok v' w' ∧ w'.ownsRow base 5 1 v' (n + len) (xs ++ ys.map (Value.int .u8)) ∧ Grow w w' v v' := by
  obtain ⟨i0, hi, hz0, hz1, hz2⟩ := info_parts Tryd.info5
  cases a with
  | none =>
    obtain ⟨rfl, rfl, rfl⟩ := reads_none hr
    exact ⟨v, w, run_append_owned_none (P := Tryd.prog) (w := w) base 30 30 5 i0 1 Tryd.underlying30 hi v n xs hown, by simpa using hown, Grow.refl w v⟩
  | some x => exact run_append_mine (P := Tryd.prog) w base 30 30 5 i0 (.int .u8 0) 1 1 Tryd.underlying30 hi hz0 hz1 hz2 rfl (by decide) v n xs hown x len cap (ys.map (Value.int .u8)) (by rw [List.length_map, hr.length, Nat.mul_one]) (reads_src hr) (one_u8 ys) (by unfold maxLen; omega) (by omega) hb
theorem own_kept {w w' : World} {base e size n : Nat} {v : Value} {xs : List Value} (h : w.ownsRow base e size v n xs) (hb : Below w.heap.size w w') : w'.ownsRow base e size v n xs :=
  h.kept (row := none) ⟨hb.os, hb.tape, hb.output, hb.size, fun k hk _ => hb.block k hk⟩ (by cases hv : v.ownBlock <;> simp)
theorem own_mono {w : World} {base base' e size n : Nat} {v : Value} {xs : List Value} (h : w.ownsRow base e size v n xs) (hb : base' ≤ base) : w.ownsRow base' e size v n xs := by
  refine ⟨h.1, h.2.imp id ?_⟩
  rintro ⟨g, cap, cur, h1, h2, h3⟩
  exact ⟨g, cap, cur, h1, Nat.le_trans hb h2, h3⟩
theorem own_shape {w : World} {base e size n : Nat} {v : Value} {xs : List Value} (h : w.ownsRow base e size v n xs) : ∃ a c, v = .slice a n c := by
  rcases h.2 with ⟨rfl, rfl⟩ | ⟨g, cap, cur, rfl, _⟩
  · exact ⟨none, 0, rfl⟩
  · exact ⟨_, _, rfl⟩
/-- Appending bytes that can be read in W to what was built since W. -/
theorem cat (W : World) (v : Value) (n : Nat) (xs : List Int) (w1 : World) (a : Option Addr) (len cap : Nat) (ys : List Int) (hown : w1.ownsRow W.heap.size 5 1 v n (xs.map (Value.int .u8))) (hb : Below W.heap.size W w1) (hr : Reads W a len cap ys) (hn : n + len ≤ 140737488355328) :
    ∃ v' w', (Builtin.append_ #[30, 30] 30 #[v, .slice a len cap]).run Tryd.prog w1 = .ok v' w' ∧ w'.ownsRow W.heap.size 5 1 v' (n + len) ((xs ++ ys).map (Value.int .u8)) ∧ Below W.heap.size W w' := by
  obtain ⟨v', w', h1, h2, h3⟩ := append_bytes W.heap.size v n _ w1 a len cap ys hown hb.size (reads_kept hr hb) hn
  refine ⟨v', w', h1, by rw [List.map_append]; exact h2, hb.trans (h3.below hb.size (fun k hk => (hown.lt k hk).1))⟩
theorem own_empty (W : World) : (W.alloc (.cells #[] 5)).ownsRow W.heap.size 5 1 (.slice (some ⟨W.heap.size, 0, none⟩) 0 0) 0 (([] : List Int).map (Value.int .u8)) :=
  World.ownsRow_made W #[] 0 (Nat.le_refl _) (by unfold maxLen; omega) rfl
end Go.Proofs.YtlkdcdmdkncjoaaDoor
