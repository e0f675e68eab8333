/-
  What holds of bytes wherever they lie: rows that can be read, rows of one's own, appending to them. Nothing of the program's functions.
  Plain mathematics for the layer quote: characters of UTF-8 (how wide the first one is; how many there are), quoted texts and their parts. Nothing of the program.
  Plain mathematics for words: bytes by place, lines and columns, scanning, the words of a text; nothing of the program.
-/
import Derived.Test.YtidimdbnnnpplaaDoorRows
import Derived.RowKit
import Derived.Laws.BytesArg
import Derived.WalkKit
import Derived.WalkSpells
import Derived.WalkLawsBesides
import Derived.Outline
import Derived.Below
import Derived.WalkMore
import Derived.Laws.MakeOwn
import Derived.OwnWalk
import Derived.Laws.AppendOwnNone
import Derived.OpenShut
namespace Go.Proofs.YtidimdbnnnpplaaDoor
open Go.RowKit
set_option maxRecDepth 1000000

theorem strOfNums_inj : ∀ (xs ys : List Int), (∀ x ∈ xs, 0 ≤ x ∧ x ≤ 255) → (∀ x ∈ ys, 0 ≤ x ∧ x ≤ 255) → strOfNums xs = strOfNums ys → xs = ys := by
  intro xs ys hx hy h
  have h1 : (strOfNums xs).data.toList = (strOfNums ys).data.toList := by rw [h]
  rw [strOfNums_data, strOfNums_data] at h1
  clear h
  induction xs generalizing ys with
  | nil => cases ys with
    | nil => rfl
    | cons y r => simp at h1
  | cons x r ih => cases ys with
    | nil => simp at h1
    | cons y s =>
      simp only [List.map_cons, List.cons.injEq] at h1
      have a := hx x (by simp)
      have b := hy y (by simp)
      have h2 : (UInt8.ofNat x.toNat).toNat = (UInt8.ofNat y.toNat).toNat := by rw [h1.1]
      simp only [UInt8.toNat_ofNat'] at h2
      rw [ih s (fun z hz => hx z (by simp [hz])) (fun z hz => hy z (by simp [hz])) h1.2]
      congr 1
      omega
theorem drop_at {xs : List Int} {j : Nat} (h : j < xs.length) : xs.drop j = xs[j]?.getD 0 :: xs.drop (j + 1) := by
  rw [List.drop_eq_getElem_cons h]
  simp [h]
theorem ret_int {k : IntKind} {a b : Int} (h : a = b) : Ending.returned (.int k a) = .returned (.int k b) := by rw [h]
theorem ret_bool {a b : Bool} (h : a = b) : Ending.returned (.bool a) = .returned (.bool b) := by rw [h]
theorem hid {p : Prop} (h : p) : Hid p := h
/-- A slice of bytes that can be read: its bytes are xs. -/
structure Reads (w : World) (a : Option Addr) (len cap : Nat) (xs : List Int) : Prop where
  length : xs.length = len
  le : len ≤ cap
  max : cap ≤ 9223372036854775807
  bd : ∀ i, 0 ≤ xs.getD i 0 ∧ xs.getD i 0 ≤ 255
  cells : (len = 0 ∧ (a = none → cap = 0)) ∨ ∃ b off, a = some ⟨b, off, none⟩ ∧ ∀ i, i < len → w.cell? ⟨b, off + i, none⟩ = some (.int .u8 (xs.getD i 0))
theorem conv {w : World} {a : Option Addr} {len cap : Nat} {xs : List Int} (h : Reads w a len cap xs) : (convert 83 9 (.slice a len cap)).run Tryd.prog w = .ok (.string (strOfNums xs)) w := by
  rcases h.cells with ⟨h0, _⟩ | ⟨b, off, rfl, hc⟩
  · subst h0
    have hx : xs = [] := List.eq_nil_of_length_eq_zero h.length
    subst hx
    cases a with
    | none => rw [run_convert_bytes_nil w 83 5 Tryd.underlying83 Tryd.underlying5 0 cap 9 Tryd.underlying9]; rfl
    | some x =>
      rw [run_convert_bytes_string w 83 9 5 _ 0 cap Tryd.underlying83 Tryd.underlying5 Tryd.underlying9, run_bytesToString w _ 0 cap [] (by simp [loadCells, loadCellsFrom])]
      rfl
  · exact run_convert_bytes_arg w 83 5 Tryd.underlying83 Tryd.underlying5 b off len cap xs h.length hc 9 Tryd.underlying9
theorem bd_mem {xs : List Int} (h : ∀ i, 0 ≤ xs.getD i 0 ∧ xs.getD i 0 ≤ 255) : ∀ x ∈ xs, 0 ≤ x ∧ x ≤ 255 := by
  intro x hx
  obtain ⟨i, hi, rfl⟩ := List.mem_iff_getElem.1 hx
  have := h i
  simpa [hi] using this
theorem Tryd.info5 : (Tryd.prog.info? 5).map (fun i => (i.zero, i.size, i.bytes)) = some (some (.int .u8 0), 1, 1) := by kernel_rfl
theorem bd_get {xs : List Int} (h : ∀ x ∈ xs, 0 ≤ x ∧ x ≤ 255) : ∀ i, 0 ≤ xs.getD i 0 ∧ xs.getD i 0 ≤ 255 := by
  intro i
  by_cases hi : i < xs.length
  · have := h xs[i] (List.getElem_mem hi)
    simpa [hi] using this
  · simp [hi]
theorem own_reads {w : World} {base n : Nat} {v : Value} {xs : List Int} (h : w.ownsRow base 5 1 v n (xs.map (Value.int .u8))) (hb : ∀ x ∈ xs, 0 ≤ x ∧ x ≤ 255) :
    ∃ a cap, v = .slice a n cap ∧ Reads w a n cap xs := by
  have hl : xs.length = n := by simpa using h.1
  rcases h.2 with ⟨rfl, h0⟩ | ⟨g, cap, cur, rfl, hbg, hg, hnc, hcm, hcs, htake⟩
  · subst h0
    exact ⟨none, 0, rfl, hl, Nat.le_refl _, by omega, bd_get hb, .inl ⟨rfl, fun _ => rfl⟩⟩
  · refine ⟨_, cap, rfl, hl, hnc, by unfold maxLen at hcm; omega, bd_get hb, .inr ⟨g, 0, rfl, fun i hi => ?_⟩⟩
    have hx : (xs.map (Value.int .u8))[i]? = some (.int .u8 (xs.getD i 0)) := by simp [show i < xs.length by omega]
    have := h.cells (g := g) rfl i _ hx
    have hadd : (⟨g, 0, none⟩ : Addr).add i = ⟨g, 0 + i, none⟩ := by unfold Addr.add; split <;> simp_all
    rwa [hadd] at this
theorem reads_kept {w w' : World} {a : Option Addr} {len cap : Nat} {xs : List Int} (h : Reads w a len cap xs) (hb : Below w.heap.size w w') : Reads w' a len cap xs := by
  refine ⟨h.length, h.le, h.max, h.bd, ?_⟩
  rcases h.cells with h0 | ⟨b, off, rfl, hc⟩
  · exact .inl h0
  · exact .inr ⟨b, off, rfl, fun i hi => by rw [hb.cell (p := ⟨b, off + i, none⟩) (World.block_lt_of_cell? _ _ (hc i hi))]; exact hc i hi⟩
theorem below_alloc {w : World} (o : Obj) : Below w.heap.size w (w.alloc o) := (Below.refl _ _).alloc (Nat.le_refl _) o
theorem below_trans {w w1 w2 : World} (h1 : Below w.heap.size w w1) (h2 : Below w1.heap.size w1 w2) : Below w.heap.size w w2 := h1.trans (h2.mono h1.size)
/-- A row that has just been laid. -/
theorem reads_new (w : World) (xs : List Int) (hb : ∀ x ∈ xs, 0 ≤ x ∧ x ≤ 255) (hm : xs.length ≤ 9223372036854775807) : Reads (w.alloc (.cells (xs.map (Value.int .u8)).toArray 5)) (some ⟨w.heap.size, 0, none⟩) xs.length xs.length xs := by
  refine ⟨rfl, Nat.le_refl _, hm, bd_get hb, .inr ⟨w.heap.size, 0, rfl, fun i hi => ?_⟩⟩
  rw [World.cell?_alloc_at _ _ _ _ rfl]
  simp [hi]
/-- WHAT THE WALK IS TOLD OF A SLICE OF INTEGERS THAT CAME IN: it is nil; or it leads to a row of 'cap' cells, the numbers 'zs' (the first 'len' are its elements, the rest its spare room), each fitting its kind. -/
def IsRow (k : IntKind) (w : World) (a : Option Addr) (len cap : Nat) (zs : List Int) : Prop :=
  (a = none ∧ len = 0 ∧ cap = 0 ∧ zs = []) ∨
  ∃ x, a = some x ∧ len ≤ cap ∧ cap ≤ maxLen ∧ zs.length = cap ∧ (∀ i, i < zs.length → w.cell? (x.add i) = some (.int k (zs.getD i 0))) ∧ ∀ n ∈ zs, (Lit.int k n).wf = true
theorem isRow_reads {w : World} {a : Option Addr} {len cap : Nat} {zs : List Int} (h : IsRow .u8 w a len cap zs) : Reads w a len cap (zs.take len) := by
  rcases h with ⟨rfl, rfl, rfl, rfl⟩ | ⟨x, rfl, hl, hm, hz, hcell, hwz⟩
  · exact ⟨rfl, Nat.le_refl _, by omega, by simp, .inl ⟨rfl, fun _ => rfl⟩⟩
  · have hb : ∀ x ∈ zs.take len, 0 ≤ x ∧ x ≤ 255 := fun x hx => bounds_u8 (hwz x (List.mem_of_mem_take hx))
    refine ⟨by simp; omega, hl, by unfold maxLen at hm; omega, bd_get hb, ?_⟩
    by_cases h0 : len = 0
    · exact .inl ⟨h0, fun e => by cases e⟩
    · obtain ⟨b, off, spot⟩ := x
      have hc := hcell 0 (by omega)
      have hspot : spot = none := by simpa [Addr.add] using World.cell?_spot hc
      subst hspot
      refine .inr ⟨b, off, rfl, fun i hi => ?_⟩
      have hadd : (⟨b, off, none⟩ : Addr).add i = ⟨b, off + i, none⟩ := by unfold Addr.add; split <;> simp_all
      have := hcell i (by omega)
      rw [hadd] at this
      rw [this]
      simp [hi]
theorem reads_nil (w : World) : Reads w none 0 0 [] := ⟨rfl, Nat.le_refl _, by omega, by simp, .inl ⟨rfl, fun _ => rfl⟩⟩
theorem byte_of (n : Int) : IntKind.u8.wrap n = n % 256 := by simp [IntKind.wrap, IntKind.bits, IntKind.signed]
theorem reads_src {w : World} {x : Addr} {len cap : Nat} {xs : List Int} (h : Reads w (some x) len cap xs) : ∀ j u, (xs.map (Value.int .u8))[j]? = some u → w.cell? (x.add j) = some u := by
  intro j u hu
  have hlen := h.length
  have hj : j < xs.length := by
    rcases Nat.lt_or_ge j xs.length with h' | h'
    · exact h'
    · rw [List.getElem?_eq_none (by simpa using h')] at hu; cases hu
  rcases h.cells with ⟨h0, _⟩ | ⟨b, off, e, hc⟩
  · omega
  · cases e
    have hadd : (⟨b, off, none⟩ : Addr).add j = ⟨b, off + j, none⟩ := by unfold Addr.add; split <;> simp_all
    rw [hadd, hc j (by omega)]
    simp [hj] at hu ⊢
    exact hu
theorem one_u8 (xs : List Int) : ∀ u ∈ xs.map (Value.int .u8), u.oneCell' = true := by
  intro u hu
  obtain ⟨x, _, rfl⟩ := List.mem_map.1 hu
  rfl
theorem reads_none {w : World} {len cap : Nat} {xs : List Int} (h : Reads w none len cap xs) : len = 0 ∧ cap = 0 ∧ xs = [] := by
  rcases h.cells with ⟨h0, h1⟩ | ⟨b, off, e, _⟩
  · exact ⟨h0, h1 rfl, List.eq_nil_of_length_eq_zero (by rw [h.length, h0])⟩
  · cases e
/-- From w to w' the slice v became v': every old block but v's own is as it was, and v' lies in v's block or in a new one. -/
structure Grow (w w' : World) (v v' : Value) : Prop where
  os : w'.os = w.os
  tape : w'.tape = w.tape
  output : w'.output = w.output
  size : w.heap.size ≤ w'.heap.size
  block : ∀ k, k < w.heap.size → v.ownBlock ≠ some k → w'.heap[k]? = w.heap[k]?
  own : v'.ownBlock = v.ownBlock ∨ ∀ k, v'.ownBlock = some k → w.heap.size ≤ k
theorem Grow.refl (w : World) (v : Value) : Grow w w v v := ⟨rfl, rfl, rfl, Nat.le_refl _, fun _ _ _ => rfl, .inl rfl⟩
theorem Grow.trans {w w1 w2 : World} {v v1 v2 : Value} (h : Grow w w1 v v1) (g : Grow w1 w2 v1 v2) : Grow w w2 v v2 := by
  refine ⟨g.os.trans h.os, g.tape.trans h.tape, g.output.trans h.output, Nat.le_trans h.size g.size, fun k hk hv => ?_, ?_⟩
  · rw [g.block k (Nat.lt_of_lt_of_le hk h.size) ?_, h.block k hk hv]
    intro e
    rcases h.own with h1 | h1
    · exact hv (h1.symm.trans e)
    · have := h1 k e; omega
  · rcases g.own with g1 | g1
    · rcases h.own with h1 | h1
      · exact .inl (g1.trans h1)
      · exact .inr fun k hk => h1 k (g1.symm.trans hk)
    · exact .inr fun k hk => Nat.le_trans h.size (g1 k hk)
theorem Grow.ofBelow {w w' : World} {v : Value} (h : Below w.heap.size w w') : Grow w w' v v :=
  ⟨h.os, h.tape, h.output, h.size, fun k hk _ => h.block k hk, .inl rfl⟩
theorem Grow.alloc {w w' : World} {v v' : Value} (h : Grow w w' v v') (o : Obj) : Grow w (w'.alloc o) v v' := h.trans (Grow.ofBelow (below_alloc o))
/-- What lies below B stays, where v lies from B on. -/
theorem Grow.below {w w' : World} {v v' : Value} {B : Nat} (h : Grow w w' v v') (hB : B ≤ w.heap.size) (hv : ∀ k, v.ownBlock = some k → B ≤ k) : Below B w w' :=
  ⟨h.os, h.tape, h.output, h.size, fun k hk => h.block k (by omega) (fun e => by have := hv k e; omega)⟩
theorem run_append_mine {P : Program} (w : World) (base : Nat) (t ty e : TypeId) (i : TypeInfo) (z : Value) (size bytes : Nat) (ht : P.underlying t = some (.slice e)) (hi : P.info? e = some i) (hz : i.zero = some z)
    (hsize : i.size = size) (hby : i.bytes = bytes) (hzs : z.cells.size = size) (hsz : 0 < size)
    (v : Value) (n : Nat) (xs : List Value) (hown : w.ownsRow base e size v n xs)
    (a : Addr) (m c : Nat) (news : List Value) (hl : news.length = m * size) (hnews : ∀ j u, news[j]? = some u → w.cell? (a.add j) = some u) (h1 : ∀ u ∈ news, u.oneCell' = true)
    (h63 : n + m ≤ maxLen) (hbytes : (n + m) * bytes ≤ 140737488355328) (hbase : base ≤ w.heap.size) :
    ∃ v' w', (Builtin.append_ #[t, t] ty #[v, .slice (some a) m c]).run P w = .ok v' w' ∧ w'.ownsRow base e size v' (n + m) (xs ++ news) ∧ Grow w w' v v' := by
  obtain ⟨v', w', hr, ho, hg, hn⟩ := run_append_own (P := P) w base t ty e i z size bytes ht hi hz hsize hby hzs hsz v n xs hown a m c news hl hnews h1 h63 hbytes hbase
  refine ⟨v', w', hr, ho, hg.os, hg.tape, hg.output, hg.size, fun k hk hv => hg.block k hk (fun e => hv e.symm), ?_⟩
  have hown0 := hown
  rcases hown.2 with ⟨rfl, rfl⟩ | ⟨g, cap, cur, rfl, hbg, hgg, hnc, hcm, hcs, htake⟩
  · have hx : xs = [] := List.eq_nil_of_length_eq_zero (by simpa using hown.1)
    subst hx
    obtain ⟨v2, w2, hr2, ho2, _, _⟩ := run_append_own (P := P) w w.heap.size t ty e i z size bytes ht hi hz hsize hby hzs hsz _ 0 [] (World.ownsRow_nil _ _ _ _) a m c news hl hnews h1 h63 hbytes (Nat.le_refl _)
    rw [hr] at hr2
    cases hr2
    exact .inr fun k hk => (ho2.lt k hk).1
  · subst hsize
    subst hby
    by_cases hroom : n + m ≤ cap
    · have hfit : n * i.size + news.length ≤ cur.size := by rw [hl, hcs, ← Nat.add_mul]; exact Nat.mul_le_mul_right _ hroom
      have hr2 := run_append_room (P := P) w t ty e i ht hi g n cap cur hgg a m c news hl hnews h1 hroom hfit
      rw [hr] at hr2
      cases hr2
      exact .inl rfl
    · have holds : ∀ j u, xs[j]? = some u → w.cell? ((⟨g, 0, none⟩ : Addr).add j) = some u := hown.cells (g := g) rfl
      have hsmall : n + m ≤ 9223372036854775807 := by simp only [maxLen] at h63; omega
      have hr2 := run_append_grow (P := P) w t ty e i z ht hi hz ⟨g, 0, none⟩ n cap xs hown.1 holds a m c news hl hnews (by omega) (by omega) (growslice_fits (by omega) hbytes)
      rw [hr] at hr2
      cases hr2
      refine .inr fun k hk => ?_
      simp [Value.ownBlock] at hk
      omega
theorem wpList_append_ran {P : Program} {w : World} {ops : Array Oper} {rest : List Oper} {o : Oper} {a : Act} {Q : Exit → Act → World → Prop} (hgd : o.guard = none) (s x : Operand) (t ty : TypeId)
    (ho : o.op = .call { callee := .builtin .append, args := #[s, x], argTypes := #[t, t] }) (hty : o.type = ty) (v xv v' : Value) (w' : World) (hs : a.eval s = v) (hx : a.eval x = xv)
    (hr : (Builtin.append_ #[t, t] ty #[v, xv]).run P w = .ok v' w') (h : wpList P ops Q rest (a.put o.dst v') w') : wpList P ops Q (o :: rest) a w := by
  subst hty
  refine wpList_plain hgd fun K hK => ?_
  unfold Oper.wp
  simp [execOp, ho, resolve, invoke, builtin, hs, hx, hr, Result.andThen]
  exact hK _ _ h
/-- One byte more, laid in a block of its own first. -/
theorem append_byte (base : Nat) (v : Value) (n : Nat) (xs : List Value) (w : World) (x : Int) (hown : w.ownsRow base 5 1 v n xs) (hb : base ≤ w.heap.size) (hn : n + 1 ≤ 140737488355328) :
    ∃ v' w', (Builtin.append_ #[83, 83] 83 #[v, .slice (some ⟨w.heap.size, 0, none⟩) 1 1]).run Tryd.prog (w.alloc (.cells #[.int .u8 x] 5)) = .ok v' w' ∧ w'.ownsRow base 5 1 v' (n + 1) (xs ++ [.int .u8 x]) ∧ Grow w w' v v' := by
  obtain ⟨i0, hi, hz0, hz1, hz2⟩ := info_parts Tryd.info5
  obtain ⟨v', w', hr, ho, hg⟩ := run_append_mine (P := Tryd.prog) (w.alloc (.cells #[.int .u8 x] 5)) base 83 83 5 i0 (.int .u8 0) 1 1 Tryd.underlying83 hi hz0 hz1 hz2 rfl (by decide) v n xs (hown.alloc _) ⟨w.heap.size, 0, none⟩ 1 1 [.int .u8 x] rfl (cell_one_new _ _ _) (fun u hu => by simp at hu; subst hu; rfl) (by unfold maxLen; omega) (by omega) (by simp; omega)
  exact ⟨v', w', hr, ho, ((Grow.refl w v).alloc _).trans hg⟩
/-- A slice's bytes, from wherever they lie. -/
theorem append_bytes (base : Nat) (v : Value) (n : Nat) (xs : List Value) (w : World) (a : Option Addr) (len cap : Nat) (ys : List Int) (hown : w.ownsRow base 5 1 v n xs) (hb : base ≤ w.heap.size) (hr : Reads w a len cap ys) (hn : n + len ≤ 140737488355328) :
    ∃ v' w', (Builtin.append_ #[83, 83] 83 #[v, .slice a len cap]).run Tryd.prog w = .ok v' w' ∧ w'.ownsRow base 5 1 v' (n + len) (xs ++ ys.map (Value.int .u8)) ∧ Grow w w' v v' := by
  obtain ⟨i0, hi, hz0, hz1, hz2⟩ := info_parts Tryd.info5
  cases a with
  | none =>
    obtain ⟨rfl, rfl, rfl⟩ := reads_none hr
    exact ⟨v, w, run_append_owned_none (P := Tryd.prog) (w := w) base 83 83 5 i0 1 Tryd.underlying83 hi v n xs hown, by simpa using hown, Grow.refl w v⟩
  | some x => exact run_append_mine (P := Tryd.prog) w base 83 83 5 i0 (.int .u8 0) 1 1 Tryd.underlying83 hi hz0 hz1 hz2 rfl (by decide) v n xs hown x len cap (ys.map (Value.int .u8)) (by rw [List.length_map, hr.length, Nat.mul_one]) (reads_src hr) (one_u8 ys) (by unfold maxLen; omega) (by omega) hb
theorem own_kept {w w' : World} {base e size n : Nat} {v : Value} {xs : List Value} (h : w.ownsRow base e size v n xs) (hb : Below w.heap.size w w') : w'.ownsRow base e size v n xs :=
  h.kept (row := none) ⟨hb.os, hb.tape, hb.output, hb.size, fun k hk _ => hb.block k hk⟩ (by cases hv : v.ownBlock <;> simp)
theorem own_mono {w : World} {base base' e size n : Nat} {v : Value} {xs : List Value} (h : w.ownsRow base e size v n xs) (hb : base' ≤ base) : w.ownsRow base' e size v n xs := by
  refine ⟨h.1, h.2.imp id ?_⟩
  rintro ⟨g, cap, cur, h1, h2, h3⟩
  exact ⟨g, cap, cur, h1, Nat.le_trans hb h2, h3⟩
theorem own_shape {w : World} {base e size n : Nat} {v : Value} {xs : List Value} (h : w.ownsRow base e size v n xs) : ∃ a c, v = .slice a n c := by
  rcases h.2 with ⟨rfl, rfl⟩ | ⟨g, cap, cur, rfl, _⟩
  · exact ⟨none, 0, rfl⟩
  · exact ⟨_, _, rfl⟩
/-- Appending bytes that can be read in W to what was built since W. -/
theorem cat (W : World) (v : Value) (n : Nat) (xs : List Int) (w1 : World) (a : Option Addr) (len cap : Nat) (ys : List Int) (hown : w1.ownsRow W.heap.size 5 1 v n (xs.map (Value.int .u8))) (hb : Below W.heap.size W w1) (hr : Reads W a len cap ys) (hn : n + len ≤ 140737488355328) :
    ∃ v' w', (Builtin.append_ #[83, 83] 83 #[v, .slice a len cap]).run Tryd.prog w1 = .ok v' w' ∧ w'.ownsRow W.heap.size 5 1 v' (n + len) ((xs ++ ys).map (Value.int .u8)) ∧ Below W.heap.size W w' := by
  obtain ⟨v', w', h1, h2, h3⟩ := append_bytes W.heap.size v n _ w1 a len cap ys hown hb.size (reads_kept hr hb) hn
  refine ⟨v', w', h1, by rw [List.map_append]; exact h2, hb.trans (h3.below hb.size (fun k hk => (hown.lt k hk).1))⟩
theorem own_empty (W : World) : (W.alloc (.cells #[] 5)).ownsRow W.heap.size 5 1 (.slice (some ⟨W.heap.size, 0, none⟩) 0 0) 0 (([] : List Int).map (Value.int .u8)) :=
  World.ownsRow_made W #[] 0 (Nat.le_refl _) (by unfold maxLen; omega) rfl
end Go.Proofs.YtidimdbnnnpplaaDoor
namespace Go.Proofs.YtidimdbnnnpplaaDoor
open Go.RowKit
set_option maxRecDepth 1000000

/-- n more bytes of a character whose bits so far are v: all its bits; -1, if one of them is no such byte. -/
def ctF : List Int → Nat → Int → Int
  | _, 0, v => v
  | [], _ + 1, _ => -1
  | d :: r, n + 1, v => if d < 128 ∨ 192 ≤ d then -1 else ctF r n (v * 64 + d - 128)
/-- How wide a character is that begins with c (0: none does), the bits that c gives, and the least number that is written so wide. -/
def szF (c : Int) : Nat := if c < 128 then 1 else if c < 192 then 0 else if c < 224 then 2 else if c < 240 then 3 else if c < 248 then 4 else 0
def v0F (c : Int) : Int := if c < 128 then c else if c < 224 then c - 192 else if c < 240 then c - 224 else c - 240
def lowF (c : Int) : Int := if c < 128 then 0 else if c < 224 then 128 else if c < 240 then 2048 else 65536
def okV (v low : Int) : Bool := decide (low ≤ v ∧ v ≤ 1114111 ∧ ¬ (55296 ≤ v ∧ v ≤ 57343))
/-- How wide the first character is; 0: there is none. -/
def chr : List Int → Nat
  | [] => 0
  | c :: r => if szF c = 0 then 0 else if okV (ctF r (szF c - 1) (v0F c)) (lowF c) then szF c else 0
def rnF : Nat → List Int → Int → Int
  | 0, _, n => n
  | f + 1, l, n => if l = [] then n else if chr l = 0 then -1 else rnF f (l.drop (chr l)) (n + 1)
/-- How many characters; -1: it is no UTF-8. -/
def rn (xs : List Int) : Int := rnF xs.length xs 0

theorem szF_le (c : Int) : szF c ≤ 4 := by unfold szF; (repeat' split) <;> omega
theorem chr_cons (c : Int) (r : List Int) : chr (c :: r) = if szF c = 0 then 0 else if okV (ctF r (szF c - 1) (v0F c)) (lowF c) then szF c else 0 := rfl
theorem chr_le (l : List Int) : chr l ≤ 4 := by
  cases l with
  | nil => simp [chr]
  | cons c r => rw [chr_cons]; have := szF_le c; (repeat' split) <;> omega
theorem ctF_len : ∀ (n : Nat) (r : List Int) (v : Int), 0 ≤ v → 0 ≤ ctF r n v → n ≤ r.length
  | 0, _, _, _, _ => Nat.zero_le _
  | n + 1, [], v, _, h => by simp [ctF] at h
  | n + 1, d :: r, v, hv, h => by
    unfold ctF at h
    split at h
    · omega
    · have := ctF_len n r _ (by omega) h
      simp; omega
theorem v0F_nonneg {c : Int} (h0 : 0 ≤ c) (h : szF c ≠ 0) : 0 ≤ v0F c := by
  unfold szF at h; unfold v0F
  repeat' split
  all_goals (repeat' split at h)
  all_goals omega
theorem lowF_nonneg (c : Int) : 0 ≤ lowF c := by unfold lowF; (repeat' split) <;> omega
theorem chr_len {l : List Int} (hb : ∀ x ∈ l, 0 ≤ x ∧ x ≤ 255) : chr l ≤ l.length := by
  cases l with
  | nil => simp [chr]
  | cons c r =>
    rw [chr_cons]
    split
    · simp
    · rename_i hs
      split
      · rename_i hv
        have h0 := hb c (by simp)
        have hl := lowF_nonneg c
        simp [okV] at hv
        have := ctF_len (szF c - 1) r (v0F c) (v0F_nonneg h0.1 hs) (by omega)
        simp; omega
      · simp
theorem ctF_append : ∀ (n : Nat) (r m : List Int) (v : Int), n ≤ r.length → ctF (r ++ m) n v = ctF r n v
  | 0, r, m, _, _ => by cases r <;> cases m <;> rfl
  | n + 1, [], m, v, h => by simp at h
  | n + 1, d :: r, m, v, h => by
    simp only [List.cons_append, ctF]
    split
    · rfl
    · exact ctF_append n r m _ (by simpa using h)
theorem chr_append {l m : List Int} (hb : ∀ x ∈ l, 0 ≤ x ∧ x ≤ 255) (h : chr l ≠ 0) : chr (l ++ m) = chr l := by
  cases l with
  | nil => simp [chr] at h
  | cons c r =>
    have hl := chr_len hb
    simp only [List.cons_append]
    rw [chr_cons] at h hl ⊢
    rw [chr_cons]
    split
    · rfl
    · rename_i hs
      rw [if_neg hs] at h hl
      split at h
      · rename_i hv
        rw [if_pos hv] at hl
        rw [if_pos hv, ctF_append _ _ _ _ (by simp at hl; omega), if_pos hv]
      · exact absurd rfl h
theorem rnF_add : ∀ (f : Nat) (l : List Int) (n k : Int), 0 ≤ n → 0 ≤ k → rnF f l n ≠ -1 → rnF f l (n + k) = rnF f l n + k
  | 0, _, _, _, _, _, _ => rfl
  | f + 1, l, n, k, hn, hk, h => by
    unfold rnF at h ⊢
    by_cases h1 : l = []
    · simp [h1]
    · rw [if_neg h1] at h ⊢
      rw [if_neg h1]
      by_cases h2 : chr l = 0
      · simp [h2] at h
      · rw [if_neg h2] at h ⊢
        rw [if_neg h2, show n + k + 1 = n + 1 + k by omega, rnF_add f _ (n + 1) k (by omega) hk h]
theorem rnF_nil (f : Nat) (n : Int) : rnF f [] n = n := by cases f <;> simp [rnF]
theorem rnF_fuel : ∀ (f g : Nat) (l : List Int) (n : Int), l.length ≤ f → l.length ≤ g → rnF f l n = rnF g l n
  | 0, g, l, n, h, _ => by
    have : l = [] := List.eq_nil_of_length_eq_zero (by omega)
    subst this; rw [rnF_nil, rnF_nil]
  | f + 1, 0, l, n, _, h => by
    have : l = [] := List.eq_nil_of_length_eq_zero (by omega)
    subst this; rw [rnF_nil, rnF_nil]
  | f + 1, g + 1, l, n, h, h' => by
    unfold rnF
    by_cases h1 : l = []
    · simp [h1]
    · rw [if_neg h1, if_neg h1]
      by_cases h2 : chr l = 0
      · simp [h2]
      · rw [if_neg h2, if_neg h2]
        exact rnF_fuel f g _ _ (by simp; omega) (by simp; omega)
theorem rnF_range : ∀ (f : Nat) (l : List Int) (n : Int), 0 ≤ n → rnF f l n = -1 ∨ (n ≤ rnF f l n ∧ rnF f l n ≤ n + f)
  | 0, _, n, h => .inr ⟨Int.le_refl _, by simp [rnF]⟩
  | f + 1, l, n, h => by
    unfold rnF
    by_cases h1 : l = []
    · simp [h1]; omega
    · rw [if_neg h1]
      by_cases h2 : chr l = 0
      · simp [h2]
      · rw [if_neg h2]
        rcases rnF_range f (l.drop (chr l)) (n + 1) (by omega) with h | h
        · exact .inl h
        · exact .inr ⟨by omega, by omega⟩
theorem rn_range (xs : List Int) : rn xs = -1 ∨ (0 ≤ rn xs ∧ rn xs ≤ xs.length) := by
  rcases rnF_range xs.length xs 0 (by omega) with h | h
  · exact .inl h
  · exact .inr ⟨h.1, by unfold rn; omega⟩
theorem rnF_append : ∀ (f : Nat) (l m : List Int) (n : Int), (∀ x ∈ l, 0 ≤ x ∧ x ≤ 255) → l.length ≤ f → 0 ≤ n → rnF f l n ≠ -1 → rnF (f + m.length) (l ++ m) n = rnF m.length m (rnF f l n)
  | 0, l, m, n, _, h, _, _ => by
    have : l = [] := List.eq_nil_of_length_eq_zero (by omega)
    subst this; simp [rnF]
  | f + 1, l, m, n, hb, h, hn, hv => by
    have eU : rnF (f + 1) l n = if l = [] then n else if chr l = 0 then -1 else rnF f (l.drop (chr l)) (n + 1) := rfl
    by_cases h1 : l = []
    · subst h1; rw [rnF_nil]; exact rnF_fuel _ _ _ _ (by simp) (by simp)
    · rw [eU, if_neg h1] at hv ⊢
      by_cases h2 : chr l = 0
      · simp [h2] at hv
      · rw [if_neg h2] at hv ⊢
        have hl := chr_len hb
        rw [show f + 1 + m.length = f + m.length + 1 by omega, rnF, if_neg (by simp [h1]), chr_append hb h2, if_neg h2, List.drop_append_of_le_length hl]
        exact rnF_append f _ m _ (fun x hx => hb x (List.mem_of_mem_drop hx)) (by simp; omega) (by omega) hv
/-- Valid texts one behind the other: their characters add up. -/
theorem rn_append {a b : List Int} (ha : ∀ x ∈ a, 0 ≤ x ∧ x ≤ 255) (h1 : 0 ≤ rn a) (h2 : 0 ≤ rn b) : rn (a ++ b) = rn a + rn b := by
  unfold rn at h1 h2 ⊢
  have := rnF_append a.length a b 0 ha (Nat.le_refl _) (by omega) (by omega)
  rw [List.length_append, this]
  have := rnF_add b.length b 0 (rnF a.length a 0) (by omega) h1 (by omega)
  rw [Int.zero_add] at this
  omega

/-! ### Quoted texts -/

def dg (n : Int) : Int := if n < 10 then 48 + n else 87 + n
def qp (c : Int) : List Int :=
  if c = 34 ∨ c = 92 then [92, c] else if c = 10 then [92, 110] else if c = 9 then [92, 116] else if c = 13 then [92, 114] else if c < 32 ∨ 126 < c then [92, 120, dg (c / 16), dg (c % 16)] else [c]
def qt (xs : List Int) : List Int := 34 :: (xs.flatMap qp ++ [34])
def hx (c : Int) : Int := if 48 ≤ c ∧ c ≤ 57 then c - 48 else if 97 ≤ c ∧ c ≤ 102 then c - 87 else if 65 ≤ c ∧ c ≤ 70 then c - 55 else -1
/-- The part that a text begins with: its byte and its size; size 0: it is none. -/
def dgP : List Int → Int × Nat
  | a :: b :: _ => if hx a < 0 ∨ hx b < 0 then (0, 0) else (hx a * 16 + hx b, 4)
  | _ => (0, 0)
def sgP : List Int → Int × Nat
  | [] => (0, 0)
  | d :: r => if d = 34 ∨ d = 92 then (d, 2) else if d = 110 then (10, 2) else if d = 116 then (9, 2) else if d = 114 then (13, 2) else if d = 120 then dgP r else (0, 0)
def qpart : List Int → Int × Nat
  | [] => (0, 0)
  | c :: r => if c = 34 ∨ c = 10 then (0, 0) else if c = 92 then sgP r else (c, 1)
def uqF : Nat → List Int → List Int → Option (List Int)
  | 0, _, acc => some acc
  | f + 1, l, acc => if l = [] then some acc else if (qpart l).2 = 0 then none else uqF f (l.drop (qpart l).2) (acc ++ [(qpart l).1])
def parts (xs : List Int) : List Int := (xs.drop 1).take (xs.length - 2)
/-- The bytes of a quoted text; none: it is none. -/
def uq (xs : List Int) : Option (List Int) :=
  if xs.length < 2 ∨ xs.getD 0 0 ≠ 34 ∨ xs.getD (xs.length - 1) 0 ≠ 34 then none else uqF (parts xs).length (parts xs) []

theorem qp_bd {c : Int} (h0 : 0 ≤ c) (h1 : c ≤ 255) : ∀ x ∈ qp c, 32 ≤ x ∧ x ≤ 126 := by
  unfold qp dg
  repeat' split
  all_goals simp
  all_goals omega
theorem qp_len (c : Int) : 1 ≤ (qp c).length ∧ (qp c).length ≤ 4 := by
  unfold qp
  repeat' split
  all_goals simp
theorem hx_dg {n : Int} (h0 : 0 ≤ n) (h1 : n < 16) : hx (dg n) = n := by
  unfold hx dg
  repeat' split
  all_goals omega
theorem pt_qp {c : Int} (h0 : 0 ≤ c) (h1 : c ≤ 255) (m : List Int) : qpart (qp c ++ m) = (c, (qp c).length) := by
  by_cases hq : c = 34 ∨ c = 92
  · have e : qp c = [92, c] := by unfold qp; rw [if_pos hq]
    rw [e]; simp [qpart, sgP, hq]
  by_cases hn : c = 10
  · subst hn; simp [qp, qpart, sgP]
  by_cases ht : c = 9
  · subst ht; simp [qp, qpart, sgP]
  by_cases hr : c = 13
  · subst hr; simp [qp, qpart, sgP]
  by_cases hx' : c < 32 ∨ 126 < c
  · have e : qp c = [92, 120, dg (c / 16), dg (c % 16)] := by unfold qp; rw [if_neg hq, if_neg hn, if_neg ht, if_neg hr, if_pos hx']
    rw [e]
    have e1 := hx_dg (n := c / 16) (by omega) (by omega)
    have e2 := hx_dg (n := c % 16) (by omega) (by omega)
    have e3 : dgP (dg (c / 16) :: dg (c % 16) :: m) = (c, 4) := by
      show (if hx (dg (c / 16)) < 0 ∨ hx (dg (c % 16)) < 0 then ((0 : Int), 0) else (hx (dg (c / 16)) * 16 + hx (dg (c % 16)), 4)) = (c, 4)
      rw [e1, e2, if_neg (by omega)]
      exact congrArg (·, 4) (by omega)
    simpa [qpart, sgP] using e3
  · have e : qp c = [c] := by unfold qp; rw [if_neg hq, if_neg hn, if_neg ht, if_neg hr, if_neg hx']
    rw [e]
    simp at hq
    simp [qpart, hq, hn]
theorem qt_bd {xs : List Int} (h : ∀ x ∈ xs, 0 ≤ x ∧ x ≤ 255) : ∀ x ∈ qt xs, 32 ≤ x ∧ x ≤ 126 := by
  intro x hx
  unfold qt at hx
  rcases List.mem_cons.1 hx with rfl | hx
  · omega
  rcases List.mem_append.1 hx with hx | hx
  · obtain ⟨c, hc, hx⟩ := List.mem_flatMap.1 hx
    have := h c hc
    exact qp_bd this.1 this.2 x hx
  · simp at hx; omega
theorem flat_len (xs : List Int) : xs.length ≤ (xs.flatMap qp).length ∧ (xs.flatMap qp).length ≤ 4 * xs.length := by
  induction xs with
  | nil => simp
  | cons c r ih => have := qp_len c; simp only [List.flatMap_cons, List.length_append, List.length_cons]; omega
theorem qt_len (xs : List Int) : (qt xs).length = (xs.flatMap qp).length + 2 := by simp [qt]
theorem parts_qt (xs : List Int) : parts (qt xs) = xs.flatMap qp := by
  unfold parts
  rw [qt_len]
  simp [qt]
theorem uqF_flat : ∀ (xs : List Int) (f : Nat) (acc : List Int), (∀ x ∈ xs, 0 ≤ x ∧ x ≤ 255) → (xs.flatMap qp).length ≤ f → uqF f (xs.flatMap qp) acc = some (acc ++ xs)
  | [], f, acc, _, _ => by cases f <;> simp [uqF]
  | c :: r, f, acc, hb, hf => by
    have hc := hb c (by simp)
    have hl := qp_len c
    simp only [List.flatMap_cons, List.length_append] at hf ⊢
    obtain ⟨g, rfl⟩ : ∃ g, f = g + 1 := ⟨f - 1, by omega⟩
    have hne : qp c ++ r.flatMap qp ≠ [] := fun e => by have := congrArg List.length e; rw [List.length_append] at this; simp only [List.length_nil] at this; omega
    rw [uqF, if_neg hne, pt_qp hc.1 hc.2, if_neg (by show ¬ (qp c).length = 0; omega), List.drop_left, uqF_flat r g _ (fun x hx => hb x (by simp [hx])) (by omega)]
    simp
/-- Unquoting what was quoted. -/
theorem uq_qt {xs : List Int} (h : ∀ x ∈ xs, 0 ≤ x ∧ x ≤ 255) : uq (qt xs) = some xs := by
  have h1 : (qt xs).length = (xs.flatMap qp).length + 2 := qt_len xs
  unfold uq
  have h2 : (qt xs).getD 0 0 = 34 := by simp [qt]
  have h3 : (qt xs).getD ((qt xs).length - 1) 0 = 34 := by
    rw [h1]; unfold qt
    simp
  rw [h2, h3, if_neg (by simp; omega), parts_qt, uqF_flat xs _ _ h (Nat.le_refl _)]
  rfl
end Go.Proofs.YtidimdbnnnpplaaDoor
namespace Go.Proofs.YtidimdbnnnpplaaDoor
open Go.RowKit
set_option maxRecDepth 1000000

/-- The byte at a place; behind the end 0. -/
def bt (xs : List Int) (i : Nat) : Int := xs[i]?.getD 0
theorem bt_end {xs : List Int} {i : Nat} (h : xs.length ≤ i) : bt xs i = 0 := by unfold bt; rw [List.getElem?_eq_none h]; rfl
theorem bt_bd {xs : List Int} (hb : ∀ x ∈ xs, 0 ≤ x ∧ x ≤ 255) (i : Nat) : 0 ≤ bt xs i ∧ bt xs i ≤ 255 := by
  by_cases h : i < xs.length
  · have := hb xs[i] (List.getElem_mem h)
    simpa [bt, h] using this
  · rw [bt_end (by omega)]; omega

/-- Lines and columns. -/
def lnA (xs : List Int) : Nat → Int
  | 0 => 1
  | i + 1 => if bt xs i = 10 then lnA xs i + 1 else lnA xs i
def clA (xs : List Int) : Nat → Int
  | 0 => 1
  | i + 1 => if bt xs i = 10 then 1 else clA xs i + 1
theorem lnA_bd (xs : List Int) : ∀ i, 1 ≤ lnA xs i ∧ lnA xs i ≤ i + 1
  | 0 => by simp [lnA]
  | i + 1 => by have := lnA_bd xs i; unfold lnA; split <;> omega
theorem clA_bd (xs : List Int) : ∀ i, 1 ≤ clA xs i ∧ clA xs i ≤ i + 1
  | 0 => by simp [clA]
  | i + 1 => by have := clA_bd xs i; unfold clA; split <;> omega
theorem lnA_nl {xs : List Int} {i : Nat} (h : bt xs i = 10) : lnA xs (i + 1) = lnA xs i + 1 := by rw [lnA, if_pos h]
theorem lnA_on {xs : List Int} {i : Nat} (h : bt xs i ≠ 10) : lnA xs (i + 1) = lnA xs i := by rw [lnA, if_neg h]
theorem clA_nl {xs : List Int} {i : Nat} (h : bt xs i = 10) : clA xs (i + 1) = 1 := by rw [clA, if_pos h]
theorem clA_on {xs : List Int} {i : Nat} (h : bt xs i ≠ 10) : clA xs (i + 1) = clA xs i + 1 := by rw [clA, if_neg h]

/-- The first place from i on at which p does not hold. -/
def scF (p : Int → Bool) (xs : List Int) : Nat → Nat → Nat
  | 0, i => i
  | f + 1, i => if p (bt xs i) = true then scF p xs f (i + 1) else i
def sc (p : Int → Bool) (xs : List Int) (i : Nat) : Nat := scF p xs (xs.length - i) i
theorem sc_end {p : Int → Bool} {xs : List Int} {i : Nat} (h : xs.length ≤ i) : sc p xs i = i := by unfold sc; rw [show xs.length - i = 0 by omega]; rfl
theorem sc_stop {p : Int → Bool} {xs : List Int} {i : Nat} (h : p (bt xs i) = false) : sc p xs i = i := by
  unfold sc
  cases xs.length - i with
  | zero => rfl
  | succ f => rw [scF, if_neg (by simp [h])]
theorem sc_step {p : Int → Bool} {xs : List Int} {i : Nat} (hi : i < xs.length) (h : p (bt xs i) = true) : sc p xs i = sc p xs (i + 1) := by
  unfold sc
  rw [show xs.length - i = (xs.length - (i + 1)) + 1 by omega, scF, if_pos h]
theorem scF_le (p : Int → Bool) (xs : List Int) : ∀ f i, i ≤ scF p xs f i ∧ scF p xs f i ≤ i + f
  | 0, i => by simp [scF]
  | f + 1, i => by
    have := scF_le p xs f (i + 1)
    unfold scF
    split <;> omega
theorem sc_le (p : Int → Bool) (xs : List Int) (i : Nat) : i ≤ sc p xs i ∧ (i ≤ xs.length → sc p xs i ≤ xs.length) := by
  have := scF_le p xs (xs.length - i) i
  unfold sc
  omega
/-- Where a comment ends: behind the next star and slash. -/
def bkF (xs : List Int) : Nat → Nat → Option Nat
  | 0, _ => none
  | f + 1, i => if bt xs i = 42 ∧ bt xs (i + 1) = 47 then some (i + 2) else bkF xs f (i + 1)
def bk (xs : List Int) (i : Nat) : Option Nat := bkF xs (xs.length - i) i
theorem bk_end {xs : List Int} {i : Nat} (h : xs.length ≤ i) : bk xs i = none := by unfold bk; rw [show xs.length - i = 0 by omega]; rfl
theorem bk_last {xs : List Int} {i : Nat} (h : xs.length ≤ i + 1) : bk xs i = none := by
  by_cases h1 : xs.length ≤ i
  · exact bk_end h1
  · unfold bk
    rw [show xs.length - i = 0 + 1 by omega, bkF, if_neg]
    · rfl
    · rintro ⟨_, h2⟩
      rw [bt_end h] at h2
      omega
theorem bk_here {xs : List Int} {i : Nat} (h1 : bt xs i = 42) (h2 : bt xs (i + 1) = 47) : bk xs i = some (i + 2) := by
  have hi : i < xs.length := by
    rcases Nat.lt_or_ge i xs.length with h | h
    · exact h
    · rw [bt_end h] at h1; omega
  unfold bk
  rw [show xs.length - i = (xs.length - (i + 1)) + 1 by omega, bkF, if_pos ⟨h1, h2⟩]
theorem bk_step {xs : List Int} {i : Nat} (hi : i < xs.length) (h : ¬ (bt xs i = 42 ∧ bt xs (i + 1) = 47)) : bk xs i = bk xs (i + 1) := by
  unfold bk
  rw [show xs.length - i = (xs.length - (i + 1)) + 1 by omega, bkF, if_neg h]
theorem bkF_le {xs : List Int} : ∀ f i k, bkF xs f i = some k → i + 2 ≤ k ∧ k ≤ xs.length
  | 0, i, k, h => by simp [bkF] at h
  | f + 1, i, k, h => by
    unfold bkF at h
    split at h
    · rename_i hc
      simp at h
      subst h
      rcases Nat.lt_or_ge (i + 1) xs.length with h2 | h2
      · omega
      · rw [bt_end h2] at hc; omega
    · have := bkF_le f (i + 1) k h; omega
theorem bk_le {xs : List Int} {i k : Nat} (h : bk xs i = some k) : i + 2 ≤ k ∧ k ≤ xs.length := bkF_le _ _ _ h
/-- Where a text ends: behind its second quote. -/
def qeF (xs : List Int) : Nat → Nat → Option Nat
  | 0, _ => none
  | f + 1, i => if xs.length ≤ i then none else if bt xs i = 92 then qeF xs f (i + 2) else if bt xs i = 34 then some (i + 1) else qeF xs f (i + 1)
def qe (xs : List Int) (i : Nat) : Option Nat := qeF xs (xs.length + 1 - i) i
theorem qeF_fuel {xs : List Int} : ∀ f g i, xs.length < f + i → xs.length < g + i → qeF xs f i = qeF xs g i
  | 0, 0, i, _, _ => rfl
  | 0, g + 1, i, h, _ => by rw [qeF, qeF, if_pos (by omega)]
  | f + 1, 0, i, _, h => by rw [qeF, qeF, if_pos (by omega)]
  | f + 1, g + 1, i, h1, h2 => by
    unfold qeF
    rw [qeF_fuel f g (i + 2) (by omega) (by omega), qeF_fuel f g (i + 1) (by omega) (by omega)]
theorem qe_un {xs : List Int} {i : Nat} (h : i < xs.length) : qe xs i = if bt xs i = 92 then qe xs (i + 2) else if bt xs i = 34 then some (i + 1) else qe xs (i + 1) := by
  unfold qe
  rw [show xs.length + 1 - i = (xs.length - i) + 1 by omega, qeF, if_neg (by omega), qeF_fuel _ (xs.length + 1 - (i + 2)) (i + 2) (by omega) (by omega), qeF_fuel _ (xs.length + 1 - (i + 1)) (i + 1) (by omega) (by omega)]
theorem qe_end {xs : List Int} {i : Nat} (h : xs.length ≤ i) : qe xs i = none := by
  unfold qe
  cases xs.length + 1 - i with
  | zero => rfl
  | succ f => rw [qeF, if_pos h]
theorem qe_back {xs : List Int} {i : Nat} (h : i < xs.length) (hc : bt xs i = 92) : qe xs i = qe xs (i + 2) := by rw [qe_un h, if_pos hc]
theorem qe_mark {xs : List Int} {i : Nat} (h : i < xs.length) (hc : bt xs i = 34) : qe xs i = some (i + 1) := by rw [qe_un h, if_neg (by omega), if_pos hc]
theorem qe_step {xs : List Int} {i : Nat} (h : i < xs.length) (h1 : bt xs i ≠ 92) (h2 : bt xs i ≠ 34) : qe xs i = qe xs (i + 1) := by rw [qe_un h, if_neg h1, if_neg h2]
theorem qeF_le {xs : List Int} : ∀ f i k, qeF xs f i = some k → i + 1 ≤ k ∧ k ≤ xs.length
  | 0, i, k, h => by simp [qeF] at h
  | f + 1, i, k, h => by
    unfold qeF at h
    split at h
    · simp at h
    · split at h
      · have := qeF_le f (i + 2) k h; omega
      · split at h
        · simp at h; omega
        · have := qeF_le f (i + 1) k h; omega
theorem qe_le {xs : List Int} {i k : Nat} (h : qe xs i = some k) : i + 1 ≤ k ∧ k ≤ xs.length := qeF_le _ _ _ h

/-- The signs of words. -/
def isBl (c : Int) : Bool := decide (c = 32 ∨ c = 9 ∨ c = 13 ∨ c = 10)
def letB (c : Int) : Bool := decide (97 ≤ c ∧ c ≤ 122 ∨ 65 ≤ c ∧ c ≤ 90 ∨ c = 95)
def digB (c : Int) : Bool := decide (48 ≤ c ∧ c ≤ 57)
def hexB (c : Int) : Bool := decide (0 ≤ hx c)
def namB (c : Int) : Bool := letB c || digB c
def notNl (c : Int) : Bool := decide (c ≠ 10)
def sgnB (c : Int) : Bool := decide (c = 123 ∨ c = 125 ∨ c = 91 ∨ c = 93 ∨ c = 40 ∨ c = 41 ∨ c = 60 ∨ c = 62 ∨ c = 61 ∨ c = 59 ∨ c = 44 ∨ c = 46 ∨ c = 45 ∨ c = 58 ∨ c = 63)

/-- A part of a text. -/
def cut (xs : List Int) (a b : Nat) : List Int := (xs.take b).drop a
theorem cut_length (xs : List Int) (a b : Nat) (h : b ≤ xs.length) : (cut xs a b).length = b - a := by unfold cut; simp; omega
theorem cut_bd {xs : List Int} (hb : ∀ x ∈ xs, 0 ≤ x ∧ x ≤ 255) (a b : Nat) : ∀ x ∈ cut xs a b, 0 ≤ x ∧ x ≤ 255 := fun x hx => hb x (List.mem_of_mem_take (List.mem_of_mem_drop hx))
theorem cut_snoc {xs : List Int} {a b : Nat} (h : b < xs.length) (hab : a ≤ b) : cut xs a (b + 1) = cut xs a b ++ [bt xs b] := by
  unfold cut bt
  rw [List.take_succ_eq_append_getElem h, List.drop_append_of_le_length (by simp; omega)]
  simp [h]
theorem cut_nil (xs : List Int) (a : Nat) : cut xs a a = [] := by unfold cut; apply List.drop_eq_nil_of_le; simp; omega

/-- Digits' value by a base. -/
def vlF (b : Int) : Int → List Int → Int
  | a, [] => a
  | a, c :: r => vlF b (a * b + hx c) r
theorem vlF_app (b : Int) : ∀ (l r : List Int) (a : Int), vlF b a (l ++ r) = vlF b (vlF b a l) r
  | [], _, _ => rfl
  | _ :: l, r, _ => vlF_app b l r _
def vl (b : Int) (xs : List Int) (fr k : Nat) : Int := vlF b 0 (cut xs fr k)
theorem vl_self (b : Int) (xs : List Int) (fr : Nat) : vl b xs fr fr = 0 := by unfold vl; rw [cut_nil]; rfl
theorem vl_snoc {b : Int} {xs : List Int} {fr k : Nat} (h : k < xs.length) (hk : fr ≤ k) : vl b xs fr (k + 1) = vl b xs fr k * b + hx (bt xs k) := by
  unfold vl; rw [cut_snoc h hk, vlF_app]; rfl

/-- What stands at a place: something to go over, a word, a fault. -/
inductive Tk where
  | skip (j : Nat)
  | word (kind : Int) (e : Nat) (n : Int) (b : List Int)
  | bad (code : Int)
/-- Is it a number by base 16? Where its digits begin, its base, its digits. -/
def hxA (xs : List Int) (i : Nat) : Bool := decide (bt xs i = 48 ∧ bt xs (i + 1) = 120)
def nfr (xs : List Int) (i : Nat) : Nat := if hxA xs i = true then i + 2 else i
def nbs (xs : List Int) (i : Nat) : Int := if hxA xs i = true then 16 else 10
def ndg (xs : List Int) (i : Nat) : Int → Bool := if hxA xs i = true then hexB else digB
def nen (xs : List Int) (i : Nat) : Nat := sc (ndg xs i) xs (nfr xs i)
def tokN (xs : List Int) (i : Nat) : Tk :=
  if nen xs i = nfr xs i ∨ namB (bt xs (nen xs i)) = true then .bad 11
  else if 18446744073709551616 ≤ vl (nbs xs i) xs (nfr xs i) (nen xs i) then .bad 7
  else .word 2 (nen xs i) (vl (nbs xs i) xs (nfr xs i) (nen xs i)) []
def tokQ (xs : List Int) (i : Nat) : Tk := match qe xs (i + 1) with
  | none => .bad 11
  | some k => match uq (cut xs i k) with
    | none => .bad 11
    | some b => .word 3 k 0 b
def tokC (xs : List Int) (i : Nat) : Tk :=
  if bt xs (i + 1) = 47 then .skip (sc notNl xs (i + 1))
  else if bt xs (i + 1) = 42 then (match bk xs (i + 2) with
    | none => .bad 11
    | some k => .skip k)
  else .bad 11
def tok (xs : List Int) (i : Nat) : Tk :=
  if isBl (bt xs i) = true then .skip (i + 1)
  else if bt xs i = 47 then tokC xs i
  else if letB (bt xs i) = true then .word 1 (sc namB xs (i + 1)) 0 []
  else if digB (bt xs i) = true then tokN xs i
  else if bt xs i = 34 then tokQ xs i
  else if sgnB (bt xs i) = true then .word 4 (i + 1) 0 []
  else .bad 11
/-- A word: its kind, where it begins and ends, its number, its bytes. -/
structure Wd where
  kind : Int
  st : Nat
  en : Nat
  n : Int
  b : List Int
/-- The words, or the fault and its place. -/
structure Out where
  ws : List Wd
  code : Int
  pos : Nat
def lxF (xs : List Int) : Nat → Nat → List Wd → Out
  | 0, _, acc => ⟨acc, 0, 0⟩
  | f + 1, i, acc => if xs.length ≤ i then ⟨acc ++ [⟨5, i, i, 0, []⟩], 0, 0⟩ else match tok xs i with
    | .skip j => lxF xs f j acc
    | .bad c => ⟨[], c, i⟩
    | .word k e n b => lxF xs f e (acc ++ [⟨k, i, e, n, b⟩])
def lxAt (xs : List Int) (i : Nat) (acc : List Wd) : Out := lxF xs (xs.length + 1 - i) i acc
def lx (xs : List Int) : Out := lxAt xs 0 []

/-- A token goes on, within the text. -/
def Tk.ok (xs : List Int) (i : Nat) : Tk → Prop
  | .skip j => i < j ∧ j ≤ xs.length
  | .word _ e _ _ => i < e ∧ e ≤ xs.length
  | .bad _ => True
theorem tok_ok {xs : List Int} {i : Nat} (hi : i < xs.length) : (tok xs i).ok xs i := by
  unfold tok
  split
  · exact ⟨by omega, by omega⟩
  · split
    · unfold tokC
      split
      · rename_i h2
        have h3 : i + 1 < xs.length := by
          rcases Nat.lt_or_ge (i + 1) xs.length with h | h
          · exact h
          · rw [bt_end h] at h2; omega
        have := sc_le notNl xs (i + 1)
        exact ⟨by omega, this.2 (by omega)⟩
      · split
        · split
          · trivial
          · rename_i k hk
            have := bk_le hk
            exact ⟨by omega, this.2⟩
        · trivial
    · split
      · have := sc_le namB xs (i + 1)
        exact ⟨by omega, this.2 (by omega)⟩
      · split
        · rename_i hd
          unfold tokN
          split
          · trivial
          · split
            · trivial
            · rename_i hn _
              have hne : nen xs i ≠ nfr xs i := fun h => hn (.inl h)
              have hf : nfr xs i ≤ xs.length ∧ i ≤ nfr xs i := by
                unfold nfr hxA
                split
                · rename_i h2
                  simp at h2
                  rcases Nat.lt_or_ge (i + 1) xs.length with h | h
                  · omega
                  · have := h2.2; rw [bt_end h] at this; omega
                · omega
              have := sc_le (ndg xs i) xs (nfr xs i)
              have h2 := this.2 hf.1
              unfold nen at hne ⊢
              exact ⟨by omega, h2⟩
        · split
          · unfold tokQ
            split
            · trivial
            · rename_i k hk
              have := qe_le hk
              split
              · trivial
              · exact ⟨by omega, this.2⟩
          · split
            · exact ⟨by omega, by omega⟩
            · trivial
theorem tok_skip {xs : List Int} {i j : Nat} (hi : i < xs.length) (h : tok xs i = .skip j) : i < j ∧ j ≤ xs.length := by have := tok_ok hi; rw [h] at this; exact this
theorem tok_word {xs : List Int} {i e : Nat} {k n : Int} {b : List Int} (hi : i < xs.length) (h : tok xs i = .word k e n b) : i < e ∧ e ≤ xs.length := by have := tok_ok hi; rw [h] at this; exact this
theorem lxF_fuel {xs : List Int} : ∀ f g i acc, xs.length < f + i → xs.length < g + i → i ≤ xs.length → lxF xs f i acc = lxF xs g i acc
  | 0, _, i, _, h, _, h2 => by omega
  | _, 0, i, _, _, h, h2 => by omega
  | f + 1, g + 1, i, acc, h1, h2, h3 => by
    unfold lxF
    by_cases hi : xs.length ≤ i
    · rw [if_pos hi, if_pos hi]
    · rw [if_neg hi, if_neg hi]
      cases ht : tok xs i with
      | skip j =>
        have := tok_skip (by omega) ht
        exact lxF_fuel f g j acc (by omega) (by omega) this.2
      | bad c => rfl
      | word k e n b =>
        have := tok_word (by omega) ht
        exact lxF_fuel f g e _ (by omega) (by omega) this.2
theorem lxAt_end {xs : List Int} {acc : List Wd} {i : Nat} (h : i = xs.length) : lxAt xs i acc = ⟨acc ++ [⟨5, i, i, 0, []⟩], 0, 0⟩ := by
  subst h
  unfold lxAt
  rw [show xs.length + 1 - xs.length = 0 + 1 by omega, lxF, if_pos (Nat.le_refl _)]
theorem lxAt_skip {xs : List Int} {acc : List Wd} {i j : Nat} (hi : i < xs.length) (h : tok xs i = .skip j) : lxAt xs i acc = lxAt xs j acc := by
  have := tok_skip hi h
  unfold lxAt
  rw [show xs.length + 1 - i = (xs.length - i) + 1 by omega, lxF, if_neg (by omega), h]
  exact lxF_fuel _ _ _ _ (by omega) (by omega) this.2
theorem lxAt_bad {xs : List Int} {acc : List Wd} {i : Nat} {c : Int} (hi : i < xs.length) (h : tok xs i = .bad c) : lxAt xs i acc = ⟨[], c, i⟩ := by
  unfold lxAt
  rw [show xs.length + 1 - i = (xs.length - i) + 1 by omega, lxF, if_neg (by omega), h]
theorem lxAt_word {xs : List Int} {acc : List Wd} {i e : Nat} {k n : Int} {b : List Int} (hi : i < xs.length) (h : tok xs i = .word k e n b) : lxAt xs i acc = lxAt xs e (acc ++ [⟨k, i, e, n, b⟩]) := by
  have := tok_word hi h
  unfold lxAt
  rw [show xs.length + 1 - i = (xs.length - i) + 1 by omega, lxF, if_neg (by omega), h]
  exact lxF_fuel _ _ _ _ (by omega) (by omega) this.2
end Go.Proofs.YtidimdbnnnpplaaDoor
