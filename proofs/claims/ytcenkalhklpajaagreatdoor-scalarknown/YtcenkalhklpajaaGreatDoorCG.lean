/-
  What holds of bytes wherever they lie: rows that can be read, rows of one's own, appending to them. Nothing of the program's functions.
  What comes in, opened: bytes, strings; and what the bound on it says.
  Plain mathematics for the layer wire: the digits of a varint, reading them, zigzag; nothing of the program.
  Walks over the functions of the layer wire that only compute: zigzag, the places, the number of a varint's bytes.
  Walks over the functions that read a varint, the program's and the document's.
  Walks over 'same' and over the functions that write a varint, the program's and the document's.
  What is owned can be read, and stays; 'awake' returns true.
  A slice that came in can be read; the walk of the law WireVarints.
  Plain mathematics for tags; nothing of the program.
  Walks over tags, the program's and the document's.
  Walks over reading tags, the program's and the document's.
  The walk of the law WireTags.
-/
import Derived.Test.YtcenkalhklpajaaGreatDoorRows
import Derived.RowKit
import Derived.Laws.BytesArg
import Derived.WalkKit
import Derived.WalkSpells
import Derived.WalkLawsBesides
import Derived.Outline
import Derived.Below
import Derived.WalkMore
import Derived.Laws.MakeOwn
import Derived.OwnWalk
import Derived.Laws.AppendOwnNone
import Derived.OpenShut
import Derived.ProofKit
import Derived.ShutString
import Derived.Lib.SmallJoins
import Derived.Lib.VarintBits
import Derived.Lib.Zigzag
namespace Go.Proofs.YtcenkalhklpajaaGreatDoor
open Go.RowKit
set_option maxRecDepth 1000000

theorem strOfNums_inj : ∀ (xs ys : List Int), (∀ x ∈ xs, 0 ≤ x ∧ x ≤ 255) → (∀ x ∈ ys, 0 ≤ x ∧ x ≤ 255) → strOfNums xs = strOfNums ys → xs = ys := by
  intro xs ys hx hy h
  have h1 : (strOfNums xs).data.toList = (strOfNums ys).data.toList := by rw [h]
  rw [strOfNums_data, strOfNums_data] at h1
  clear h
  induction xs generalizing ys with
  | nil => cases ys with
    | nil => rfl
    | cons y r => simp at h1
  | cons x r ih => cases ys with
    | nil => simp at h1
    | cons y s =>
      simp only [List.map_cons, List.cons.injEq] at h1
      have a := hx x (by simp)
      have b := hy y (by simp)
      have h2 : (UInt8.ofNat x.toNat).toNat = (UInt8.ofNat y.toNat).toNat := by rw [h1.1]
      simp only [UInt8.toNat_ofNat'] at h2
      rw [ih s (fun z hz => hx z (by simp [hz])) (fun z hz => hy z (by simp [hz])) h1.2]
      congr 1
      omega
theorem drop_at {xs : List Int} {j : Nat} (h : j < xs.length) : xs.drop j = xs[j]?.getD 0 :: xs.drop (j + 1) := by
  rw [List.drop_eq_getElem_cons h]
  simp [h]
theorem ret_int {k : IntKind} {a b : Int} (h : a = b) : Ending.returned (.int k a) = .returned (.int k b) := by rw [h]
theorem ret_bool {a b : Bool} (h : a = b) : Ending.returned (.bool a) = .returned (.bool b) := by rw [h]
theorem hid {p : Prop} (h : p) : Hid p := h
/-- A slice of bytes that can be read: its bytes are xs. -/
structure Reads (w : World) (a : Option Addr) (len cap : Nat) (xs : List Int) : Prop where
  length : xs.length = len
  le : len ≤ cap
  max : cap ≤ 9223372036854775807
  bd : ∀ i, 0 ≤ xs.getD i 0 ∧ xs.getD i 0 ≤ 255
  cells : (len = 0 ∧ (a = none → cap = 0)) ∨ ∃ b off, a = some ⟨b, off, none⟩ ∧ ∀ i, i < len → w.cell? ⟨b, off + i, none⟩ = some (.int .u8 (xs.getD i 0))
theorem conv {w : World} {a : Option Addr} {len cap : Nat} {xs : List Int} (h : Reads w a len cap xs) : (convert 27 9 (.slice a len cap)).run Tryz.prog w = .ok (.string (strOfNums xs)) w := by
  rcases h.cells with ⟨h0, _⟩ | ⟨b, off, rfl, hc⟩
  · subst h0
    have hx : xs = [] := List.eq_nil_of_length_eq_zero h.length
    subst hx
    cases a with
    | none => rw [run_convert_bytes_nil w 27 5 Tryz.underlying27 Tryz.underlying5 0 cap 9 Tryz.underlying9]; rfl
    | some x =>
      rw [run_convert_bytes_string w 27 9 5 _ 0 cap Tryz.underlying27 Tryz.underlying5 Tryz.underlying9, run_bytesToString w _ 0 cap [] (by simp [loadCells, loadCellsFrom])]
      rfl
  · exact run_convert_bytes_arg w 27 5 Tryz.underlying27 Tryz.underlying5 b off len cap xs h.length hc 9 Tryz.underlying9
theorem bd_mem {xs : List Int} (h : ∀ i, 0 ≤ xs.getD i 0 ∧ xs.getD i 0 ≤ 255) : ∀ x ∈ xs, 0 ≤ x ∧ x ≤ 255 := by
  intro x hx
  obtain ⟨i, hi, rfl⟩ := List.mem_iff_getElem.1 hx
  have := h i
  simpa [hi] using this
theorem Tryz.info5 : (Tryz.prog.info? 5).map (fun i => (i.zero, i.size, i.bytes)) = some (some (.int .u8 0), 1, 1) := by kernel_rfl
theorem bd_get {xs : List Int} (h : ∀ x ∈ xs, 0 ≤ x ∧ x ≤ 255) : ∀ i, 0 ≤ xs.getD i 0 ∧ xs.getD i 0 ≤ 255 := by
  intro i
  by_cases hi : i < xs.length
  · have := h xs[i] (List.getElem_mem hi)
    simpa [hi] using this
  · simp [hi]
theorem own_reads {w : World} {base n : Nat} {v : Value} {xs : List Int} (h : w.ownsRow base 5 1 v n (xs.map (Value.int .u8))) (hb : ∀ x ∈ xs, 0 ≤ x ∧ x ≤ 255) :
    ∃ a cap, v = .slice a n cap ∧ Reads w a n cap xs := by
  have hl : xs.length = n := by simpa using h.1
  rcases h.2 with ⟨rfl, h0⟩ | ⟨g, cap, cur, rfl, hbg, hg, hnc, hcm, hcs, htake⟩
  · subst h0
    exact ⟨none, 0, rfl, hl, Nat.le_refl _, by omega, bd_get hb, .inl ⟨rfl, fun _ => rfl⟩⟩
  · refine ⟨_, cap, rfl, hl, hnc, by unfold maxLen at hcm; omega, bd_get hb, .inr ⟨g, 0, rfl, fun i hi => ?_⟩⟩
    have hx : (xs.map (Value.int .u8))[i]? = some (.int .u8 (xs.getD i 0)) := by simp [show i < xs.length by omega]
    have := h.cells (g := g) rfl i _ hx
    have hadd : (⟨g, 0, none⟩ : Addr).add i = ⟨g, 0 + i, none⟩ := by unfold Addr.add; split <;> simp_all
    rwa [hadd] at this
theorem reads_kept {w w' : World} {a : Option Addr} {len cap : Nat} {xs : List Int} (h : Reads w a len cap xs) (hb : Below w.heap.size w w') : Reads w' a len cap xs := by
  refine ⟨h.length, h.le, h.max, h.bd, ?_⟩
  rcases h.cells with h0 | ⟨b, off, rfl, hc⟩
  · exact .inl h0
  · exact .inr ⟨b, off, rfl, fun i hi => by rw [hb.cell (p := ⟨b, off + i, none⟩) (World.block_lt_of_cell? _ _ (hc i hi))]; exact hc i hi⟩
theorem below_alloc {w : World} (o : Obj) : Below w.heap.size w (w.alloc o) := (Below.refl _ _).alloc (Nat.le_refl _) o
theorem below_trans {w w1 w2 : World} (h1 : Below w.heap.size w w1) (h2 : Below w1.heap.size w1 w2) : Below w.heap.size w w2 := h1.trans (h2.mono h1.size)
/-- A row that has just been laid. -/
theorem reads_new (w : World) (xs : List Int) (hb : ∀ x ∈ xs, 0 ≤ x ∧ x ≤ 255) (hm : xs.length ≤ 9223372036854775807) : Reads (w.alloc (.cells (xs.map (Value.int .u8)).toArray 5)) (some ⟨w.heap.size, 0, none⟩) xs.length xs.length xs := by
  refine ⟨rfl, Nat.le_refl _, hm, bd_get hb, .inr ⟨w.heap.size, 0, rfl, fun i hi => ?_⟩⟩
  rw [World.cell?_alloc_at _ _ _ _ rfl]
  simp [hi]
/-- WHAT THE WALK IS TOLD OF A SLICE OF INTEGERS THAT CAME IN: it is nil; or it leads to a row of 'cap' cells, the numbers 'zs' (the first 'len' are its elements, the rest its spare room), each fitting its kind. -/
def IsRow (k : IntKind) (w : World) (a : Option Addr) (len cap : Nat) (zs : List Int) : Prop :=
  (a = none ∧ len = 0 ∧ cap = 0 ∧ zs = []) ∨
  ∃ x, a = some x ∧ len ≤ cap ∧ cap ≤ maxLen ∧ zs.length = cap ∧ (∀ i, i < zs.length → w.cell? (x.add i) = some (.int k (zs.getD i 0))) ∧ ∀ n ∈ zs, (Lit.int k n).wf = true
theorem isRow_reads {w : World} {a : Option Addr} {len cap : Nat} {zs : List Int} (h : IsRow .u8 w a len cap zs) : Reads w a len cap (zs.take len) := by
  rcases h with ⟨rfl, rfl, rfl, rfl⟩ | ⟨x, rfl, hl, hm, hz, hcell, hwz⟩
  · exact ⟨rfl, Nat.le_refl _, by omega, by simp, .inl ⟨rfl, fun _ => rfl⟩⟩
  · have hb : ∀ x ∈ zs.take len, 0 ≤ x ∧ x ≤ 255 := fun x hx => bounds_u8 (hwz x (List.mem_of_mem_take hx))
    refine ⟨by simp; omega, hl, by unfold maxLen at hm; omega, bd_get hb, ?_⟩
    by_cases h0 : len = 0
    · exact .inl ⟨h0, fun e => by cases e⟩
    · obtain ⟨b, off, spot⟩ := x
      have hc := hcell 0 (by omega)
      have hspot : spot = none := by simpa [Addr.add] using World.cell?_spot hc
      subst hspot
      refine .inr ⟨b, off, rfl, fun i hi => ?_⟩
      have hadd : (⟨b, off, none⟩ : Addr).add i = ⟨b, off + i, none⟩ := by unfold Addr.add; split <;> simp_all
      have := hcell i (by omega)
      rw [hadd] at this
      rw [this]
      simp [hi]
theorem reads_nil (w : World) : Reads w none 0 0 [] := ⟨rfl, Nat.le_refl _, by omega, by simp, .inl ⟨rfl, fun _ => rfl⟩⟩
theorem byte_of (n : Int) : IntKind.u8.wrap n = n % 256 := by simp [IntKind.wrap, IntKind.bits, IntKind.signed]
theorem reads_src {w : World} {x : Addr} {len cap : Nat} {xs : List Int} (h : Reads w (some x) len cap xs) : ∀ j u, (xs.map (Value.int .u8))[j]? = some u → w.cell? (x.add j) = some u := by
  intro j u hu
  have hlen := h.length
  have hj : j < xs.length := by
    rcases Nat.lt_or_ge j xs.length with h' | h'
    · exact h'
    · rw [List.getElem?_eq_none (by simpa using h')] at hu; cases hu
  rcases h.cells with ⟨h0, _⟩ | ⟨b, off, e, hc⟩
  · omega
  · cases e
    have hadd : (⟨b, off, none⟩ : Addr).add j = ⟨b, off + j, none⟩ := by unfold Addr.add; split <;> simp_all
    rw [hadd, hc j (by omega)]
    simp [hj] at hu ⊢
    exact hu
theorem one_u8 (xs : List Int) : ∀ u ∈ xs.map (Value.int .u8), u.oneCell' = true := by
  intro u hu
  obtain ⟨x, _, rfl⟩ := List.mem_map.1 hu
  rfl
theorem reads_none {w : World} {len cap : Nat} {xs : List Int} (h : Reads w none len cap xs) : len = 0 ∧ cap = 0 ∧ xs = [] := by
  rcases h.cells with ⟨h0, h1⟩ | ⟨b, off, e, _⟩
  · exact ⟨h0, h1 rfl, List.eq_nil_of_length_eq_zero (by rw [h.length, h0])⟩
  · cases e
/-- From w to w' the slice v became v': every old block but v's own is as it was, and v' lies in v's block or in a new one. -/
structure Grow (w w' : World) (v v' : Value) : Prop where
  os : w'.os = w.os
  tape : w'.tape = w.tape
  output : w'.output = w.output
  size : w.heap.size ≤ w'.heap.size
  block : ∀ k, k < w.heap.size → v.ownBlock ≠ some k → w'.heap[k]? = w.heap[k]?
  own : v'.ownBlock = v.ownBlock ∨ ∀ k, v'.ownBlock = some k → w.heap.size ≤ k
theorem Grow.refl (w : World) (v : Value) : Grow w w v v := ⟨rfl, rfl, rfl, Nat.le_refl _, fun _ _ _ => rfl, .inl rfl⟩
theorem Grow.trans {w w1 w2 : World} {v v1 v2 : Value} (h : Grow w w1 v v1) (g : Grow w1 w2 v1 v2) : Grow w w2 v v2 := by
  refine ⟨g.os.trans h.os, g.tape.trans h.tape, g.output.trans h.output, Nat.le_trans h.size g.size, fun k hk hv => ?_, ?_⟩
  · rw [g.block k (Nat.lt_of_lt_of_le hk h.size) ?_, h.block k hk hv]
    intro e
    rcases h.own with h1 | h1
    · exact hv (h1.symm.trans e)
    · have := h1 k e; omega
  · rcases g.own with g1 | g1
    · rcases h.own with h1 | h1
      · exact .inl (g1.trans h1)
      · exact .inr fun k hk => h1 k (g1.symm.trans hk)
    · exact .inr fun k hk => Nat.le_trans h.size (g1 k hk)
theorem Grow.ofBelow {w w' : World} {v : Value} (h : Below w.heap.size w w') : Grow w w' v v :=
  ⟨h.os, h.tape, h.output, h.size, fun k hk _ => h.block k hk, .inl rfl⟩
theorem Grow.alloc {w w' : World} {v v' : Value} (h : Grow w w' v v') (o : Obj) : Grow w (w'.alloc o) v v' := h.trans (Grow.ofBelow (below_alloc o))
/-- What lies below B stays, where v lies from B on. -/
theorem Grow.below {w w' : World} {v v' : Value} {B : Nat} (h : Grow w w' v v') (hB : B ≤ w.heap.size) (hv : ∀ k, v.ownBlock = some k → B ≤ k) : Below B w w' :=
  ⟨h.os, h.tape, h.output, h.size, fun k hk => h.block k (by omega) (fun e => by have := hv k e; omega)⟩
theorem run_append_mine {P : Program} (w : World) (base : Nat) (t ty e : TypeId) (i : TypeInfo) (z : Value) (size bytes : Nat) (ht : P.underlying t = some (.slice e)) (hi : P.info? e = some i) (hz : i.zero = some z)
    (hsize : i.size = size) (hby : i.bytes = bytes) (hzs : z.cells.size = size) (hsz : 0 < size)
    (v : Value) (n : Nat) (xs : List Value) (hown : w.ownsRow base e size v n xs)
    (a : Addr) (m c : Nat) (news : List Value) (hl : news.length = m * size) (hnews : ∀ j u, news[j]? = some u → w.cell? (a.add j) = some u) (h1 : ∀ u ∈ news, u.oneCell' = true)
    (h63 : n + m ≤ maxLen) (hbytes : (n + m) * bytes ≤ 140737488355328) (hbase : base ≤ w.heap.size) :
    ∃ v' w', (Builtin.append_ #[t, t] ty #[v, .slice (some a) m c]).run P w = .ok v' w' ∧ w'.ownsRow base e size v' (n + m) (xs ++ news) ∧ Grow w w' v v' := by
  obtain ⟨v', w', hr, ho, hg, hn⟩ := run_append_own (P := P) w base t ty e i z size bytes ht hi hz hsize hby hzs hsz v n xs hown a m c news hl hnews h1 h63 hbytes hbase
  refine ⟨v', w', hr, ho, hg.os, hg.tape, hg.output, hg.size, fun k hk hv => hg.block k hk (fun e => hv e.symm), ?_⟩
  have hown0 := hown
  rcases hown.2 with ⟨rfl, rfl⟩ | ⟨g, cap, cur, rfl, hbg, hgg, hnc, hcm, hcs, htake⟩
  · have hx : xs = [] := List.eq_nil_of_length_eq_zero (by simpa using hown.1)
    subst hx
    obtain ⟨v2, w2, hr2, ho2, _, _⟩ := run_append_own (P := P) w w.heap.size t ty e i z size bytes ht hi hz hsize hby hzs hsz _ 0 [] (World.ownsRow_nil _ _ _ _) a m c news hl hnews h1 h63 hbytes (Nat.le_refl _)
    rw [hr] at hr2
    cases hr2
    exact .inr fun k hk => (ho2.lt k hk).1
  · subst hsize
    subst hby
    by_cases hroom : n + m ≤ cap
    · have hfit : n * i.size + news.length ≤ cur.size := by rw [hl, hcs, ← Nat.add_mul]; exact Nat.mul_le_mul_right _ hroom
      have hr2 := run_append_room (P := P) w t ty e i ht hi g n cap cur hgg a m c news hl hnews h1 hroom hfit
      rw [hr] at hr2
      cases hr2
      exact .inl rfl
    · have holds : ∀ j u, xs[j]? = some u → w.cell? ((⟨g, 0, none⟩ : Addr).add j) = some u := hown.cells (g := g) rfl
      have hsmall : n + m ≤ 9223372036854775807 := by simp only [maxLen] at h63; omega
      have hr2 := run_append_grow (P := P) w t ty e i z ht hi hz ⟨g, 0, none⟩ n cap xs hown.1 holds a m c news hl hnews (by omega) (by omega) (growslice_fits (by omega) hbytes)
      rw [hr] at hr2
      cases hr2
      refine .inr fun k hk => ?_
      simp [Value.ownBlock] at hk
      omega
theorem wpList_append_ran {P : Program} {w : World} {ops : Array Oper} {rest : List Oper} {o : Oper} {a : Act} {Q : Exit → Act → World → Prop} (hgd : o.guard = none) (s x : Operand) (t ty : TypeId)
    (ho : o.op = .call { callee := .builtin .append, args := #[s, x], argTypes := #[t, t] }) (hty : o.type = ty) (v xv v' : Value) (w' : World) (hs : a.eval s = v) (hx : a.eval x = xv)
    (hr : (Builtin.append_ #[t, t] ty #[v, xv]).run P w = .ok v' w') (h : wpList P ops Q rest (a.put o.dst v') w') : wpList P ops Q (o :: rest) a w := by
  subst hty
  refine wpList_plain hgd fun K hK => ?_
  unfold Oper.wp
  simp [execOp, ho, resolve, invoke, builtin, hs, hx, hr, Result.andThen]
  exact hK _ _ h
/-- One byte more, laid in a block of its own first. -/
theorem append_byte (base : Nat) (v : Value) (n : Nat) (xs : List Value) (w : World) (x : Int) (hown : w.ownsRow base 5 1 v n xs) (hb : base ≤ w.heap.size) (hn : n + 1 ≤ 140737488355328) :
    ∃ v' w', (Builtin.append_ #[27, 27] 27 #[v, .slice (some ⟨w.heap.size, 0, none⟩) 1 1]).run Tryz.prog (w.alloc (.cells #[.int .u8 x] 5)) = .ok v' w' ∧ w'.ownsRow base 5 1 v' (n + 1) (xs ++ [.int .u8 x]) ∧ Grow w w' v v' := by
  obtain ⟨i0, hi, hz0, hz1, hz2⟩ := info_parts Tryz.info5
  obtain ⟨v', w', hr, ho, hg⟩ := run_append_mine (P := Tryz.prog) (w.alloc (.cells #[.int .u8 x] 5)) base 27 27 5 i0 (.int .u8 0) 1 1 Tryz.underlying27 hi hz0 hz1 hz2 rfl (by decide) v n xs (hown.alloc _) ⟨w.heap.size, 0, none⟩ 1 1 [.int .u8 x] rfl (cell_one_new _ _ _) (fun u hu => by simp at hu; subst hu; rfl) (by unfold maxLen; omega) (by omega) (by simp; omega)
  exact ⟨v', w', hr, ho, ((Grow.refl w v).alloc _).trans hg⟩
/-- A slice's bytes, from wherever they lie. -/
theorem append_bytes (base : Nat) (v : Value) (n : Nat) (xs : List Value) (w : World) (a : Option Addr) (len cap : Nat) (ys : List Int) (hown : w.ownsRow base 5 1 v n xs) (hb : base ≤ w.heap.size) (hr : Reads w a len cap ys) (hn : n + len ≤ 140737488355328) :
    ∃ v' w', (Builtin.append_ #[27, 27] 27 #[v, .slice a len cap]).run Tryz.prog w = .ok v' w' ∧ w'.ownsRow base 5 1 v' (n + len) (xs ++ ys.map (Value.int .u8)) ∧ Grow w w' v v' := by
  obtain ⟨i0, hi, hz0, hz1, hz2⟩ := info_parts Tryz.info5
  cases a with
  | none =>
    obtain ⟨rfl, rfl, rfl⟩ := reads_none hr
    exact ⟨v, w, run_append_owned_none (P := Tryz.prog) (w := w) base 27 27 5 i0 1 Tryz.underlying27 hi v n xs hown, by simpa using hown, Grow.refl w v⟩
  | some x => exact run_append_mine (P := Tryz.prog) w base 27 27 5 i0 (.int .u8 0) 1 1 Tryz.underlying27 hi hz0 hz1 hz2 rfl (by decide) v n xs hown x len cap (ys.map (Value.int .u8)) (by rw [List.length_map, hr.length, Nat.mul_one]) (reads_src hr) (one_u8 ys) (by unfold maxLen; omega) (by omega) hb
theorem own_kept {w w' : World} {base e size n : Nat} {v : Value} {xs : List Value} (h : w.ownsRow base e size v n xs) (hb : Below w.heap.size w w') : w'.ownsRow base e size v n xs :=
  h.kept (row := none) ⟨hb.os, hb.tape, hb.output, hb.size, fun k hk _ => hb.block k hk⟩ (by cases hv : v.ownBlock <;> simp)
theorem own_mono {w : World} {base base' e size n : Nat} {v : Value} {xs : List Value} (h : w.ownsRow base e size v n xs) (hb : base' ≤ base) : w.ownsRow base' e size v n xs := by
  refine ⟨h.1, h.2.imp id ?_⟩
  rintro ⟨g, cap, cur, h1, h2, h3⟩
  exact ⟨g, cap, cur, h1, Nat.le_trans hb h2, h3⟩
theorem own_shape {w : World} {base e size n : Nat} {v : Value} {xs : List Value} (h : w.ownsRow base e size v n xs) : ∃ a c, v = .slice a n c := by
  rcases h.2 with ⟨rfl, rfl⟩ | ⟨g, cap, cur, rfl, _⟩
  · exact ⟨none, 0, rfl⟩
  · exact ⟨_, _, rfl⟩
/-- Appending bytes that can be read in W to what was built since W. -/
theorem cat (W : World) (v : Value) (n : Nat) (xs : List Int) (w1 : World) (a : Option Addr) (len cap : Nat) (ys : List Int) (hown : w1.ownsRow W.heap.size 5 1 v n (xs.map (Value.int .u8))) (hb : Below W.heap.size W w1) (hr : Reads W a len cap ys) (hn : n + len ≤ 140737488355328) :
    ∃ v' w', (Builtin.append_ #[27, 27] 27 #[v, .slice a len cap]).run Tryz.prog w1 = .ok v' w' ∧ w'.ownsRow W.heap.size 5 1 v' (n + len) ((xs ++ ys).map (Value.int .u8)) ∧ Below W.heap.size W w' := by
  obtain ⟨v', w', h1, h2, h3⟩ := append_bytes W.heap.size v n _ w1 a len cap ys hown hb.size (reads_kept hr hb) hn
  refine ⟨v', w', h1, by rw [List.map_append]; exact h2, hb.trans (h3.below hb.size (fun k hk => (hown.lt k hk).1))⟩
theorem own_empty (W : World) : (W.alloc (.cells #[] 5)).ownsRow W.heap.size 5 1 (.slice (some ⟨W.heap.size, 0, none⟩) 0 0) 0 (([] : List Int).map (Value.int .u8)) :=
  World.ownsRow_made W #[] 0 (Nat.le_refl _) (by unfold maxLen; omega) rfl
end Go.Proofs.YtcenkalhklpajaaGreatDoor
namespace Go.Proofs.YtcenkalhklpajaaGreatDoor
open Go.ChangeShapes Go.WideShapes Go.ChangeAt Go.RowKit Go.Deep
set_option maxRecDepth 1000000

section
variable {H : Type}
theorem bulk_one (d : DataW H) : 1 ≤ Rows.uptoBulk d := by
  cases d with
  | lit l => cases l <;> simp [Rows.uptoBulk]
  | nil => simp [Rows.uptoBulk]
  | ptr d => simp [Rows.uptoBulk]
  | slice elems spare => simp [Rows.uptoBulk]
  | agg parts => simp [Rows.uptoBulk]
  | iface t d => simp [Rows.uptoBulk]
  | map entries => simp [Rows.uptoBulk]
  | held h => simp [Rows.uptoBulk]
theorem bulk_length (l : List (DataW H)) : l.length ≤ Rows.uptoBulkAll l := by
  induction l with
  | nil => simp [Rows.uptoBulkAll]
  | cons x r ih => have := bulk_one x; simp only [Rows.uptoBulkAll, List.length_cons]; omega
theorem small_le {l : List (DataW H)} (hk : Rows.uptoSmall H l = true) : Rows.uptoBulkAll l ≤ 1048576 := of_decide_eq_true hk
end

section
variable {H : Type} {enc : TypeId × Value → H} {W : World} {spare : Nat → Bool} {held : Bool}

/-- A slice of bytes, opened. -/
theorem bytes_open {fuel : Nat} {v : Value} {y : DataW H × List MemPlace} (hf : DataW.trod enc Tryz.prog W 0 spare held fuel 27 [v] = some y) :
    ∃ a len cap xs, v = .slice a len cap ∧ Reads W a len cap xs ∧ len + 1 ≤ Rows.uptoBulk y.1 := by
  rcases open_ints Tryz.underlying27 Tryz.underlying5 (by kernel_rfl) hf with ⟨hcs, rfl⟩ | ⟨x, l, c, zs, hcs, _, hl, hm, hz, rfl, hcell, hwz⟩
  · simp at hcs
    subst hcs
    exact ⟨none, 0, 0, [], rfl, reads_nil W, by simp [Rows.uptoBulk]⟩
  · simp at hcs
    subst hcs
    have hzl : l ≤ zs.length := by rw [hz]; split <;> omega
    have hb : ∀ x ∈ zs.take l, 0 ≤ x ∧ x ≤ 255 := fun x hx => bounds_u8 (hwz x (List.mem_of_mem_take hx))
    refine ⟨some x, l, c, zs.take l, rfl, ⟨by simp; omega, hl, by unfold maxLen at hm; omega, bd_get hb, ?_⟩, ?_⟩
    · by_cases h0 : l = 0
      · exact .inl ⟨h0, fun e => by cases e⟩
      · obtain ⟨b, off, spot⟩ := x
        have hc := hcell 0 (by omega)
        have hspot : spot = none := by simpa [Addr.add] using World.cell?_spot hc
        subst hspot
        refine .inr ⟨b, off, rfl, fun i hi => ?_⟩
        have hadd : (⟨b, off, none⟩ : Addr).add i = ⟨b, off + i, none⟩ := by unfold Addr.add; split <;> simp_all
        have := hcell i (by omega)
        rw [hadd] at this
        rw [this]
        simp [hi]
    · simp only [Rows.uptoBulk]
      have := bulk_length (lits (H := H) .u8 (zs.take l))
      simp [lits] at this
      have e : (lits (H := H) .u8 (zs.take l)).length = l := by simp [lits]; omega
      have := bulk_length (lits (H := H) .u8 (zs.take l))
      omega
end

/-- The numbers of a string's bytes. -/
def numsS (s : ByteArray) : List Int := s.data.toList.map fun b => (b.toNat : Int)
theorem numsS_str (s : ByteArray) : strOfNums (numsS s) = s := by
  apply ByteArray.ext
  apply Array.ext'
  simp [strOfNums, numsS, Function.comp_def]
theorem numsS_bd (s : ByteArray) : ∀ x ∈ numsS s, 0 ≤ x ∧ x ≤ 255 := by
  intro x hx
  obtain ⟨b, _, rfl⟩ := List.mem_map.1 hx
  have := b.toNat_lt
  omega
theorem numsS_len (s : ByteArray) : (numsS s).length = s.data.toList.length := by simp [numsS]
end Go.Proofs.YtcenkalhklpajaaGreatDoor
namespace Go.Proofs.YtcenkalhklpajaaGreatDoor
open Go.RowKit
set_option maxRecDepth 1000000

/-- The digits of a number, at most f + 1 of them. -/
def pvF : Nat → Int → List Int
  | 0, n => [n]
  | f + 1, n => if n < 128 then [n] else (n % 128 + 128) :: pvF f (n / 128)
def pv (n : Int) : List Int := pvF 9 n

/-- Reading: what is left, which byte it is, what is read so far, the place. -/
def gvF : List Int → Nat → Int → Int → Int × Int × Int
  | [], _, _, _ => (0, 0, 3)
  | c :: r, k, X, at0 => if k = 9 ∧ 1 < c then (0, 0, 4) else if c < 128 then (X + c * 2 ^ (7 * k), at0 + k + 1, 0) else gvF r (k + 1) (X + (c - 128) * 2 ^ (7 * k)) at0
def gv (xs : List Int) (at0 : Nat) : Int × Int × Int := gvF (xs.drop at0) 0 0 at0

def zigF (n : Int) : Int := if 0 ≤ n then 2 * n else -2 * n - 1
def zagF (u : Int) : Int := if u % 2 = 0 then u / 2 else -(u / 2) - 1

theorem pvF_small (f : Nat) {n : Int} (h : n < 128) : pvF f n = [n] := by cases f <;> simp [pvF, h]
theorem pvF_big (f : Nat) {n : Int} (h : ¬ n < 128) : pvF (f + 1) n = (n % 128 + 128) :: pvF f (n / 128) := by simp [pvF, h]
theorem div_lt (f : Nat) {n : Int} (h : n < 128 ^ (f + 1)) : n / 128 < 128 ^ f := Int.ediv_lt_of_lt_mul (by decide) (by rwa [← Int.pow_succ])
theorem lt_ten {n : Int} (h : n < 18446744073709551616) : n < 128 ^ (9 + 1) := by
  have e : (128 : Int) ^ (9 + 1) = 1180591620717411303424 := by decide
  rw [e]; omega
theorem pvF_bd : ∀ (f : Nat) (n : Int), 0 ≤ n → n < 128 ^ (f + 1) → ∀ x ∈ pvF f n, 0 ≤ x ∧ x ≤ 255
  | 0, n, h0, h1, x, hx => by simp [pvF] at hx; subst hx; simp at h1; omega
  | f + 1, n, h0, h1, x, hx => by
    by_cases h : n < 128
    · rw [pvF_small _ h] at hx; simp at hx; subst hx; omega
    · rw [pvF_big _ h] at hx
      rcases List.mem_cons.1 hx with rfl | hx
      · omega
      · exact pvF_bd f _ (by omega) (div_lt _ h1) x hx
theorem pvF_len : ∀ (f : Nat) (n : Int), 1 ≤ (pvF f n).length ∧ (pvF f n).length ≤ f + 1
  | 0, n => by simp [pvF]
  | f + 1, n => by
    by_cases h : n < 128
    · rw [pvF_small _ h]; simp
    · rw [pvF_big _ h]; have := pvF_len f (n / 128); simp; omega
theorem pv_bd {n : Int} (h0 : 0 ≤ n) (h1 : n < 18446744073709551616) : ∀ x ∈ pv n, 0 ≤ x ∧ x ≤ 255 := pvF_bd 9 n h0 (lt_ten h1)
theorem pv_len (n : Int) : 1 ≤ (pv n).length ∧ (pv n).length ≤ 10 := pvF_len 9 n

/-- How many bytes are still to be counted. -/
def cntF (f : Nat) (N : Int) : Int := if N = 0 then 0 else ((pvF f N).length : Int)
theorem cnt_start (n : Int) (h0 : 0 ≤ n) : 1 + cntF 8 (n / 128) = ((pv n).length : Int) := by
  unfold cntF pv
  by_cases h : n < 128
  · rw [pvF_small 9 h, if_pos (by omega)]; rfl
  · rw [pvF_big 8 h, if_neg (by omega)]; simp; omega
theorem cnt_step (f : Nat) (N : Int) (h0 : 0 < N) (h1 : N < 128 ^ (f + 1)) : ∃ g, N / 128 < 128 ^ (g + 1) ∧ 1 + cntF g (N / 128) = cntF f N := by
  unfold cntF
  rw [if_neg (show ¬ N = 0 by omega)]
  by_cases h : N < 128
  · refine ⟨0, by simp; omega, ?_⟩
    rw [pvF_small f h, if_pos (by omega)]
    rfl
  · cases f with
    | zero => simp at h1; omega
    | succ g => exact ⟨g, div_lt _ h1, by rw [pvF_big g h, if_neg (by omega)]; simp; omega⟩
theorem cnt_zero (f : Nat) : cntF f 0 = 0 := by simp [cntF]
theorem cnt_nonneg (f : Nat) (N : Int) : 0 ≤ cntF f N := by unfold cntF; split <;> omega

theorem and127 (n : Int) (h₀ : 0 ≤ n) (h₁ : n < 18446744073709551616) : bits .and .u64 n 127 = n % 128 := bits_mask .u64 64 (by decide) wraps_u64 7 (by decide) n h₀ (by omega)
theorem or128 (n : Int) (h₀ : 0 ≤ n) (h₁ : n < 128) : bits .or .u64 n 128 = n + 128 := u64_orv7 n 128 h₀ h₁ (by decide) (by decide) (by decide)
theorem digit (n : Int) (h₀ : 0 ≤ n) (h₁ : n < 18446744073709551616) : bits .or .u64 (bits .and .u64 n 127) 128 = n % 128 + 128 := by
  rw [and127 n h₀ h₁, or128 _ (by omega) (by omega)]

theorem xor_max (x : Int) (h0 : 0 ≤ x) (h1 : x < 18446744073709551616) : bits .xor .u64 IntKind.u64.max x = 18446744073709551615 - x := by
  obtain ⟨n, rfl⟩ := Int.eq_ofNat_of_zero_le h0
  have e2 : IntKind.u64.max = ((2 ^ 64 - 1 : Nat) : Int) := by decide
  rw [e2, bits_xor_u64_nat _ _ (by decide) (by omega), Lib.xor_ones64 _ (by omega)]
  omega
theorem zig_neg (n : Int) (h0 : -9223372036854775808 ≤ n) (h1 : n < 0) : bits .xor .u64 IntKind.u64.max (IntKind.u64.wrap (IntKind.u64.wrap n * 2)) = zigF n := by
  rw [xor_max _ (by rw [IntKind.wrap_u64]; omega) (by rw [IntKind.wrap_u64]; omega), IntKind.wrap_u64, IntKind.wrap_u64, zigF, if_neg (by omega)]; omega
theorem zag_odd (u : Int) (h0 : 0 ≤ u) (h1 : u < 18446744073709551616) (h2 : u % 2 = 1) : wrap64 (bits .xor .u64 IntKind.u64.max (u / 2)) = zagF u := by
  rw [xor_max _ (by omega) (by omega), zagF, if_neg (by omega)]; unfold wrap64; omega

/-- One byte more, by 'or'. -/
theorem or_step (k : Nat) (hk : k ≤ 9) (X c : Int) (hX0 : 0 ≤ X) (hX : X < 2 ^ (7 * k)) (hc0 : 0 ≤ c) (hc : c < 128) (h9 : k = 9 → c ≤ 1) :
    c * 2 ^ (7 * k) < 18446744073709551616 ∧ 0 ≤ c * 2 ^ (7 * k) ∧ bits .or .u64 X (c * 2 ^ (7 * k)) = X + c * 2 ^ (7 * k) := by
  have e : (18446744073709551616 : Int) = 2 ^ 64 := by decide
  have hlt : c * 2 ^ (7 * k) < 18446744073709551616 := by
    match k, hk with
    | 0, _ => simp; omega
    | 1, _ => simp; omega
    | 2, _ => simp; omega
    | 3, _ => simp; omega
    | 4, _ => simp; omega
    | 5, _ => simp; omega
    | 6, _ => simp; omega
    | 7, _ => simp; omega
    | 8, _ => simp; omega
    | 9, _ => have := h9 rfl; simp; omega
  have hp : (0 : Int) < 2 ^ (7 * k) := Int.pow_pos (by decide)
  have h0 : 0 ≤ c * 2 ^ (7 * k) := Int.mul_nonneg hc0 (Int.le_of_lt hp)
  refine ⟨hlt, h0, bits_join_low .u64 64 (by decide) wraps_u64 (7 * k) X _ hX0 hX ?_ h0 (Int.mul_emod_left _ _) (e ▸ hlt)⟩
  have hn : (2 : Nat) ^ (7 * k) ≤ 2 ^ 64 := Nat.pow_le_pow_right (by decide) (by omega)
  exact Int.lt_of_lt_of_le hX (by exact_mod_cast hn)
theorem step_lt (k : Nat) (X c : Int) (hX : X < 2 ^ (7 * k)) (hc : c < 128) : X + c * 2 ^ (7 * k) < 2 ^ (7 * (k + 1)) := by
  have e : (2 : Int) ^ (7 * (k + 1)) = 128 * 2 ^ (7 * k) := by rw [show 7 * (k + 1) = 7 * k + 7 by omega, Int.pow_add]; omega
  have hp : (0 : Int) < 2 ^ (7 * k) := Int.pow_pos (by decide)
  have : c * 2 ^ (7 * k) ≤ 127 * 2 ^ (7 * k) := Int.mul_le_mul_of_nonneg_right (by omega) (Int.le_of_lt hp)
  rw [e]; omega

theorem and127b (c : Int) (h₀ : 0 ≤ c) (h₁ : c ≤ 255) : bits .and .u8 c 127 = c % 128 := u8_and127 c h₀ (by omega)
theorem step_val (k : Nat) (hk : k ≤ 9) (X c : Int) (hX0 : 0 ≤ X) (hX : X < 2 ^ (7 * k)) (hc0 : 0 ≤ c) (hc : c ≤ 255) (h9 : k = 9 → c ≤ 1) :
    bits .or .u64 X (IntKind.u64.wrap (IntKind.u64.wrap (bits .and .u8 c 127) * 2 ^ (7 * k))) = X + c % 128 * 2 ^ (7 * k) := by
  obtain ⟨h1, h2, h3⟩ := or_step k hk X (c % 128) hX0 hX (by omega) (by omega) (fun h => by have := h9 h; omega)
  rw [and127b c hc0 hc, wraps_u64 (c % 128) (by omega) (by omega), wraps_u64 _ h2 (by omega), h3]
theorem step_ref (k : Nat) (hk : k ≤ 9) (X c : Int) (hX0 : 0 ≤ X) (hX : X < 2 ^ (7 * k)) (hc0 : 0 ≤ c) (hc : c ≤ 255) (h9 : k = 9 → c ≤ 1) :
    bits .or .u64 X (IntKind.u64.wrap (c % 128 * 2 ^ (7 * k))) = X + c % 128 * 2 ^ (7 * k) := by
  obtain ⟨h1, h2, h3⟩ := or_step k hk X (c % 128) hX0 hX (by omega) (by omega) (fun h => by have := h9 h; omega)
  rw [wraps_u64 _ h2 (by omega), h3]
section
variable {xs : List Int} {p k : Nat} {X : Int}
theorem g_bad (h : p + k < xs.length) (h9 : (k : Int) = 9) (hc : 1 < xs[p + k]?.getD 0) : gvF (xs.drop (p + k)) k X p = (0, 0, 4) := by
  have : k = 9 := by omega
  rw [drop_at h]; simp [gvF, this] at hc ⊢; intro h; omega
theorem g_last (h : p + k < xs.length) (h9 : (k : Int) = 9 → xs[p + k]?.getD 0 ≤ 1) (hc0 : 0 ≤ xs[p + k]?.getD 0) (hc : xs[p + k]?.getD 0 < 128) : gvF (xs.drop (p + k)) k X p = (X + xs[p + k]?.getD 0 % 128 * 2 ^ (7 * k), (p : Int) + k + 1, 0) := by
  rw [drop_at h, gvF, if_neg (by intro ⟨a, b⟩; have := h9 (by omega); omega), if_pos hc, Int.emod_eq_of_lt hc0 hc]
theorem g_more (h : p + k < xs.length) (h9 : ¬ (k : Int) = 9) (hc : 128 ≤ xs[p + k]?.getD 0) (hc1 : xs[p + k]?.getD 0 ≤ 255) : gvF (xs.drop (p + k)) k X p = gvF (xs.drop (p + (k + 1))) (k + 1) (X + xs[p + k]?.getD 0 % 128 * 2 ^ (7 * k)) p := by
  rw [drop_at h, gvF, if_neg (by intro ⟨a, b⟩; omega), if_neg (by omega), show xs[p + k]?.getD 0 % 128 = xs[p + k]?.getD 0 - 128 by omega]; rfl
theorem g_end (h : xs.length ≤ p + k) : gvF (xs.drop (p + k)) k X p = (0, 0, 3) := by
  rw [List.drop_eq_nil_of_le h]; rfl
end
theorem gv_end (xs : List Int) (p : Nat) (h : xs.length ≤ p) : gv xs p = (0, 0, 3) := by
  unfold gv; rw [List.drop_eq_nil_of_le h]; rfl

end Go.Proofs.YtcenkalhklpajaaGreatDoor
namespace Go.Proofs.YtcenkalhklpajaaGreatDoor
open Go.RowKit
set_option maxRecDepth 1000000

theorem zigW (n : Int) (w : World) (h0 : -9223372036854775808 ≤ n) (h1 : n ≤ 9223372036854775807) :
    Calls Tryz.prog 27 #[.int .i64 n] w fun e w' => e = .returned (.int .u64 (zigF n)) ∧ w = w' := by
  by_cases h : n < 0
  · have e := zig_neg n h0 h
    have H : Hid (bits .xor .u64 IntKind.u64.max (IntKind.u64.wrap (IntKind.u64.wrap n * 2)) = zigF n) := e
    clear e
    go_enter Tryz.func27, Tryz.ntmps27
    go_wp2
    go_ret
    exact ⟨ret_int H.out, rfl⟩
  · have e : 2 * n = zigF n := by rw [zigF, if_pos (by omega)]
    have H : Hid (2 * n = zigF n) := e
    clear e
    go_enter Tryz.func27, Tryz.ntmps27
    go_wp2
    go_ret
    exact ⟨ret_int (by rw [← H.out]; omega), rfl⟩

theorem zagW (u : Int) (w : World) (h0 : 0 ≤ u) (h1 : u < 18446744073709551616) :
    Calls Tryz.prog 87 #[.int .u64 u] w fun e w' => e = .returned (.int .i64 (zagF u)) ∧ w = w' := by
  have hb : bits .and .u64 u 1 = u % 2 := Lib.u64_and1 u h0 h1
  by_cases h : u % 2 = 1
  · have e := zag_odd u h0 h1 h
    have H : Hid (wrap64 (bits .xor .u64 IntKind.u64.max (u / 2)) = zagF u) := e
    have ht : (bits .and .u64 u 1 == 1) = true := by rw [hb, h]; rfl
    clear e hb h
    go_enter Tryz.func87, Tryz.ntmps87
    go_wp2
    go_ret
    exact ⟨ret_int H.out, rfl⟩
  · have e : u / 2 = zagF u := by rw [zagF, if_pos (by omega)]
    have H : Hid (u / 2 = zagF u) := e
    have ht : (bits .and .u64 u 1 == 1) = false := by rw [hb]; simp; omega
    clear e hb h
    go_enter Tryz.func87, Tryz.ntmps87
    go_wp2
    go_ret
    exact ⟨ret_int H.out, rfl⟩

theorem zigR (n : Int) (w : World) (h0 : -9223372036854775808 ≤ n) (h1 : n ≤ 9223372036854775807) :
    Calls Tryz.prog 51 #[.int .i64 n] w fun e w' => e = .returned (.int .u64 (zigF n)) ∧ w = w' := by
  by_cases h : n < 0
  · have H : Hid (-(n + 1) * 2 + 1 = zigF n) := by rw [Hid, zigF, if_neg (by omega)]; omega
    go_enter Tryz.func51, Tryz.ntmps51
    go_wp2
    go_ret
    exact ⟨ret_int H.out, rfl⟩
  · have H : Hid (n * 2 = zigF n) := by rw [Hid, zigF, if_pos (by omega)]; omega
    go_enter Tryz.func51, Tryz.ntmps51
    go_wp2
    go_ret
    exact ⟨ret_int H.out, rfl⟩

theorem outsideW (a : Option Addr) (len cap : Nat) (p : Int) (w : World) (_hl : len ≤ 9223372036854775807) :
    Calls Tryz.prog 108 #[.slice a len cap, .int .i64 p] w fun e w' => e = .returned (.bool (decide (p < 0 ∨ (len : Int) < p))) ∧ w = w' := by
  by_cases h : p < 0
  · have ht : decide (p < 0 ∨ (len : Int) < p) = true := by simp [h]
    rw [ht]
    go_enter Tryz.func108, Tryz.ntmps108
    go_wp2
    go_ret
    exact ⟨rfl, rfl⟩
  · have h2 : decide (p < 0) = false := by simpa using h
    have ht : decide (p < 0 ∨ (len : Int) < p) = decide ((len : Int) < p) := by simp [h]
    rw [ht]
    clear ht
    go_enter Tryz.func108, Tryz.ntmps108
    go_wp2
    go_ret
    exact ⟨rfl, rfl⟩

theorem outsideNo (a : Option Addr) (len cap : Nat) (p : Int) (w : World) (hl : len ≤ 9223372036854775807) (h0 : 0 ≤ p) (h1 : p ≤ len) :
    Calls Tryz.prog 108 #[.slice a len cap, .int .i64 p] w fun e w' => e = .returned (.bool false) ∧ w = w' := by
  refine (outsideW a len cap p w hl).mono ?_
  rintro e w' ⟨rfl, rfl⟩
  have ht : decide (p < 0 ∨ (len : Int) < p) = false := by simp; omega
  exact ⟨by rw [ht], rfl⟩
theorem outsideYes (a : Option Addr) (len cap : Nat) (p : Int) (w : World) (hl : len ≤ 9223372036854775807) (h : p < 0 ∨ (len : Int) < p) :
    Calls Tryz.prog 108 #[.slice a len cap, .int .i64 p] w fun e w' => e = .returned (.bool true) ∧ w = w' := by
  refine (outsideW a len cap p w hl).mono ?_
  rintro e w' ⟨rfl, rfl⟩
  have ht : decide (p < 0 ∨ (len : Int) < p) = true := by simpa using h
  exact ⟨by rw [ht], rfl⟩

set_option maxHeartbeats 400000 in
theorem sizeW (n : Int) (w : World) (h0 : 0 ≤ n) (h1 : n < 18446744073709551616) :
    Calls Tryz.prog 65 #[.int .u64 n] w fun e w' => e = .returned (.int .i64 (pv n).length) ∧ w = w' := by
  have HS : Hid (1 + cntF 8 (n / 128) = ((pv n).length : Int)) := cnt_start n h0
  have hb : n / 128 < 128 ^ (8 + 1) := div_lt 9 (lt_ten h1)
  have HL := pv_len n
  go_enter Tryz.func65, Tryz.ntmps65
  go_wp2
  go_loop [0, 3] (fun nn s => ∃ (f : Nat) (N S : Int), 0 ≤ N ∧ N < 128 ^ (f + 1) ∧ N < 18446744073709551616 ∧ 0 ≤ S ∧ S ≤ 10 ∧ nn = .int .u64 N ∧ s = .int .i64 S ∧ S + cntF f N = ((pv n).length : Int)) (fun nn _ => (intOf nn).toNat)
  case atStart => exact ⟨8, n / 128, 1, by omega, hb, by omega, by omega, by omega, rfl, rfl, HS.out⟩
  case round =>
    obtain ⟨f, N, S, hN0, hN, hN64, hS0, hS, rfl, rfl, hc⟩ := hrel
    have HC : Hid (S + cntF f N = ((pv n).length : Int)) := hc
    have HL' : Hid ((pv n).length ≤ 10) := HL.2
    clear hc HL HS hb
    by_cases hz : 0 < N
    · have H2 : Hid (∃ g, N / 128 < 128 ^ (g + 1) ∧ 1 + cntF g (N / 128) = cntF f N) := cnt_step f N hz hN
      clear hN
      go_wp2
      go_round
      case rel =>
        obtain ⟨g, hg, e⟩ := H2.out
        have := HC.out
        have := HL'.out
        have := cnt_nonneg g (N / 128)
        exact ⟨g, N / 128, S + 1, by omega, hg, by omega, by omega, by omega, rfl, rfl, by omega⟩
      case measure => simp [intOf]; omega
    · have hN : N = 0 := by omega
      subst hN
      go_wp2
      go_ret
      have := HC.out
      rw [cnt_zero] at this
      exact ⟨ret_int (by omega), rfl⟩
end Go.Proofs.YtcenkalhklpajaaGreatDoor
namespace Go.Proofs.YtcenkalhklpajaaGreatDoor
open Go.RowKit
set_option maxRecDepth 1000000

theorem ret_gv {g : Int × Int × Int} {a b c : Int} (h : g = (a, b, c)) : Ending.returned (.tuple #[.int .u64 a, .int .i64 b, .int .i64 c]) = .returned (.tuple #[.int .u64 g.1, .int .i64 g.2.1, .int .i64 g.2.2]) := by rw [h]

theorem getvOut (a : Option Addr) (len cap : Nat) (p : Int) (w : World) (hl : len ≤ 9223372036854775807) (hp : p < 0 ∨ (len : Int) < p) :
    Calls Tryz.prog 86 #[.slice a len cap, .int .i64 p] w fun e w' => e = .returned (.tuple #[.int .u64 0, .int .i64 0, .int .i64 18]) ∧ w' = w := by
  have H : Hid (p < 0 ∨ (len : Int) < p) := hp
  clear hp
  go_enter Tryz.func86, Tryz.ntmps86
  go_wp2; go_step3; go_wp2_with (go_at_call 108; refine (outsideYes _ _ _ _ _ hl H.out).mono ?_; rintro e w' ⟨rfl, rfl⟩)
  try rw [Exit.noGoto_ret]
  go_ret3
  exact ⟨rfl, rfl⟩

theorem getvEnd (a : Option Addr) (len cap : Nat) (w : World) (ha : a = none → cap = 0) (hlc : len ≤ cap) (hm : cap ≤ 9223372036854775807) :
    Calls Tryz.prog 86 #[.slice a len cap, .int .i64 len] w fun e w' => e = .returned (.tuple #[.int .u64 0, .int .i64 0, .int .i64 3]) ∧ w' = w := by
  have h0 : len - len = 0 := by omega
  cases a with
  | none =>
    have := ha rfl
    subst this
    obtain rfl : len = 0 := by omega
    clear ha
    go_enter Tryz.func86, Tryz.ntmps86
    go_wp2; go_step3; go_wp2_with (go_at_call 108; refine (outsideNo _ _ _ _ _ (by omega) (by omega) (by omega)).mono ?_; rintro e w' ⟨rfl, rfl⟩); go_step3; go_wp2
    refine wp_loop_rounds 1 ?_
    rw [rounds_succ]
    go_wp2
    try rw [Exit.noGoto_ret]
    go_ret3
    exact ⟨rfl, rfl⟩
  | some x =>
    clear ha
    obtain ⟨b, off, spot⟩ := x
    go_enter Tryz.func86, Tryz.ntmps86
    go_wp2; go_step3; go_wp2_with (go_at_call 108; refine (outsideNo _ _ _ _ _ (by omega) (by omega) (by omega)).mono ?_; rintro e w' ⟨rfl, rfl⟩); go_step3; go_wp2
    all_goals
      refine wp_loop_rounds 1 ?_
      rw [rounds_succ]
      go_wp2
      try rw [Exit.noGoto_ret]
      go_ret3
      exact ⟨rfl, rfl⟩

set_option maxHeartbeats 400000 in
theorem getvIn (b off len cap p : Nat) (xs : List Int) (w : World) (hl : xs.length = len) (hlc : len ≤ cap) (hm : cap ≤ 9223372036854775807) (hp : p < len)
    (hc : ∀ i, i < len → w.cell? ⟨b, off + i, none⟩ = some (.int .u8 (xs.getD i 0))) (hr : ∀ i, 0 ≤ xs.getD i 0 ∧ xs.getD i 0 ≤ 255) :
    Calls Tryz.prog 86 #[.slice (some ⟨b, off, none⟩) len cap, .int .i64 p] w fun e w' =>
      e = .returned (.tuple #[.int .u64 (gv xs p).1, .int .i64 (gv xs p).2.1, .int .i64 (gv xs p).2.2]) ∧ w' = w := by
  go_enter Tryz.func86, Tryz.ntmps86
  go_wp2; go_step3; go_wp2_with (go_at_call 108; refine (outsideNo _ _ _ _ _ (by omega) (by omega) (by omega)).mono ?_; rintro e w' ⟨rfl, rfl⟩); go_step3; go_wp2
  go_loop [4, 5, 6, 7, 8, 16] (fun n nx e i c r => ∃ (k : Nat) (X : Int), k ≤ 9 ∧ k ≤ len - p ∧ 0 ≤ X ∧ X < 2 ^ (7 * k) ∧ r = .int .i64 k ∧ n = .int .u64 X ∧ nx = .int .i64 0 ∧ e = .int .i64 3 ∧ gv xs p = gvF (xs.drop (p + k)) k X p) (fun _ _ _ _ _ r => len - p - (intOf r).toNat)
  case atStart => exact ⟨0, 0, by omega, by omega, by omega, by simp, rfl, rfl, rfl, rfl, by simp [gv]⟩
  case round =>
    obtain ⟨k, X, hk9, hk, hX0, hX, rfl, rfl, rfl, rfl, hg⟩ := hrel
    have HG : Hid (gv xs p = gvF (xs.drop (p + k)) k X p) := hg
    clear hg
    have hrk : 0 ≤ xs[p + k]?.getD 0 ∧ xs[p + k]?.getD 0 ≤ 255 := by have := hr (p + k); rwa [List.getD_eq_getElem?_getD] at this
    have hck : k < len - p → w.cell? ⟨b, off + p + k, none⟩ = some (.int .u8 (xs.getD (p + k) 0)) := fun h => by rw [Nat.add_assoc]; exact hc (p + k) (by omega)
    clear hr hc
    go_wp2
    · -- the tenth byte is too great
      have hlt : k < len - p := by assumption
      try rw [Exit.noGoto_ret]
      go_ret3
      exact ⟨ret_gv (by rw [HG.out, g_bad (by omega) ‹_› ‹_›]), rfl⟩
    · -- the tenth byte
      have hlt : k < len - p := by assumption
      have h9 : (k : Int) = 9 := by assumption
      have hc1 : xs[p + k]?.getD 0 ≤ 1 := by assumption
      try rw [Exit.noGoto_ret]
      go_ret3
      refine ⟨ret_gv ?_, rfl⟩
      rw [HG.out, g_last (by omega) (fun _ => hc1) hrk.1 (by omega), step_val k hk9 X _ hX0 hX hrk.1 hrk.2 (fun _ => hc1)]
      have : k = 9 := by omega
      subst this
      rfl
    · -- a last byte
      have hlt : k < len - p := by assumption
      have h9 : ¬ (k : Int) = 9 := by assumption
      have hc1 : xs[p + k]?.getD 0 < 128 := by assumption
      try rw [Exit.noGoto_ret]
      go_ret3
      refine ⟨ret_gv ?_, rfl⟩
      rw [HG.out, g_last (by omega) (fun h => absurd h h9) hrk.1 (by omega), step_val k hk9 X _ hX0 hX hrk.1 hrk.2 (fun h => by omega)]
    · -- one that goes on
      have hlt : k < len - p := by assumption
      have h9 : ¬ (k : Int) = 9 := by assumption
      have hc1 : 128 ≤ xs[p + k]?.getD 0 := by assumption
      have hp2 : (0 : Int) < 2 ^ (7 * k) := Int.pow_pos (by decide)
      have hs := step_val k hk9 X _ hX0 hX hrk.1 hrk.2 (fun h => by omega)
      have hm0 : 0 ≤ xs[p + k]?.getD 0 % 128 * 2 ^ (7 * k) := Int.mul_nonneg (by omega) (Int.le_of_lt hp2)
      have HS : Hid (bits .or .u64 X (IntKind.u64.wrap (IntKind.u64.wrap (bits .and .u8 (xs[p + k]?.getD 0) 127) * 2 ^ (7 * k))) = X + xs[p + k]?.getD 0 % 128 * 2 ^ (7 * k)) := hs
      clear hs
      refine ⟨⟨k + 1, X + xs[p + k]?.getD 0 % 128 * 2 ^ (7 * k), by omega, by omega, by omega, step_lt k X _ hX (by omega), by go_num, by rw [HS.out], rfl, rfl, by rw [HG.out, g_more (by omega) h9 hc1 hrk.2]⟩, by simp [intOf]; omega⟩
    · -- the end
      have hge : ¬ k < len - p := by assumption
      try rw [Exit.noGoto_ret]
      go_ret3
      exact ⟨ret_gv (by rw [HG.out, g_end (by omega)]), rfl⟩

/-- The program's GetVarint at a place of a slice that can be read. -/
theorem getvW (a : Option Addr) (len cap p : Nat) (xs : List Int) (w : World) (h : Reads w a len cap xs) (hp : p ≤ len) :
    Calls Tryz.prog 86 #[.slice a len cap, .int .i64 p] w fun e w' =>
      e = .returned (.tuple #[.int .u64 (gv xs p).1, .int .i64 (gv xs p).2.1, .int .i64 (gv xs p).2.2]) ∧ w = w' := by
  by_cases hpl : p = len
  · subst hpl
    rw [gv_end xs p (by rw [h.length]; exact Nat.le_refl _)]
    refine (getvEnd a p cap w (fun e => ?_) h.le h.max).mono fun e w' h => ⟨h.1, h.2.symm⟩
    rcases h.cells with ⟨_, h2⟩ | ⟨b, off, rfl, _⟩
    · exact h2 e
    · cases e
  · rcases h.cells with ⟨h0, _⟩ | ⟨b, off, rfl, hc⟩
    · omega
    · exact (getvIn b off len cap p xs w h.length h.le h.max (by omega) hc h.bd).mono fun e w' h => ⟨h.1, h.2.symm⟩

end Go.Proofs.YtcenkalhklpajaaGreatDoor
namespace Go.Proofs.YtcenkalhklpajaaGreatDoor
open Go.RowKit
set_option maxRecDepth 1000000

theorem own_last {w : World} {base m j : Nat} {v : Value} {xs : List Value} {pre all : List Int} {N : Int} (h : w.ownsRow base 5 1 v (m + j + 1) (xs ++ pre.map (Value.int .u8) ++ [.int .u8 N])) (hj : pre.length = j) (e : all = pre ++ [N]) :
    w.ownsRow base 5 1 v (m + all.length) (xs ++ all.map (Value.int .u8)) := by
  subst hj e
  simpa [Nat.add_assoc] using h
theorem own_more {w : World} {base m j : Nat} {v : Value} {xs : List Value} {pre : List Int} {N : Int} (h : w.ownsRow base 5 1 v (m + j + 1) (xs ++ pre.map (Value.int .u8) ++ [.int .u8 N])) :
    w.ownsRow base 5 1 v (m + (j + 1)) (xs ++ (pre ++ [N]).map (Value.int .u8)) := by
  simpa [Nat.add_assoc] using h
theorem pv_more {f : Nat} {N : Int} (h : N < 128 ^ (f + 1)) (hge : ¬ N < 128) : ∃ g, f = g + 1 ∧ N / 128 < 128 ^ (g + 1) ∧ pvF f N = (N % 128 + 128) :: pvF g (N / 128) := by
  cases f with
  | zero => simp at h; omega
  | succ g => exact ⟨g, rfl, div_lt _ h, pvF_big g hge⟩
set_option maxHeartbeats 400000 in
theorem addvW (base : Nat) (v : Value) (m : Nat) (xs : List Value) (n : Int) (w : World) (hown : w.ownsRow base 5 1 v m xs) (hb : base ≤ w.heap.size) (h0 : 0 ≤ n) (h1 : n < 18446744073709551616) (hm : m + 10 ≤ 140737488355328) :
    Calls Tryz.prog 64 #[v, .int .u64 n] w fun e w' => ∃ v', e = .returned v' ∧ w'.ownsRow base 5 1 v' (m + (pv n).length) (xs ++ (pv n).map (Value.int .u8)) ∧ Below base w w' := by
  obtain ⟨i0, hi, hz0, hz1, hz2⟩ := info_parts Tryz.info5
  have H9 : Hid (n < 128 ^ (9 + 1)) := lt_ten h1
  go_enter Tryz.func64, Tryz.ntmps64
  go_wp2
  go_loopw [0, 1] (fun o nn wr => ∃ (f j : Nat) (N : Int) (pre : List Int), 0 ≤ N ∧ N < 18446744073709551616 ∧ Hid (N < 128 ^ (f + 1)) ∧ pre.length = j ∧ j + f ≤ 9 ∧ nn = .int .u64 N ∧ wr.ownsRow base 5 1 o (m + j) (xs ++ pre.map (Value.int .u8)) ∧ Below base w wr ∧ Hid (pv n = pre ++ pvF f N)) (fun _ nn _ => (intOf nn).toNat)
  case atStart => exact ⟨9, 0, n, [], h0, h1, H9, rfl, by omega, rfl, by simpa using hown, Below.refl _ _, rfl⟩
  case round =>
    obtain ⟨f, j, N, pre, hN0, hN, HN, hj, hjf, rfl, ho, hbw, HP⟩ := hrel
    have hsz := hbw.size
    have hd := digit N hN0 hN
    clear hown
    by_cases hlt : N < 128
    · go_wp2_with (first
        | (at_builtin; refine wpList_append_own _ rfl _ _ 27 rfl base 5 i0 (.int .u8 0) 1 1 Tryz.underlying27 hi hz0 hz1 hz2 rfl (by decide) _ _ _ rfl (ho.alloc _) ⟨wr.heap.size, 0, none⟩ 1 1 [.int .u8 N] rfl rfl (cell_one_new _ _ _) (fun x hx => by simp at hx; subst hx; rfl) (by unfold maxLen; omega) (by omega) (by simp; omega) ?_; intro v' w3 hown' hgrow3 hnil3))
      go_ret
      exact ⟨v', rfl, own_last hown' hj (by rw [HP.out, pvF_small _ hlt]), Below.grown (hbw.alloc (by omega) _) hgrow3 (by simp; omega) (fun k hk => (ho.lt k hk).1)⟩
    · go_wp2_with (first
        | (at_builtin; refine wpList_append_own _ rfl _ _ 27 rfl base 5 i0 (.int .u8 0) 1 1 Tryz.underlying27 hi hz0 hz1 hz2 rfl (by decide) _ _ _ rfl (ho.alloc _) ⟨wr.heap.size, 0, none⟩ 1 1 [.int .u8 (N % 128 + 128)] rfl rfl (cell_one_new _ _ _) (fun x hx => by simp at hx; subst hx; rfl) (by unfold maxLen; omega) (by omega) (by simp; omega) ?_; intro v' w3 hown' hgrow3 hnil3))
      obtain ⟨g, rfl, hg, e⟩ := pv_more HN.out hlt
      exact ⟨⟨g, j + 1, N / 128, pre ++ [N % 128 + 128], by omega, by omega, hg, by simp [hj], by omega, rfl, own_more hown', Below.grown (hbw.alloc (by omega) _) hgrow3 (by simp; omega) (fun k hk => (ho.lt k hk).1), by show _ = _; rw [HP.out, e]; simp⟩, by simp [intOf]; omega⟩

set_option maxHeartbeats 400000 in
theorem putvW (n : Int) (w : World) (h0 : 0 ≤ n) (h1 : n < 18446744073709551616) :
    Calls Tryz.prog 26 #[.int .u64 n] w fun e w' => ∃ v', e = .returned v' ∧ w'.ownsRow w.heap.size 5 1 v' (pv n).length ((pv n).map (Value.int .u8)) ∧ Below w.heap.size w w' := by
  obtain ⟨i0, hi, hz0, hz1, hz2⟩ := info_parts Tryz.info5
  have hl := (pv_len n).2
  obtain ⟨w1, hrun, hown, hgr⟩ := run_makeSlice_owned (P := Tryz.prog) w w.heap.size 27 5 i0 (.int .u8 0) 1 Tryz.underlying27 hi hz0 hz1 .i64 .i64 (pv n).length (by omega) (by rw [hz2]; omega) (by unfold maxLen; omega) (Nat.le_refl _)
  have hsz := hgr.size
  have hbw : Below w.heap.size w w1 := Below.grown (Below.refl _ _) hgr (Nat.le_refl _) (fun k hk => by cases hk)
  go_enter Tryz.func26, Tryz.ntmps26
  go_wp2_with (first
    | (go_at_call 65; refine (sizeW _ _ h0 h1).mono ?_; rintro e w' ⟨rfl, rfl⟩)
    | (go_at_call 64; go_must (refine (addvW w.heap.size _ 0 [] _ _ hown (by omega) h0 h1 (by omega)).mono ?_); rintro e w' ⟨v', rfl, ho', hb'⟩))
  go_ret
  exact ⟨v', rfl, by simpa using ho', hbw.trans hb'⟩

set_option maxHeartbeats 400000 in
theorem putvR (n : Int) (w : World) (h0 : 0 ≤ n) (h1 : n < 18446744073709551616) :
    Calls Tryz.prog 50 #[.int .u64 n] w fun e w' => ∃ v', e = .returned v' ∧ w'.ownsRow w.heap.size 5 1 v' (pv n).length ((pv n).map (Value.int .u8)) ∧ Below w.heap.size w w' := by
  obtain ⟨i0, hi, hz0, hz1, hz2⟩ := info_parts Tryz.info5
  have H9 : Hid (n < 128 ^ (9 + 1)) := lt_ten h1
  go_enter Tryz.func50, Tryz.ntmps50
  go_wp2
  go_loopw [0, 3] (fun nn o wr => ∃ (f j : Nat) (N : Int) (pre : List Int), 0 ≤ N ∧ N < 18446744073709551616 ∧ Hid (N < 128 ^ (f + 1)) ∧ pre.length = j ∧ j + f ≤ 9 ∧ nn = .int .u64 N ∧ wr.ownsRow w.heap.size 5 1 o (0 + j) ([] ++ pre.map (Value.int .u8)) ∧ Below w.heap.size w wr ∧ Hid (pv n = pre ++ pvF f N)) (fun nn _ _ => (intOf nn).toNat)
  case atStart => exact ⟨9, 0, n, [], h0, h1, H9, rfl, by omega, rfl, World.ownsRow_nil _ _ _ _, Below.refl _ _, rfl⟩
  case round =>
    obtain ⟨f, j, N, pre, hN0, hN, HN, hj, hjf, rfl, ho, hbw, HP⟩ := hrel
    have hsz := hbw.size
    by_cases hlt : N < 128
    · go_wp2_with (first
        | (at_builtin; refine wpList_append_own _ rfl _ _ 27 rfl w.heap.size 5 i0 (.int .u8 0) 1 1 Tryz.underlying27 hi hz0 hz1 hz2 rfl (by decide) _ _ _ rfl (ho.alloc _) ⟨wr.heap.size, 0, none⟩ 1 1 [.int .u8 N] rfl rfl (cell_one_new _ _ _) (fun x hx => by simp at hx; subst hx; rfl) (by unfold maxLen; omega) (by omega) (by simp; omega) ?_; intro v' w3 hown' hgrow3 hnil3))
      go_ret
      refine ⟨v', rfl, ?_, Below.grown (hbw.alloc (by omega) _) hgrow3 (by simp; omega) (fun k hk => (ho.lt k hk).1)⟩
      have := own_last (all := pv n) hown' hj (by rw [HP.out, pvF_small _ hlt])
      simpa using this
    · go_wp2_with (first
        | (at_builtin; refine wpList_append_own _ rfl _ _ 27 rfl w.heap.size 5 i0 (.int .u8 0) 1 1 Tryz.underlying27 hi hz0 hz1 hz2 rfl (by decide) _ _ _ rfl (ho.alloc _) ⟨wr.heap.size, 0, none⟩ 1 1 [.int .u8 (N % 128 + 128)] rfl rfl (cell_one_new _ _ _) (fun x hx => by simp at hx; subst hx; rfl) (by unfold maxLen; omega) (by omega) (by simp; omega) ?_; intro v' w3 hown' hgrow3 hnil3))
      obtain ⟨g, rfl, hg, e⟩ := pv_more HN.out hlt
      exact ⟨⟨g, j + 1, N / 128, pre ++ [N % 128 + 128], by omega, by omega, hg, by simp [hj], by omega, rfl, own_more hown', Below.grown (hbw.alloc (by omega) _) hgrow3 (by simp; omega) (fun k hk => (ho.lt k hk).1), by show _ = _; rw [HP.out, e]; simp⟩, by simp [intOf]; omega⟩
end Go.Proofs.YtcenkalhklpajaaGreatDoor
namespace Go.Proofs.YtcenkalhklpajaaGreatDoor
open Go.RowKit
set_option maxRecDepth 1000000

/-- PutVarint's answer as a slice that can be read. -/
theorem putvWr (n : Int) (w : World) (h0 : 0 ≤ n) (h1 : n < 18446744073709551616) :
    Calls Tryz.prog 26 #[.int .u64 n] w fun e w' => ∃ a cap, e = .returned (.slice a (pv n).length cap) ∧ Reads w' a (pv n).length cap (pv n) ∧ Below w.heap.size w w' := by
  refine (putvW n w h0 h1).mono ?_
  rintro e w' ⟨v, rfl, ho, hb⟩
  obtain ⟨a, cap, rfl, hr⟩ := own_reads ho (pv_bd h0 h1)
  exact ⟨a, cap, rfl, hr, hb⟩
theorem putvRr (n : Int) (w : World) (h0 : 0 ≤ n) (h1 : n < 18446744073709551616) :
    Calls Tryz.prog 50 #[.int .u64 n] w fun e w' => ∃ a cap, e = .returned (.slice a (pv n).length cap) ∧ Reads w' a (pv n).length cap (pv n) ∧ Below w.heap.size w w' := by
  refine (putvR n w h0 h1).mono ?_
  rintro e w' ⟨v, rfl, ho, hb⟩
  obtain ⟨a, cap, rfl, hr⟩ := own_reads ho (pv_bd h0 h1)
  exact ⟨a, cap, rfl, hr, hb⟩

theorem gv_300 : gv [172, 2, 9] 0 = (300, 2, 0) := by decide
theorem pv_300 : pv 300 = [172, 2] := by decide

end Go.Proofs.YtcenkalhklpajaaGreatDoor
namespace Go.Proofs.YtcenkalhklpajaaGreatDoor
open Go.RowKit
set_option maxRecDepth 1000000

end Go.Proofs.YtcenkalhklpajaaGreatDoor
namespace Go.Proofs.YtcenkalhklpajaaGreatDoor
open Go.RowKit
set_option maxRecDepth 1000000

/-- The wire kinds. -/
def okK (k : Int) : Bool := decide (k = 0 ∨ k = 1 ∨ k = 2 ∨ k = 5)
/-- The fault of a tag. -/
def tf (n k : Int) : Int := if n < 1 ∨ 536870911 < n then 5 else if okK k = true then 0 else 6
/-- Reading a tag: number, kind, place behind it, fault. -/
def gtF (g : Int × Int × Int) : Int × Int × Int × Int := if g.2.2 ≠ 0 then (0, 0, 0, g.2.2) else if tf (g.1 / 8) (g.1 % 8) ≠ 0 then (0, 0, 0, tf (g.1 / 8) (g.1 % 8)) else (g.1 / 8, g.1 % 8, g.2.1, 0)
def gt (xs : List Int) (p : Nat) : Int × Int × Int × Int := gtF (gv xs p)

theorem okK_bd {k : Int} (h : okK k = true) : 0 ≤ k ∧ k ≤ 5 := by simp [okK] at h; omega
theorem tf_ok {n k : Int} (h : tf n k = 0) : 1 ≤ n ∧ n ≤ 536870911 ∧ okK k = true := by
  unfold tf at h
  split at h
  · cases h
  · split at h
    · exact ⟨by omega, by omega, by assumption⟩
    · cases h
theorem tag_or (n k : Int) (h0 : 0 ≤ n) (h1 : n ≤ 536870911) (k0 : 0 ≤ k) (k1 : k ≤ 7) : bits .or .u64 (n * 8) k = n * 8 + k :=
  bits_join .u64 64 (by decide) wraps_u64 3 (n * 8) k (by omega) (by omega) (by omega) k0 (by omega) (by omega)
theorem and7 (n : Int) (h₀ : 0 ≤ n) (h₁ : n < 18446744073709551616) : bits .and .u64 n 7 = n % 8 := bits_mask .u64 64 (by decide) wraps_u64 3 (by decide) n h₀ (by omega)

theorem gvF_bd : ∀ (l : List Int) (k : Nat) (X : Int) (p : Int), (∀ x ∈ l, 0 ≤ x ∧ x ≤ 255) → k ≤ 9 → 0 ≤ X → X < 2 ^ (7 * k) → 0 ≤ (gvF l k X p).1 ∧ (gvF l k X p).1 < 18446744073709551616
  | [], _, _, _, _, _, _, _ => by simp [gvF]
  | c :: r, k, X, p, hb, hk, h0, h1 => by
    have hc := hb c (by simp)
    unfold gvF
    by_cases h9 : k = 9 ∧ 1 < c
    · rw [if_pos h9]; simp
    · rw [if_neg h9]
      by_cases hc1 : c < 128
      · rw [if_pos hc1]
        obtain ⟨a1, a2, a3⟩ := or_step k hk X c h0 h1 hc.1 hc1 (fun h => by omega)
        refine ⟨by simp only []; omega, ?_⟩
        simp only []
        by_cases hk9 : k = 9
        · subst hk9
          have e2 : (2 : Int) ^ (7 * 9) = 9223372036854775808 := by decide
          rw [e2] at h1 ⊢
          omega
        · have hs := step_lt k X c h1 hc1
          have hn : (2 : Nat) ^ (7 * (k + 1)) ≤ 2 ^ 63 := Nat.pow_le_pow_right (by decide) (by omega)
          have hn' : (2 : Int) ^ (7 * (k + 1)) ≤ 2 ^ 63 := by exact_mod_cast hn
          have e3 : (2 : Int) ^ 63 = 9223372036854775808 := by decide
          omega
      · rw [if_neg hc1]
        have hp2 : (0 : Int) < 2 ^ (7 * k) := Int.pow_pos (by decide)
        have hm0 : 0 ≤ (c - 128) * 2 ^ (7 * k) := Int.mul_nonneg (by omega) (Int.le_of_lt hp2)
        exact gvF_bd r (k + 1) _ p (fun x hx => hb x (by simp [hx])) (by omega) (by omega) (step_lt k X _ h1 (by omega))
theorem gv_bd {xs : List Int} (h : ∀ x ∈ xs, 0 ≤ x ∧ x ≤ 255) (p : Nat) : 0 ≤ (gv xs p).1 ∧ (gv xs p).1 < 18446744073709551616 :=
  gvF_bd _ 0 0 _ (fun x hx => h x (List.mem_of_mem_drop hx)) (by omega) (by omega) (by simp)
theorem gtF_err {g : Int × Int × Int} (h : (g.2.2 != 0) = true) : gtF g = (0, 0, 0, g.2.2) := by unfold gtF; rw [if_pos (by simpa using h)]
theorem gtF_tf {g : Int × Int × Int} (h : (g.2.2 != 0) = false) (h2 : tf (g.1 / 8) (g.1 % 8) ≠ 0) : gtF g = (0, 0, 0, tf (g.1 / 8) (g.1 % 8)) := by unfold gtF; rw [if_neg (by simpa using h), if_pos h2]
theorem gtF_ok {g : Int × Int × Int} (h : (g.2.2 != 0) = false) (h2 : tf (g.1 / 8) (g.1 % 8) = 0) : gtF g = (g.1 / 8, g.1 % 8, g.2.1, 0) := by unfold gtF; rw [if_neg (by simpa using h), if_neg (by simp [h2])]
theorem tf_big {n k : Int} (h : 536870911 < n) : tf n k = 5 := by simp [tf, h]
theorem tf_zero {k : Int} : tf 0 k = 5 := by simp [tf]
theorem tf_kind {n k : Int} (h1 : 1 ≤ n) (h2 : n ≤ 536870911) (hk : okK k = false) : tf n k = 6 := by unfold tf; rw [if_neg (by omega), if_neg (by simp [hk])]
theorem tf_fine {n k : Int} (h1 : 1 ≤ n) (h2 : n ≤ 536870911) (hk : okK k = true) : tf n k = 0 := by unfold tf; rw [if_neg (by omega), if_pos hk]
end Go.Proofs.YtcenkalhklpajaaGreatDoor
namespace Go.Proofs.YtcenkalhklpajaaGreatDoor
open Go.RowKit
set_option maxRecDepth 1000000

end Go.Proofs.YtcenkalhklpajaaGreatDoor
namespace Go.Proofs.YtcenkalhklpajaaGreatDoor
open Go.RowKit
set_option maxRecDepth 1000000

theorem ret_gt {g : Int × Int × Int × Int} {a b c d : Int} (h : g = (a, b, c, d)) : Ending.returned (.tuple #[.int .i64 a, .int .i64 b, .int .i64 c, .int .i64 d]) = .returned (.tuple #[.int .i64 g.1, .int .i64 g.2.1, .int .i64 g.2.2.1, .int .i64 g.2.2.2]) := by rw [h]

end Go.Proofs.YtcenkalhklpajaaGreatDoor
namespace Go.Proofs.YtcenkalhklpajaaGreatDoor
open Go.RowKit
set_option maxRecDepth 1000000

/-- The bytes of a tag; none where it has a fault. -/
def pt (n k : Int) : List Int := if tf n k = 0 then pv (n * 8 + k) else []

end Go.Proofs.YtcenkalhklpajaaGreatDoor
