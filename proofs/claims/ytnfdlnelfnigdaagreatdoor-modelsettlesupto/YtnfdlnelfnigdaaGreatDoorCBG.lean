/-
  Oneofs of a good table.
  What holds of bytes wherever they lie: rows that can be read, rows of one's own, appending to them. Nothing of the program's functions.
  Plain mathematics for the layer wire: the digits of a varint, reading them, zigzag; nothing of the program.
  Walks over the functions of the layer wire that only compute: zigzag, the places, the number of a varint's bytes.
  Walks over the functions that read a varint, the program's and the document's.
  Walks over 'same' and over the functions that write a varint, the program's and the document's.
  What is owned can be read, and stays; 'awake' returns true.
  A slice that came in can be read; the walk of the law WireVarints.
  Plain mathematics for tags; nothing of the program.
  Walks over tags, the program's and the document's.
  Walks over reading tags, the program's and the document's.
  The walk of the law WireTags.
  Plain mathematics for words and chunks; nothing of the program.
  Walks over fixed words, the program's and the document's.
  Walks over writing fixed words, the program's and the document's.
  Walks over writing chunks, the program's and the document's.
  Walks over reading chunks, the program's and the document's.
  The walk of the law WireWords.
  Appending with a frame that is told block by block: all old blocks but the slice's own stay.
  Plain mathematics for entries; nothing of the program.
  Walks over writing entries: their faults and their bytes, the program's and the document's.
-/
import Derived.Test.YtnfdlnelfnigdaaGreatDoorCCJ
import Derived.Test.YtnfdlnelfnigdaaGreatDoorRows
import Derived.RowKit
import Derived.Laws.BytesArg
import Derived.WalkKit
import Derived.WalkSpells
import Derived.WalkLawsBesides
import Derived.Outline
import Derived.Below
import Derived.WalkMore
import Derived.Laws.MakeOwn
import Derived.OwnWalk
import Derived.Laws.AppendOwnNone
import Derived.OpenShut
import Derived.Lib.VarintBits
import Derived.Lib.Zigzag
namespace Go.Proofs.YtnfdlnelfnigdaaGreatDoor
open Go.RowKit
set_option maxRecDepth 1000000
set_option linter.unusedVariables false
set_option linter.unusedSimpArgs false
set_option maxHeartbeats 1000000
/-- Of each oneof there is a field: so there are no more than 128. -/
theorem good_ones {l : List TV} (hg : goodB l = true) {x : TV} (hx : x ∈ l) : ∀ o ∈ x.t.fs, o.lab = 4 → 0 ≤ o.one ∧ o.one < 128 := by
  intro o ho h4
  have h128 := (good_rise hg hx).2
  obtain ⟨k, hk, rfl⟩ := List.mem_iff_getElem.1 hx
  have h := good_at hg hk
  unfold stepB typB at h
  simp only [Bool.and_eq_true] at h
  have h2 := h.2.2.2
  split at h2
  · rw [Bool.and_eq_true, decide_eq_true_eq] at h2
    have h3 : l[k].t.fs.length = 0 := by omega
    rw [List.eq_nil_of_length_eq_zero h3] at ho
    exact absurd ho (by simp)
  · unfold msgB at h2
    simp only [Bool.and_eq_true] at h2
    have h3 := List.all_eq_true.1 h2.2.2.1 o ho
    unfold fldB at h3
    simp only [Bool.and_eq_true] at h3
    have h5 := h3.2.2.2.1
    unfold oneB at h5
    rw [if_pos h4, decide_eq_true_eq] at h5
    have h6 := mem_few h2.2.2.2.2.2.1
    omega
end Go.Proofs.YtnfdlnelfnigdaaGreatDoor
namespace Go.Proofs.YtnfdlnelfnigdaaGreatDoor.W
open Go.RowKit
set_option maxRecDepth 1000000
theorem strOfNums_inj : ∀ (xs ys : List Int), (∀ x ∈ xs, 0 ≤ x ∧ x ≤ 255) → (∀ x ∈ ys, 0 ≤ x ∧ x ≤ 255) → strOfNums xs = strOfNums ys → xs = ys := by
  intro xs ys hx hy h
  have h1 : (strOfNums xs).data.toList = (strOfNums ys).data.toList := by rw [h]
  rw [strOfNums_data, strOfNums_data] at h1
  clear h
  induction xs generalizing ys with
  | nil => cases ys with
    | nil => rfl
    | cons y r => simp at h1
  | cons x r ih => cases ys with
    | nil => simp at h1
    | cons y s =>
      simp only [List.map_cons, List.cons.injEq] at h1
      have a := hx x (by simp)
      have b := hy y (by simp)
      have h2 : (UInt8.ofNat x.toNat).toNat = (UInt8.ofNat y.toNat).toNat := by rw [h1.1]
      simp only [UInt8.toNat_ofNat'] at h2
      rw [ih s (fun z hz => hx z (by simp [hz])) (fun z hz => hy z (by simp [hz])) h1.2]
      congr 1
      omega
theorem drop_at {xs : List Int} {j : Nat} (h : j < xs.length) : xs.drop j = xs[j]?.getD 0 :: xs.drop (j + 1) := by
  rw [List.drop_eq_getElem_cons h]
  simp [h]
theorem ret_int {k : IntKind} {a b : Int} (h : a = b) : Ending.returned (.int k a) = .returned (.int k b) := by rw [h]
theorem ret_bool {a b : Bool} (h : a = b) : Ending.returned (.bool a) = .returned (.bool b) := by rw [h]
theorem hid {p : Prop} (h : p) : Hid p := h
/-- A slice of bytes that can be read: its bytes are xs. -/
structure Reads (w : World) (a : Option Addr) (len cap : Nat) (xs : List Int) : Prop where
  length : xs.length = len
  le : len ≤ cap
  max : cap ≤ 9223372036854775807
  bd : ∀ i, 0 ≤ xs.getD i 0 ∧ xs.getD i 0 ≤ 255
  cells : (len = 0 ∧ (a = none → cap = 0)) ∨ ∃ b off, a = some ⟨b, off, none⟩ ∧ ∀ i, i < len → w.cell? ⟨b, off + i, none⟩ = some (.int .u8 (xs.getD i 0))
theorem conv {w : World} {a : Option Addr} {len cap : Nat} {xs : List Int} (h : Reads w a len cap xs) : (convert 23 9 (.slice a len cap)).run Tryz.prog w = .ok (.string (strOfNums xs)) w := by
  rcases h.cells with ⟨h0, _⟩ | ⟨b, off, rfl, hc⟩
  · subst h0
    have hx : xs = [] := List.eq_nil_of_length_eq_zero h.length
    subst hx
    cases a with
    | none => rw [run_convert_bytes_nil w 23 5 Tryz.underlying23 Tryz.underlying5 0 cap 9 Tryz.underlying9]; rfl
    | some x =>
      rw [run_convert_bytes_string w 23 9 5 _ 0 cap Tryz.underlying23 Tryz.underlying5 Tryz.underlying9, run_bytesToString w _ 0 cap [] (by simp [loadCells, loadCellsFrom])]
      rfl
  · exact run_convert_bytes_arg w 23 5 Tryz.underlying23 Tryz.underlying5 b off len cap xs h.length hc 9 Tryz.underlying9
theorem bd_mem {xs : List Int} (h : ∀ i, 0 ≤ xs.getD i 0 ∧ xs.getD i 0 ≤ 255) : ∀ x ∈ xs, 0 ≤ x ∧ x ≤ 255 := by
  intro x hx
  obtain ⟨i, hi, rfl⟩ := List.mem_iff_getElem.1 hx
  have := h i
  simpa [hi] using this
theorem Tryz.info5 : (Tryz.prog.info? 5).map (fun i => (i.zero, i.size, i.bytes)) = some (some (.int .u8 0), 1, 1) := by kernel_rfl
theorem bd_get {xs : List Int} (h : ∀ x ∈ xs, 0 ≤ x ∧ x ≤ 255) : ∀ i, 0 ≤ xs.getD i 0 ∧ xs.getD i 0 ≤ 255 := by
  intro i
  by_cases hi : i < xs.length
  · have := h xs[i] (List.getElem_mem hi)
    simpa [hi] using this
  · simp [hi]
theorem own_reads {w : World} {base n : Nat} {v : Value} {xs : List Int} (h : w.ownsRow base 5 1 v n (xs.map (Value.int .u8))) (hb : ∀ x ∈ xs, 0 ≤ x ∧ x ≤ 255) :
    ∃ a cap, v = .slice a n cap ∧ Reads w a n cap xs := by
  have hl : xs.length = n := by simpa using h.1
  rcases h.2 with ⟨rfl, h0⟩ | ⟨g, cap, cur, rfl, hbg, hg, hnc, hcm, hcs, htake⟩
  · subst h0
    exact ⟨none, 0, rfl, hl, Nat.le_refl _, by omega, bd_get hb, .inl ⟨rfl, fun _ => rfl⟩⟩
  · refine ⟨_, cap, rfl, hl, hnc, by unfold maxLen at hcm; omega, bd_get hb, .inr ⟨g, 0, rfl, fun i hi => ?_⟩⟩
    have hx : (xs.map (Value.int .u8))[i]? = some (.int .u8 (xs.getD i 0)) := by simp [show i < xs.length by omega]
    have := h.cells (g := g) rfl i _ hx
    have hadd : (⟨g, 0, none⟩ : Addr).add i = ⟨g, 0 + i, none⟩ := by unfold Addr.add; split <;> simp_all
    rwa [hadd] at this
theorem reads_kept {w w' : World} {a : Option Addr} {len cap : Nat} {xs : List Int} (h : Reads w a len cap xs) (hb : Below w.heap.size w w') : Reads w' a len cap xs := by
  refine ⟨h.length, h.le, h.max, h.bd, ?_⟩
  rcases h.cells with h0 | ⟨b, off, rfl, hc⟩
  · exact .inl h0
  · exact .inr ⟨b, off, rfl, fun i hi => by rw [hb.cell (p := ⟨b, off + i, none⟩) (World.block_lt_of_cell? _ _ (hc i hi))]; exact hc i hi⟩
theorem below_alloc {w : World} (o : Obj) : Below w.heap.size w (w.alloc o) := (Below.refl _ _).alloc (Nat.le_refl _) o
theorem below_trans {w w1 w2 : World} (h1 : Below w.heap.size w w1) (h2 : Below w1.heap.size w1 w2) : Below w.heap.size w w2 := h1.trans (h2.mono h1.size)
theorem reads_nil (w : World) : Reads w none 0 0 [] := ⟨rfl, Nat.le_refl _, by omega, by simp, .inl ⟨rfl, fun _ => rfl⟩⟩
theorem byte_of (n : Int) : IntKind.u8.wrap n = n % 256 := by simp [IntKind.wrap, IntKind.bits, IntKind.signed]
theorem reads_src {w : World} {x : Addr} {len cap : Nat} {xs : List Int} (h : Reads w (some x) len cap xs) : ∀ j u, (xs.map (Value.int .u8))[j]? = some u → w.cell? (x.add j) = some u := by
  intro j u hu
  have hlen := h.length
  have hj : j < xs.length := by
    rcases Nat.lt_or_ge j xs.length with h' | h'
    · exact h'
    · rw [List.getElem?_eq_none (by simpa using h')] at hu; cases hu
  rcases h.cells with ⟨h0, _⟩ | ⟨b, off, e, hc⟩
  · omega
  · cases e
    have hadd : (⟨b, off, none⟩ : Addr).add j = ⟨b, off + j, none⟩ := by unfold Addr.add; split <;> simp_all
    rw [hadd, hc j (by omega)]
    simp [hj] at hu ⊢
    exact hu
theorem one_u8 (xs : List Int) : ∀ u ∈ xs.map (Value.int .u8), u.oneCell' = true := by
  intro u hu
  obtain ⟨x, _, rfl⟩ := List.mem_map.1 hu
  rfl
theorem reads_none {w : World} {len cap : Nat} {xs : List Int} (h : Reads w none len cap xs) : len = 0 ∧ cap = 0 ∧ xs = [] := by
  rcases h.cells with ⟨h0, h1⟩ | ⟨b, off, e, _⟩
  · exact ⟨h0, h1 rfl, List.eq_nil_of_length_eq_zero (by rw [h.length, h0])⟩
  · cases e
/-- From w to w' the slice v became v': every old block but v's own is as it was, and v' lies in v's block or in a new one. -/
structure Grow (w w' : World) (v v' : Value) : Prop where
  os : w'.os = w.os
  tape : w'.tape = w.tape
  output : w'.output = w.output
  size : w.heap.size ≤ w'.heap.size
  block : ∀ k, k < w.heap.size → v.ownBlock ≠ some k → w'.heap[k]? = w.heap[k]?
  own : v'.ownBlock = v.ownBlock ∨ ∀ k, v'.ownBlock = some k → w.heap.size ≤ k
theorem Grow.refl (w : World) (v : Value) : Grow w w v v := ⟨rfl, rfl, rfl, Nat.le_refl _, fun _ _ _ => rfl, .inl rfl⟩
theorem Grow.trans {w w1 w2 : World} {v v1 v2 : Value} (h : Grow w w1 v v1) (g : Grow w1 w2 v1 v2) : Grow w w2 v v2 := by
  refine ⟨g.os.trans h.os, g.tape.trans h.tape, g.output.trans h.output, Nat.le_trans h.size g.size, fun k hk hv => ?_, ?_⟩
  · rw [g.block k (Nat.lt_of_lt_of_le hk h.size) ?_, h.block k hk hv]
    intro e
    rcases h.own with h1 | h1
    · exact hv (h1.symm.trans e)
    · have := h1 k e; omega
  · rcases g.own with g1 | g1
    · rcases h.own with h1 | h1
      · exact .inl (g1.trans h1)
      · exact .inr fun k hk => h1 k (g1.symm.trans hk)
    · exact .inr fun k hk => Nat.le_trans h.size (g1 k hk)
theorem Grow.ofBelow {w w' : World} {v : Value} (h : Below w.heap.size w w') : Grow w w' v v :=
  ⟨h.os, h.tape, h.output, h.size, fun k hk _ => h.block k hk, .inl rfl⟩
theorem Grow.alloc {w w' : World} {v v' : Value} (h : Grow w w' v v') (o : Obj) : Grow w (w'.alloc o) v v' := h.trans (Grow.ofBelow (below_alloc o))
/-- What lies below B stays, where v lies from B on. -/
theorem Grow.below {w w' : World} {v v' : Value} {B : Nat} (h : Grow w w' v v') (hB : B ≤ w.heap.size) (hv : ∀ k, v.ownBlock = some k → B ≤ k) : Below B w w' :=
  ⟨h.os, h.tape, h.output, h.size, fun k hk => h.block k (by omega) (fun e => by have := hv k e; omega)⟩
theorem run_append_mine {P : Program} (w : World) (base : Nat) (t ty e : TypeId) (i : TypeInfo) (z : Value) (size bytes : Nat) (ht : P.underlying t = some (.slice e)) (hi : P.info? e = some i) (hz : i.zero = some z)
    (hsize : i.size = size) (hby : i.bytes = bytes) (hzs : z.cells.size = size) (hsz : 0 < size)
    (v : Value) (n : Nat) (xs : List Value) (hown : w.ownsRow base e size v n xs)
    (a : Addr) (m c : Nat) (news : List Value) (hl : news.length = m * size) (hnews : ∀ j u, news[j]? = some u → w.cell? (a.add j) = some u) (h1 : ∀ u ∈ news, u.oneCell' = true)
    (h63 : n + m ≤ maxLen) (hbytes : (n + m) * bytes ≤ 140737488355328) (hbase : base ≤ w.heap.size) :
    ∃ v' w', (Builtin.append_ #[t, t] ty #[v, .slice (some a) m c]).run P w = .ok v' w' ∧ w'.ownsRow base e size v' (n + m) (xs ++ news) ∧ Grow w w' v v' := by
  obtain ⟨v', w', hr, ho, hg, hn⟩ := run_append_own (P := P) w base t ty e i z size bytes ht hi hz hsize hby hzs hsz v n xs hown a m c news hl hnews h1 h63 hbytes hbase
  refine ⟨v', w', hr, ho, hg.os, hg.tape, hg.output, hg.size, fun k hk hv => hg.block k hk (fun e => hv e.symm), ?_⟩
  have hown0 := hown
  rcases hown.2 with ⟨rfl, rfl⟩ | ⟨g, cap, cur, rfl, hbg, hgg, hnc, hcm, hcs, htake⟩
  · have hx : xs = [] := List.eq_nil_of_length_eq_zero (by simpa using hown.1)
    subst hx
    obtain ⟨v2, w2, hr2, ho2, _, _⟩ := run_append_own (P := P) w w.heap.size t ty e i z size bytes ht hi hz hsize hby hzs hsz _ 0 [] (World.ownsRow_nil _ _ _ _) a m c news hl hnews h1 h63 hbytes (Nat.le_refl _)
    rw [hr] at hr2
    cases hr2
    exact .inr fun k hk => (ho2.lt k hk).1
  · subst hsize
    subst hby
    by_cases hroom : n + m ≤ cap
    · have hfit : n * i.size + news.length ≤ cur.size := by rw [hl, hcs, ← Nat.add_mul]; exact Nat.mul_le_mul_right _ hroom
      have hr2 := run_append_room (P := P) w t ty e i ht hi g n cap cur hgg a m c news hl hnews h1 hroom hfit
      rw [hr] at hr2
      cases hr2
      exact .inl rfl
    · have holds : ∀ j u, xs[j]? = some u → w.cell? ((⟨g, 0, none⟩ : Addr).add j) = some u := hown.cells (g := g) rfl
      have hsmall : n + m ≤ 9223372036854775807 := by simp only [maxLen] at h63; omega
      have hr2 := run_append_grow (P := P) w t ty e i z ht hi hz ⟨g, 0, none⟩ n cap xs hown.1 holds a m c news hl hnews (by omega) (by omega) (growslice_fits (by omega) hbytes)
      rw [hr] at hr2
      cases hr2
      refine .inr fun k hk => ?_
      simp [Value.ownBlock] at hk
      omega
theorem wpList_append_ran {P : Program} {w : World} {ops : Array Oper} {rest : List Oper} {o : Oper} {a : Act} {Q : Exit → Act → World → Prop} (hgd : o.guard = none) (s x : Operand) (t ty : TypeId)
    (ho : o.op = .call { callee := .builtin .append, args := #[s, x], argTypes := #[t, t] }) (hty : o.type = ty) (v xv v' : Value) (w' : World) (hs : a.eval s = v) (hx : a.eval x = xv)
    (hr : (Builtin.append_ #[t, t] ty #[v, xv]).run P w = .ok v' w') (h : wpList P ops Q rest (a.put o.dst v') w') : wpList P ops Q (o :: rest) a w := by
  subst hty
  refine wpList_plain hgd fun K hK => ?_
  unfold Oper.wp
  simp [execOp, ho, resolve, invoke, builtin, hs, hx, hr, Result.andThen]
  exact hK _ _ h
/-- One byte more, laid in a block of its own first. -/
theorem append_byte (base : Nat) (v : Value) (n : Nat) (xs : List Value) (w : World) (x : Int) (hown : w.ownsRow base 5 1 v n xs) (hb : base ≤ w.heap.size) (hn : n + 1 ≤ 140737488355328) :
    ∃ v' w', (Builtin.append_ #[23, 23] 23 #[v, .slice (some ⟨w.heap.size, 0, none⟩) 1 1]).run Tryz.prog (w.alloc (.cells #[.int .u8 x] 5)) = .ok v' w' ∧ w'.ownsRow base 5 1 v' (n + 1) (xs ++ [.int .u8 x]) ∧ Grow w w' v v' := by
  obtain ⟨i0, hi, hz0, hz1, hz2⟩ := info_parts Tryz.info5
  obtain ⟨v', w', hr, ho, hg⟩ := run_append_mine (P := Tryz.prog) (w.alloc (.cells #[.int .u8 x] 5)) base 23 23 5 i0 (.int .u8 0) 1 1 Tryz.underlying23 hi hz0 hz1 hz2 rfl (by decide) v n xs (hown.alloc _) ⟨w.heap.size, 0, none⟩ 1 1 [.int .u8 x] rfl (cell_one_new _ _ _) (fun u hu => by simp at hu; subst hu; rfl) (by unfold maxLen; omega) (by omega) (by simp; omega)
  exact ⟨v', w', hr, ho, ((Grow.refl w v).alloc _).trans hg⟩
/-- A slice's bytes, from wherever they lie. -/
theorem append_bytes (base : Nat) (v : Value) (n : Nat) (xs : List Value) (w : World) (a : Option Addr) (len cap : Nat) (ys : List Int) (hown : w.ownsRow base 5 1 v n xs) (hb : base ≤ w.heap.size) (hr : Reads w a len cap ys) (hn : n + len ≤ 140737488355328) :
    ∃ v' w', (Builtin.append_ #[23, 23] 23 #[v, .slice a len cap]).run Tryz.prog w = .ok v' w' ∧ w'.ownsRow base 5 1 v' (n + len) (xs ++ ys.map (Value.int .u8)) ∧ Grow w w' v v' := by
  obtain ⟨i0, hi, hz0, hz1, hz2⟩ := info_parts Tryz.info5
  cases a with
  | none =>
    obtain ⟨rfl, rfl, rfl⟩ := reads_none hr
    exact ⟨v, w, run_append_owned_none (P := Tryz.prog) (w := w) base 23 23 5 i0 1 Tryz.underlying23 hi v n xs hown, by simpa using hown, Grow.refl w v⟩
  | some x => exact run_append_mine (P := Tryz.prog) w base 23 23 5 i0 (.int .u8 0) 1 1 Tryz.underlying23 hi hz0 hz1 hz2 rfl (by decide) v n xs hown x len cap (ys.map (Value.int .u8)) (by rw [List.length_map, hr.length, Nat.mul_one]) (reads_src hr) (one_u8 ys) (by unfold maxLen; omega) (by omega) hb
theorem own_kept {w w' : World} {base e size n : Nat} {v : Value} {xs : List Value} (h : w.ownsRow base e size v n xs) (hb : Below w.heap.size w w') : w'.ownsRow base e size v n xs :=
  h.kept (row := none) ⟨hb.os, hb.tape, hb.output, hb.size, fun k hk _ => hb.block k hk⟩ (by cases hv : v.ownBlock <;> simp)
theorem own_mono {w : World} {base base' e size n : Nat} {v : Value} {xs : List Value} (h : w.ownsRow base e size v n xs) (hb : base' ≤ base) : w.ownsRow base' e size v n xs := by
  refine ⟨h.1, h.2.imp id ?_⟩
  rintro ⟨g, cap, cur, h1, h2, h3⟩
  exact ⟨g, cap, cur, h1, Nat.le_trans hb h2, h3⟩
theorem own_shape {w : World} {base e size n : Nat} {v : Value} {xs : List Value} (h : w.ownsRow base e size v n xs) : ∃ a c, v = .slice a n c := by
  rcases h.2 with ⟨rfl, rfl⟩ | ⟨g, cap, cur, rfl, _⟩
  · exact ⟨none, 0, rfl⟩
  · exact ⟨_, _, rfl⟩
end Go.Proofs.YtnfdlnelfnigdaaGreatDoor.W
namespace Go.Proofs.YtnfdlnelfnigdaaGreatDoor.W
open Go.RowKit
set_option maxRecDepth 1000000
/-- The digits of a number, at most f + 1 of them. -/
def pvF : Nat → Int → List Int
  | 0, n => [n]
  | f + 1, n => if n < 128 then [n] else (n % 128 + 128) :: pvF f (n / 128)
def pv (n : Int) : List Int := pvF 9 n
theorem pvF_small (f : Nat) {n : Int} (h : n < 128) : pvF f n = [n] := by cases f <;> simp [pvF, h]
theorem pvF_big (f : Nat) {n : Int} (h : ¬ n < 128) : pvF (f + 1) n = (n % 128 + 128) :: pvF f (n / 128) := by simp [pvF, h]
theorem div_lt (f : Nat) {n : Int} (h : n < 128 ^ (f + 1)) : n / 128 < 128 ^ f := Int.ediv_lt_of_lt_mul (by decide) (by rwa [← Int.pow_succ])
theorem lt_ten {n : Int} (h : n < 18446744073709551616) : n < 128 ^ (9 + 1) := by
  have e : (128 : Int) ^ (9 + 1) = 1180591620717411303424 := by decide
  rw [e]; omega
theorem pvF_bd : ∀ (f : Nat) (n : Int), 0 ≤ n → n < 128 ^ (f + 1) → ∀ x ∈ pvF f n, 0 ≤ x ∧ x ≤ 255
  | 0, n, h0, h1, x, hx => by simp [pvF] at hx; subst hx; simp at h1; omega
  | f + 1, n, h0, h1, x, hx => by
    by_cases h : n < 128
    · rw [pvF_small _ h] at hx; simp at hx; subst hx; omega
    · rw [pvF_big _ h] at hx
      rcases List.mem_cons.1 hx with rfl | hx
      · omega
      · exact pvF_bd f _ (by omega) (div_lt _ h1) x hx
theorem pvF_len : ∀ (f : Nat) (n : Int), 1 ≤ (pvF f n).length ∧ (pvF f n).length ≤ f + 1
  | 0, n => by simp [pvF]
  | f + 1, n => by
    by_cases h : n < 128
    · rw [pvF_small _ h]; simp
    · rw [pvF_big _ h]; have := pvF_len f (n / 128); simp; omega
theorem pv_bd {n : Int} (h0 : 0 ≤ n) (h1 : n < 18446744073709551616) : ∀ x ∈ pv n, 0 ≤ x ∧ x ≤ 255 := pvF_bd 9 n h0 (lt_ten h1)
theorem pv_len (n : Int) : 1 ≤ (pv n).length ∧ (pv n).length ≤ 10 := pvF_len 9 n
theorem and127 (n : Int) (h₀ : 0 ≤ n) (h₁ : n < 18446744073709551616) : bits .and .u64 n 127 = n % 128 := bits_mask .u64 64 (by decide) wraps_u64 7 (by decide) n h₀ (by omega)
theorem or128 (n : Int) (h₀ : 0 ≤ n) (h₁ : n < 128) : bits .or .u64 n 128 = n + 128 := u64_orv7 n 128 h₀ h₁ (by decide) (by decide) (by decide)
theorem digit (n : Int) (h₀ : 0 ≤ n) (h₁ : n < 18446744073709551616) : bits .or .u64 (bits .and .u64 n 127) 128 = n % 128 + 128 := by
  rw [and127 n h₀ h₁, or128 _ (by omega) (by omega)]
section
variable {xs : List Int} {p k : Nat} {X : Int}
end
end Go.Proofs.YtnfdlnelfnigdaaGreatDoor.W
namespace Go.Proofs.YtnfdlnelfnigdaaGreatDoor.W
open Go.RowKit
set_option maxRecDepth 1000000
theorem own_last {w : World} {base m j : Nat} {v : Value} {xs : List Value} {pre all : List Int} {N : Int} (h : w.ownsRow base 5 1 v (m + j + 1) (xs ++ pre.map (Value.int .u8) ++ [.int .u8 N])) (hj : pre.length = j) (e : all = pre ++ [N]) :
    w.ownsRow base 5 1 v (m + all.length) (xs ++ all.map (Value.int .u8)) := by
  subst hj e
  simpa [Nat.add_assoc] using h
theorem own_more {w : World} {base m j : Nat} {v : Value} {xs : List Value} {pre : List Int} {N : Int} (h : w.ownsRow base 5 1 v (m + j + 1) (xs ++ pre.map (Value.int .u8) ++ [.int .u8 N])) :
    w.ownsRow base 5 1 v (m + (j + 1)) (xs ++ (pre ++ [N]).map (Value.int .u8)) := by
  simpa [Nat.add_assoc] using h
theorem pv_more {f : Nat} {N : Int} (h : N < 128 ^ (f + 1)) (hge : ¬ N < 128) : ∃ g, f = g + 1 ∧ N / 128 < 128 ^ (g + 1) ∧ pvF f N = (N % 128 + 128) :: pvF g (N / 128) := by
  cases f with
  | zero => simp at h; omega
  | succ g => exact ⟨g, rfl, div_lt _ h, pvF_big g hge⟩
set_option maxHeartbeats 400000 in
theorem putvR (n : Int) (w : World) (h0 : 0 ≤ n) (h1 : n < 18446744073709551616) :
    Calls Tryz.prog 87 #[.int .u64 n] w fun e w' => ∃ v', e = .returned v' ∧ w'.ownsRow w.heap.size 5 1 v' (pv n).length ((pv n).map (Value.int .u8)) ∧ Below w.heap.size w w' := by
  obtain ⟨i0, hi, hz0, hz1, hz2⟩ := info_parts Tryz.info5
  have H9 : Hid (n < 128 ^ (9 + 1)) := lt_ten h1
  go_enter Tryz.func87, Tryz.ntmps87
  go_wp2
  go_loopw [0, 3] (fun nn o wr => ∃ (f j : Nat) (N : Int) (pre : List Int), 0 ≤ N ∧ N < 18446744073709551616 ∧ Hid (N < 128 ^ (f + 1)) ∧ pre.length = j ∧ j + f ≤ 9 ∧ nn = .int .u64 N ∧ wr.ownsRow w.heap.size 5 1 o (0 + j) ([] ++ pre.map (Value.int .u8)) ∧ Below w.heap.size w wr ∧ Hid (pv n = pre ++ pvF f N)) (fun nn _ _ => (intOf nn).toNat)
  case atStart => exact ⟨9, 0, n, [], h0, h1, H9, rfl, by omega, rfl, World.ownsRow_nil _ _ _ _, Below.refl _ _, rfl⟩
  case round =>
    obtain ⟨f, j, N, pre, hN0, hN, HN, hj, hjf, rfl, ho, hbw, HP⟩ := hrel
    have hsz := hbw.size
    by_cases hlt : N < 128
    · go_wp2_with (first
        | (at_builtin; refine wpList_append_own _ rfl _ _ 23 rfl w.heap.size 5 i0 (.int .u8 0) 1 1 Tryz.underlying23 hi hz0 hz1 hz2 rfl (by decide) _ _ _ rfl (ho.alloc _) ⟨wr.heap.size, 0, none⟩ 1 1 [.int .u8 N] rfl rfl (cell_one_new _ _ _) (fun x hx => by simp at hx; subst hx; rfl) (by unfold maxLen; omega) (by omega) (by simp; omega) ?_; intro v' w3 hown' hgrow3 hnil3))
      go_ret
      refine ⟨v', rfl, ?_, Below.grown (hbw.alloc (by omega) _) hgrow3 (by simp; omega) (fun k hk => (ho.lt k hk).1)⟩
      have := own_last (all := pv n) hown' hj (by rw [HP.out, pvF_small _ hlt])
      simpa using this
    · go_wp2_with (first
        | (at_builtin; refine wpList_append_own _ rfl _ _ 23 rfl w.heap.size 5 i0 (.int .u8 0) 1 1 Tryz.underlying23 hi hz0 hz1 hz2 rfl (by decide) _ _ _ rfl (ho.alloc _) ⟨wr.heap.size, 0, none⟩ 1 1 [.int .u8 (N % 128 + 128)] rfl rfl (cell_one_new _ _ _) (fun x hx => by simp at hx; subst hx; rfl) (by unfold maxLen; omega) (by omega) (by simp; omega) ?_; intro v' w3 hown' hgrow3 hnil3))
      obtain ⟨g, rfl, hg, e⟩ := pv_more HN.out hlt
      exact ⟨⟨g, j + 1, N / 128, pre ++ [N % 128 + 128], by omega, by omega, hg, by simp [hj], by omega, rfl, own_more hown', Below.grown (hbw.alloc (by omega) _) hgrow3 (by simp; omega) (fun k hk => (ho.lt k hk).1), by show _ = _; rw [HP.out, e]; simp⟩, by simp [intOf]; omega⟩
end Go.Proofs.YtnfdlnelfnigdaaGreatDoor.W
namespace Go.Proofs.YtnfdlnelfnigdaaGreatDoor.W
open Go.RowKit
set_option maxRecDepth 1000000
theorem putvRr (n : Int) (w : World) (h0 : 0 ≤ n) (h1 : n < 18446744073709551616) :
    Calls Tryz.prog 87 #[.int .u64 n] w fun e w' => ∃ a cap, e = .returned (.slice a (pv n).length cap) ∧ Reads w' a (pv n).length cap (pv n) ∧ Below w.heap.size w w' := by
  refine (putvR n w h0 h1).mono ?_
  rintro e w' ⟨v, rfl, ho, hb⟩
  obtain ⟨a, cap, rfl, hr⟩ := own_reads ho (pv_bd h0 h1)
  exact ⟨a, cap, rfl, hr, hb⟩
end Go.Proofs.YtnfdlnelfnigdaaGreatDoor.W
namespace Go.Proofs.YtnfdlnelfnigdaaGreatDoor.W
open Go.RowKit
set_option maxRecDepth 1000000
/-- The wire kinds. -/
def okK (k : Int) : Bool := decide (k = 0 ∨ k = 1 ∨ k = 2 ∨ k = 5)
/-- The fault of a tag. -/
def tf (n k : Int) : Int := if n < 1 ∨ 536870911 < n then 5 else if okK k = true then 0 else 6
theorem okK_bd {k : Int} (h : okK k = true) : 0 ≤ k ∧ k ≤ 5 := by simp [okK] at h; omega
theorem tf_ok {n k : Int} (h : tf n k = 0) : 1 ≤ n ∧ n ≤ 536870911 ∧ okK k = true := by
  unfold tf at h
  split at h
  · cases h
  · split at h
    · exact ⟨by omega, by omega, by assumption⟩
    · cases h
theorem tag_or (n k : Int) (h0 : 0 ≤ n) (h1 : n ≤ 536870911) (k0 : 0 ≤ k) (k1 : k ≤ 7) : bits .or .u64 (n * 8) k = n * 8 + k :=
  bits_join .u64 64 (by decide) wraps_u64 3 (n * 8) k (by omega) (by omega) (by omega) k0 (by omega) (by omega)
end Go.Proofs.YtnfdlnelfnigdaaGreatDoor.W
namespace Go.Proofs.YtnfdlnelfnigdaaGreatDoor.W
open Go.RowKit
set_option maxRecDepth 1000000
theorem isKindW (k : Int) (w : World) : Calls Tryz.prog 219 #[.int .i64 k] w fun e w' => e = .returned (.bool (okK k)) ∧ w = w' := by
  by_cases h0 : k = 0
  · subst h0
    go_enter Tryz.func219, Tryz.ntmps219
    go_wp2
    go_ret
    exact ⟨rfl, rfl⟩
  by_cases h1 : k = 1
  · subst h1
    go_enter Tryz.func219, Tryz.ntmps219
    go_wp2
    go_ret
    exact ⟨rfl, rfl⟩
  by_cases h2 : k = 2
  · subst h2
    go_enter Tryz.func219, Tryz.ntmps219
    go_wp2
    go_ret
    exact ⟨rfl, rfl⟩
  by_cases h5 : k = 5
  · subst h5
    go_enter Tryz.func219, Tryz.ntmps219
    go_wp2
    go_ret
    exact ⟨rfl, rfl⟩
  have e0 : (k == 0) = false := by simp [h0]
  have e1 : (k == 1) = false := by simp [h1]
  have e2 : (k == 2) = false := by simp [h2]
  have e5 : (k == 5) = false := by simp [h5]
  have H : Hid (okK k = false) := by show _ = _; simp [okK, h0, h1, h2, h5]
  clear h0 h1 h2 h5
  go_enter Tryz.func219, Tryz.ntmps219
  go_wp2
  go_ret
  exact ⟨ret_bool H.out.symm, rfl⟩
theorem isKindR (k : Int) (w : World) : Calls Tryz.prog 123 #[.int .i64 k] w fun e w' => e = .returned (.bool (okK k)) ∧ w = w' := by
  by_cases h0 : k = 0
  · subst h0
    go_enter Tryz.func123, Tryz.ntmps123
    go_wp2
    go_ret
    exact ⟨rfl, rfl⟩
  by_cases h1 : k = 1
  · subst h1
    go_enter Tryz.func123, Tryz.ntmps123
    go_wp2
    go_ret
    exact ⟨rfl, rfl⟩
  by_cases h2 : k = 2
  · subst h2
    go_enter Tryz.func123, Tryz.ntmps123
    go_wp2
    go_ret
    exact ⟨rfl, rfl⟩
  by_cases h5 : k = 5
  · subst h5
    go_enter Tryz.func123, Tryz.ntmps123
    go_wp2
    go_ret
    exact ⟨rfl, rfl⟩
  have e0 : (k == 0) = false := by simp [h0]
  have e1 : (k == 1) = false := by simp [h1]
  have e2 : (k == 2) = false := by simp [h2]
  have e5 : (k == 5) = false := by simp [h5]
  have H : Hid (okK k = false) := by show _ = _; simp [okK, h0, h1, h2, h5]
  clear h0 h1 h2 h5
  go_enter Tryz.func123, Tryz.ntmps123
  go_wp2
  go_ret
  exact ⟨ret_bool H.out.symm, rfl⟩
theorem tagFaultW (n k : Int) (w : World) : Calls Tryz.prog 203 #[.int .i64 n, .int .i64 k] w fun e w' => e = .returned (.int .i64 (tf n k)) ∧ w = w' := by
  by_cases h1 : n < 1
  · have H : Hid (tf n k = 5) := by show _ = _; simp [tf, h1]
    have d1 : decide (n < 1) = true := by simpa using h1
    go_enter Tryz.func203, Tryz.ntmps203
    go_wp2
    go_ret
    exact ⟨ret_int H.out.symm, rfl⟩
  by_cases h2 : 536870911 < n
  · have H : Hid (tf n k = 5) := by show _ = _; simp [tf, h2]
    have d1 : decide (n < 1) = false := by simpa using h1
    have d2 : decide (536870911 < n) = true := by simpa using h2
    go_enter Tryz.func203, Tryz.ntmps203
    go_wp2
    go_ret
    exact ⟨ret_int H.out.symm, rfl⟩
  have d1 : decide (n < 1) = false := by simpa using h1
  have d2 : decide (536870911 < n) = false := by simpa using h2
  cases hk : okK k with
  | true =>
    have H : Hid (tf n k = 0) := by show _ = _; simp [tf, h1, h2, hk]
    have HK : Hid (okK k = true) := hk
    clear hk
    go_enter Tryz.func203, Tryz.ntmps203
    go_wp2_with (go_at_call 219; refine (isKindW _ _).mono ?_; rw [HK.out]; rintro e w' ⟨rfl, rfl⟩)
    go_ret
    exact ⟨ret_int H.out.symm, rfl⟩
  | false =>
    have H : Hid (tf n k = 6) := by show _ = _; simp [tf, h1, h2, hk]
    have HK : Hid (okK k = false) := hk
    clear hk
    go_enter Tryz.func203, Tryz.ntmps203
    go_wp2_with (go_at_call 219; refine (isKindW _ _).mono ?_; rw [HK.out]; rintro e w' ⟨rfl, rfl⟩)
    go_ret
    exact ⟨ret_int H.out.symm, rfl⟩
theorem tagW (n k : Int) (w : World) (h : tf n k = 0) : Calls Tryz.prog 205 #[.int .i64 n, .int .i64 k] w fun e w' => e = .returned (.int .u64 (n * 8 + k)) ∧ w = w' := by
  obtain ⟨h0, h1, hk⟩ := tf_ok h
  obtain ⟨k0, k1⟩ := okK_bd hk
  have H : Hid (bits .or .u64 (n * 8) k = n * 8 + k) := tag_or n k (by omega) h1 k0 (by omega)
  clear h hk
  go_enter Tryz.func205, Tryz.ntmps205
  go_wp2
  go_ret
  exact ⟨ret_int H.out, rfl⟩
theorem refPutTagNo (n k : Int) (w : World) (h : tf n k ≠ 0) : Calls Tryz.prog 85 #[.int .i64 n, .int .i64 k] w fun e w' => e = .returned (.tuple #[.slice none 0 0, .int .i64 (tf n k)]) ∧ w = w' := by
  by_cases h1 : n < 1
  · have H : tf n k = 5 := by simp [tf, h1]
    have d1 : decide (n < 1) = true := by simpa using h1
    rw [H]
    clear h H
    go_enter Tryz.func85, Tryz.ntmps85
    go_wp2
    go_ret2
    exact ⟨rfl, rfl⟩
  by_cases h2 : 536870911 < n
  · have H : tf n k = 5 := by simp [tf, h2]
    have d1 : decide (n < 1) = false := by simpa using h1
    have d2 : decide (536870911 < n) = true := by simpa using h2
    rw [H]
    clear h H
    go_enter Tryz.func85, Tryz.ntmps85
    go_wp2
    go_ret2
    exact ⟨rfl, rfl⟩
  have d1 : decide (n < 1) = false := by simpa using h1
  have d2 : decide (536870911 < n) = false := by simpa using h2
  cases hk : okK k with
  | true => exact absurd (by simp [tf, h1, h2, hk]) h
  | false =>
    have H : tf n k = 6 := by simp [tf, h1, h2, hk]
    have HK : Hid (okK k = false) := hk
    rw [H]
    clear hk h H
    go_enter Tryz.func85, Tryz.ntmps85
    go_wp2_with (go_at_call 123; refine (isKindR _ _).mono ?_; rw [HK.out]; rintro e w' ⟨rfl, rfl⟩)
    go_ret2
    exact ⟨rfl, rfl⟩
theorem refPutTagYes (n k : Int) (w : World) (h : tf n k = 0) : Calls Tryz.prog 85 #[.int .i64 n, .int .i64 k] w fun e w' => ∃ v, e = .returned (.tuple #[v, .int .i64 0]) ∧ w'.ownsRow w.heap.size 5 1 v (pv (n * 8 + k)).length ((pv (n * 8 + k)).map (Value.int .u8)) ∧ Below w.heap.size w w' := by
  obtain ⟨h0, h1, hk⟩ := tf_ok h
  obtain ⟨k0, k1⟩ := okK_bd hk
  have d1 : decide (n < 1) = false := by simp; omega
  have d2 : decide (536870911 < n) = false := by simp; omega
  have HK : Hid (okK k = true) := hk
  clear h hk
  go_enter Tryz.func85, Tryz.ntmps85
  go_wp2_with (first
    | (go_at_call 123; refine (isKindR _ _).mono ?_; rw [HK.out]; rintro e w' ⟨rfl, rfl⟩)
    | (go_at_call 87; refine (putvR _ _ (by omega) (by omega)).mono ?_; rintro e w1 ⟨v, rfl, ho, hb⟩))
  go_ret2
  exact ⟨v, rfl, ho, hb⟩
end Go.Proofs.YtnfdlnelfnigdaaGreatDoor.W
namespace Go.Proofs.YtnfdlnelfnigdaaGreatDoor.W
open Go.RowKit
set_option maxRecDepth 1000000
def pw (size : Nat) (n : Int) : List Int := (List.range size).map fun i => n / 2 ^ (8 * i) % 256
/-- A chunk's bytes; reading one. -/
def pc (xs : List Int) : List Int := pv xs.length ++ xs
theorem pw_succ (s : Nat) (n : Int) : pw (s + 1) n = pw s n ++ [n / 2 ^ (8 * s) % 256] := by simp [pw, List.range_succ]
theorem pw_length (s : Nat) (n : Int) : (pw s n).length = s := by simp [pw]
theorem pw_bd (s : Nat) (n : Int) : ∀ x ∈ pw s n, 0 ≤ x ∧ x ≤ 255 := by
  intro x hx
  simp [pw] at hx
  obtain ⟨i, _, rfl⟩ := hx
  omega
end Go.Proofs.YtnfdlnelfnigdaaGreatDoor.W
namespace Go.Proofs.YtnfdlnelfnigdaaGreatDoor.W
open Go.RowKit
set_option maxRecDepth 1000000
set_option maxHeartbeats 400000 in
theorem putWordR (n : Int) (size : Nat) (w : World) (h8 : size ≤ 8) :
    Calls Tryz.prog 88 #[.int .u64 n, .int .i64 size] w fun e w' => ∃ v, e = .returned v ∧ w'.ownsRow w.heap.size 5 1 v (pw size n).length ((pw size n).map (Value.int .u8)) ∧ Below w.heap.size w w' := by
  obtain ⟨i0, hi, hz0, hz1, hz2⟩ := info_parts Tryz.info5
  go_enter Tryz.func88, Tryz.ntmps88
  go_wp2
  go_loopw [5, 6] (fun o r wr => ∃ k : Nat, k ≤ size ∧ r = .int .i64 k ∧ wr.ownsRow w.heap.size 5 1 o (0 + k) ([] ++ (pw k n).map (Value.int .u8)) ∧ Below w.heap.size w wr) (fun _ r _ => size - (intOf r).toNat)
  case atStart => exact ⟨0, by omega, rfl, by simpa [pw] using World.ownsRow_nil _ _ _ _, Below.refl _ _⟩
  case round =>
    obtain ⟨k, hk, rfl, ho, hbw⟩ := hrel
    have hsz := hbw.size
    by_cases hlt : k < size
    · go_wp2_with (first | (at_builtin; refine wpList_append_own _ rfl _ _ 23 rfl w.heap.size 5 i0 (.int .u8 0) 1 1 Tryz.underlying23 hi hz0 hz1 hz2 rfl (by decide) _ _ _ rfl (ho.alloc _) ⟨wr.heap.size, 0, none⟩ 1 1 [.int .u8 (IntKind.u8.wrap (n / 2 ^ (8 * k)))] rfl rfl (cell_one_new _ _ _) (fun x hx => by simp at hx; subst hx; rfl) (by unfold maxLen; omega) (by omega) (by simp; omega) ?_; intro v' w3 hown' hgrow3 hnil3))
      refine ⟨⟨k + 1, by omega, by go_num, ?_, Below.grown (hbw.alloc (by omega) _) hgrow3 (by simp; omega) (fun k hk => (ho.lt k hk).1)⟩, by simp [intOf]; omega⟩
      rw [pw_succ, ← byte_of]
      exact own_more hown'
    · obtain rfl : k = size := by omega
      go_wp2
      go_ret
      rw [List.nil_append, Nat.zero_add] at ho
      exact ⟨_, rfl, by rw [pw_length]; exact ho, hbw⟩
theorem putWordRr (n : Int) (size : Nat) (w : World) (h8 : size ≤ 8) :
    Calls Tryz.prog 88 #[.int .u64 n, .int .i64 size] w fun e w' => ∃ a cap, e = .returned (.slice a (pw size n).length cap) ∧ Reads w' a (pw size n).length cap (pw size n) ∧ Below w.heap.size w w' := by
  refine (putWordR n size w h8).mono ?_
  rintro e w' ⟨v, rfl, ho, hb⟩
  obtain ⟨a, cap, rfl, hr⟩ := own_reads ho (pw_bd size n)
  exact ⟨a, cap, rfl, hr, hb⟩
end Go.Proofs.YtnfdlnelfnigdaaGreatDoor.W
namespace Go.Proofs.YtnfdlnelfnigdaaGreatDoor.W
open Go.RowKit
set_option maxRecDepth 1000000
theorem own_cat {w : World} {base m n l : Nat} {v : Value} {xs : List Value} {ps ys : List Int} (h : w.ownsRow base 5 1 v (m + n + l) (xs ++ ps.map (Value.int .u8) ++ ys.map (Value.int .u8))) (hn : ps.length = n) (hl : ys.length = l) :
    w.ownsRow base 5 1 v (m + (ps ++ ys).length) (xs ++ (ps ++ ys).map (Value.int .u8)) := by
  subst hn hl
  simpa [Nat.add_assoc] using h
set_option maxHeartbeats 400000 in
theorem putChunkR (a : Option Addr) (len cap : Nat) (ys : List Int) (w : World) (hr : Reads w a len cap ys) (hm : 10 + len ≤ 140737488355328) :
    Calls Tryz.prog 89 #[.slice a len cap] w fun e w' => ∃ v', e = .returned v' ∧ w'.ownsRow w.heap.size 5 1 v' (pc ys).length ((pc ys).map (Value.int .u8)) ∧ Below w.heap.size w w' := by
  obtain ⟨i0, hi, hz0, hz1, hz2⟩ := info_parts Tryz.info5
  have hlen := hr.length
  have hpl := (pv_len (len : Int)).2
  have HP : Hid (pc ys = pv (len : Int) ++ ys) := by show _ = _; rw [pc, hlen]
  have HL := hid hlen
  have HR := hid hr
  clear hr hlen
  go_enter Tryz.func89, Tryz.ntmps89
  go_wp2_with fail
  refine (putvR (len : Int) _ (by omega) (by omega)).mono ?_
  rintro e w1 ⟨v1, rfl, ho1, hb1⟩
  have hr1 := reads_kept HR.out hb1
  have hsz := hb1.size
  cases a with
  | none =>
    obtain ⟨rfl, rfl, rfl⟩ := reads_none hr1
    clear hr1
    go_wp2_with (first | (at_builtin; refine wpList_append_own_none rfl _ _ 23 rfl w.heap.size 5 i0 1 Tryz.underlying23 hi _ _ _ rfl ho1 rfl ?_))
    go_ret
    exact ⟨v1, rfl, by rw [HP.out, List.append_nil]; exact ho1, hb1⟩
  | some x =>
    have hc1 := hid (reads_src hr1)
    clear hr1
    go_wp2_with (first | (at_builtin; refine wpList_append_own _ rfl _ _ 23 rfl w.heap.size 5 i0 (.int .u8 0) 1 1 Tryz.underlying23 hi hz0 hz1 hz2 rfl (by decide) _ _ _ rfl ho1 x len cap (ys.map (Value.int .u8)) rfl (by rw [List.length_map, HL.out, Nat.mul_one]) hc1.out (one_u8 ys) (by unfold maxLen; omega) (by omega) (by omega) ?_; intro v' w3 hown' hgrow3 hnil3))
    go_ret
    refine ⟨v', rfl, ?_, Below.grown hb1 hgrow3 (by omega) (fun k hk => (ho1.lt k hk).1)⟩
    have h4 := own_cat (m := 0) (xs := []) (ps := pv (len : Int)) (ys := ys) (by simpa using hown') rfl HL.out
    rw [HP.out]
    simpa using h4
end Go.Proofs.YtnfdlnelfnigdaaGreatDoor.W
namespace Go.Proofs.YtnfdlnelfnigdaaGreatDoor.W
open Go.RowKit
set_option maxRecDepth 1000000
theorem putChunkRr (a : Option Addr) (len cap : Nat) (ys : List Int) (w : World) (hr : Reads w a len cap ys) (hm : 10 + len ≤ 140737488355328) :
    Calls Tryz.prog 89 #[.slice a len cap] w fun e w' => ∃ b c, e = .returned (.slice b (pc ys).length c) ∧ Reads w' b (pc ys).length c (pc ys) ∧ Below w.heap.size w w' := by
  have hlen := hr.length
  refine (putChunkR a len cap ys w hr hm).mono ?_
  rintro e w' ⟨v, rfl, ho, hb⟩
  obtain ⟨b, c, rfl, hr2⟩ := own_reads ho (by
    intro x hx
    rcases List.mem_append.1 hx with h | h
    · exact pv_bd (by omega) (by omega) x h
    · exact bd_mem hr.bd x h)
  exact ⟨b, c, rfl, hr2, hb⟩
end Go.Proofs.YtnfdlnelfnigdaaGreatDoor.W
namespace Go.Proofs.YtnfdlnelfnigdaaGreatDoor.W
open Go.RowKit
set_option maxRecDepth 1000000
set_option maxHeartbeats 400000 in
theorem addvG (base : Nat) (v : Value) (m : Nat) (xs : List Value) (n : Int) (w : World) (hown : w.ownsRow base 5 1 v m xs) (hb : base ≤ w.heap.size) (h0 : 0 ≤ n) (h1 : n < 18446744073709551616) (hm : m + 10 ≤ 140737488355328) :
    Calls Tryz.prog 204 #[v, .int .u64 n] w fun e w' => ∃ v', e = .returned v' ∧ w'.ownsRow base 5 1 v' (m + (pv n).length) (xs ++ (pv n).map (Value.int .u8)) ∧ Grow w w' v v' := by
  have H9 : Hid (n < 128 ^ (9 + 1)) := lt_ten h1
  go_enter Tryz.func204, Tryz.ntmps204
  go_wp2
  go_loopw [0, 1] (fun o nn wr => ∃ (f j : Nat) (N : Int) (pre : List Int), 0 ≤ N ∧ N < 18446744073709551616 ∧ Hid (N < 128 ^ (f + 1)) ∧ pre.length = j ∧ j + f ≤ 9 ∧ nn = .int .u64 N ∧ wr.ownsRow base 5 1 o (m + j) (xs ++ pre.map (Value.int .u8)) ∧ Grow w wr v o ∧ Hid (pv n = pre ++ pvF f N)) (fun _ nn _ => (intOf nn).toNat)
  case atStart => exact ⟨9, 0, n, [], h0, h1, H9, rfl, by omega, rfl, by simpa using hown, Grow.refl _ _, rfl⟩
  case round =>
    obtain ⟨f, j, N, pre, hN0, hN, HN, hj, hjf, rfl, ho, hgw, HP⟩ := hrel
    have hsz := hgw.size
    have hd := digit N hN0 hN
    clear hown
    by_cases hlt : N < 128
    · obtain ⟨v', w3, hr, hown', hg'⟩ := append_byte base _ _ _ wr N ho (by omega) (by omega)
      have HR := hid hr
      clear hr
      go_wp2_with (first | (at_builtin; refine wpList_append_ran rfl _ _ 23 23 rfl rfl _ _ v' w3 rfl rfl HR.out ?_))
      go_ret
      exact ⟨v', rfl, own_last hown' hj (by rw [HP.out, pvF_small _ hlt]), hgw.trans hg'⟩
    · obtain ⟨v', w3, hr, hown', hg'⟩ := append_byte base _ _ _ wr (N % 128 + 128) ho (by omega) (by omega)
      have HR := hid hr
      clear hr
      go_wp2_with (first | (at_builtin; refine wpList_append_ran rfl _ _ 23 23 rfl rfl _ _ v' w3 rfl rfl HR.out ?_))
      obtain ⟨g, rfl, hg, e⟩ := pv_more HN.out hlt
      exact ⟨⟨g, j + 1, N / 128, pre ++ [N % 128 + 128], by omega, by omega, hg, by simp [hj], by omega, rfl, own_more hown', hgw.trans hg', by show _ = _; rw [HP.out, e]; simp⟩, by simp [intOf]; omega⟩
set_option maxHeartbeats 400000 in
theorem addWordG (base : Nat) (v : Value) (m : Nat) (xs : List Value) (n : Int) (size : Nat) (w : World) (hown : w.ownsRow base 5 1 v m xs) (hb : base ≤ w.heap.size) (h8 : size ≤ 8) (hm : m + 8 ≤ 140737488355328) :
    Calls Tryz.prog 206 #[v, .int .u64 n, .int .i64 size] w fun e w' => ∃ v', e = .returned v' ∧ w'.ownsRow base 5 1 v' (m + (pw size n).length) (xs ++ (pw size n).map (Value.int .u8)) ∧ Grow w w' v v' := by
  go_enter Tryz.func206, Tryz.ntmps206
  go_wp2
  go_loopw [0, 9] (fun o r wr => ∃ k : Nat, k ≤ size ∧ r = .int .i64 k ∧ wr.ownsRow base 5 1 o (m + k) (xs ++ (pw k n).map (Value.int .u8)) ∧ Grow w wr v o) (fun _ r _ => size - (intOf r).toNat)
  case atStart => exact ⟨0, by omega, rfl, by simpa [pw] using hown, Grow.refl _ _⟩
  case round =>
    obtain ⟨k, hk, rfl, ho, hgw⟩ := hrel
    have hsz := hgw.size
    clear hown
    by_cases hlt : k < size
    · obtain ⟨v', w3, hr, hown', hg'⟩ := append_byte base _ _ _ wr (IntKind.u8.wrap (n / 2 ^ (8 * k))) ho (by omega) (by omega)
      have HR := hid hr
      clear hr
      go_wp2_with (first | (at_builtin; refine wpList_append_ran rfl _ _ 23 23 rfl rfl _ _ v' w3 rfl rfl HR.out ?_))
      refine ⟨⟨k + 1, by omega, by go_num, ?_, hgw.trans hg'⟩, by simp [intOf]; omega⟩
      rw [pw_succ, ← byte_of]
      exact own_more hown'
    · obtain rfl : k = size := by omega
      go_wp2
      go_ret
      exact ⟨_, rfl, by rw [pw_length]; exact ho, hgw⟩
set_option maxHeartbeats 400000 in
theorem addChunkG (base : Nat) (v : Value) (m : Nat) (xs : List Value) (a : Option Addr) (len cap : Nat) (ys : List Int) (w : World) (hown : w.ownsRow base 5 1 v m xs) (hb : base ≤ w.heap.size) (hsrc : ∀ w', Below base w w' → Reads w' a len cap ys) (hm : m + 10 + len ≤ 140737488355328) :
    Calls Tryz.prog 207 #[v, .slice a len cap] w fun e w' => ∃ v', e = .returned v' ∧ w'.ownsRow base 5 1 v' (m + (pc ys).length) (xs ++ (pc ys).map (Value.int .u8)) ∧ Grow w w' v v' := by
  have hlen := (hsrc w (Below.refl _ _)).length
  have hpl := (pv_len (len : Int)).2
  have HP : Hid (pc ys = pv (len : Int) ++ ys) := by show _ = _; rw [pc, hlen]
  have HL := hid hlen
  have HS := hid hsrc
  have HO := hid hown
  clear hsrc hown hlen
  go_enter Tryz.func207, Tryz.ntmps207
  go_wp2_with fail
  refine (addvG base v m xs (len : Int) _ HO.out hb (by omega) (by omega) (by omega)).mono ?_
  rintro e w1 ⟨v1, rfl, ho1, hg1⟩
  have hb1 := hg1.below hb (fun k hk => (HO.out.lt k hk).1)
  obtain ⟨v', w3, hr, hown', hg'⟩ := append_bytes base v1 _ _ w1 a len cap ys ho1 (Nat.le_trans hb hg1.size) (HS.out w1 hb1) (by omega)
  have HR := hid hr
  clear hr
  go_wp2_with (first | (at_builtin; refine wpList_append_ran rfl _ _ 23 23 rfl rfl _ _ v' w3 rfl rfl HR.out ?_))
  go_ret
  exact ⟨v', rfl, by rw [HP.out]; exact own_cat hown' rfl HL.out, hg1.trans hg'⟩
end Go.Proofs.YtnfdlnelfnigdaaGreatDoor.W
namespace Go.Proofs.YtnfdlnelfnigdaaGreatDoor.W
open Go.RowKit
set_option maxRecDepth 1000000
/-- Do an entry's parts fit its kind? Its fault. Its bytes. -/
def fit (kind n : Int) (len : Nat) : Bool := if kind = 2 then decide (n = 0) else decide (len = 0) && (decide (kind ≠ 5) || decide (n ≤ 4294967295))
def ef (num kind n : Int) (len : Nat) : Int := if tf num kind ≠ 0 then tf num kind else if fit kind n len = true then 0 else 7
def body (kind n : Int) (ys : List Int) : List Int := if kind = 1 then pw 8 n else if kind = 5 then pw 4 n else if kind = 2 then pc ys else pv n
def pe (num kind n : Int) (ys : List Int) : List Int := pv (num * 8 + kind) ++ body kind n ys
theorem okK_cases {k : Int} (h : okK k = true) : k = 0 ∨ k = 1 ∨ k = 2 ∨ k = 5 := by simpa [okK] using h
theorem ef_tf {num kind n : Int} {len : Nat} (h : tf num kind ≠ 0) : ef num kind n len = tf num kind := by unfold ef; rw [if_pos h]
theorem ef_fit {num kind n : Int} {len : Nat} (h : tf num kind = 0) : ef num kind n len = if fit kind n len = true then 0 else 7 := by unfold ef; rw [if_neg (by simp [h])]
theorem ef_ok {num kind n : Int} {len : Nat} (h : ef num kind n len = 0) : tf num kind = 0 ∧ fit kind n len = true := by
  unfold ef at h
  split at h
  · rename_i h1; exact absurd h h1
  · rename_i h1
    split at h
    · exact ⟨by simpa using h1, by assumption⟩
    · cases h
theorem body_bd {kind n : Int} {ys : List Int} (h0 : 0 ≤ n) (h1 : n < 18446744073709551616) (hy : ∀ x ∈ ys, 0 ≤ x ∧ x ≤ 255) (hl : ys.length < 18446744073709551616) : ∀ x ∈ body kind n ys, 0 ≤ x ∧ x ≤ 255 := by
  unfold body
  split
  · exact pw_bd 8 n
  · split
    · exact pw_bd 4 n
    · split
      · intro x hx
        rcases List.mem_append.1 hx with h | h
        · exact pv_bd (by omega) (by omega) x h
        · exact hy x h
      · exact pv_bd h0 h1
theorem pe_bd {num kind n : Int} {ys : List Int} (ht : tf num kind = 0) (h0 : 0 ≤ n) (h1 : n < 18446744073709551616) (hy : ∀ x ∈ ys, 0 ≤ x ∧ x ≤ 255) (hl : ys.length < 18446744073709551616) : ∀ x ∈ pe num kind n ys, 0 ≤ x ∧ x ≤ 255 := by
  obtain ⟨a, b, c⟩ := tf_ok ht
  have := okK_bd c
  intro x hx
  rcases List.mem_append.1 hx with h | h
  · exact pv_bd (by omega) (by omega) x h
  · exact body_bd h0 h1 hy hl x h
end Go.Proofs.YtnfdlnelfnigdaaGreatDoor.W
namespace Go.Proofs.YtnfdlnelfnigdaaGreatDoor.W
open Go.RowKit
set_option maxRecDepth 1000000
set_option maxHeartbeats 400000 in
theorem entryFaultW (num kind n : Int) (a : Option Addr) (len cap : Nat) (w : World) (hl : len ≤ 9223372036854775807) :
    Calls Tryz.prog 178 #[.agg #[.int .i64 num, .int .i64 kind, .int .u64 n, .slice a len cap]] w fun e w' => e = .returned (.int .i64 (ef num kind n len)) ∧ Below w.heap.size w w' := by
  by_cases ht : tf num kind ≠ 0
  · have hne : (tf num kind != 0) = true := by simp [ht]
    rw [ef_tf ht]
    clear ht
    go_enter Tryz.func178, Tryz.ntmps178
    go_wp2_with (go_at_call 203; refine (tagFaultW _ _ _).mono ?_; rintro e w' ⟨rfl, rfl⟩)
    go_ret
    exact ⟨rfl, below_alloc _⟩
  · have ht : tf num kind = 0 := by simpa using ht
    rw [ef_fit ht]
    obtain ⟨_, _, hk⟩ := tf_ok ht
    have HT := hid ht
    clear ht
    have hk2 := okK_cases hk
    clear hk
    rcases hk2 with rfl | rfl | rfl | rfl
    · by_cases hz : len = 0
      · subst hz
        have HF : (if fit 0 n 0 = true then (0 : Int) else 7) = 0 := by simp [fit]
        rw [HF]
        clear HF
        go_enter Tryz.func178, Tryz.ntmps178
        go_wp2_with (go_at_call 203; refine (tagFaultW _ _ _).mono ?_; rw [HT.out]; rintro e w' ⟨rfl, rfl⟩)
        go_ret
        exact ⟨rfl, below_alloc _⟩
      · have hzb : ((len : Int) == 0) = false := by simp [hz]
        have HF : (if fit 0 n len = true then (0 : Int) else 7) = 7 := by simp [fit, hz]
        rw [HF]
        clear HF
        clear hz
        go_enter Tryz.func178, Tryz.ntmps178
        go_wp2_with (go_at_call 203; refine (tagFaultW _ _ _).mono ?_; rw [HT.out]; rintro e w' ⟨rfl, rfl⟩)
        go_ret
        exact ⟨rfl, below_alloc _⟩
    · by_cases hz : len = 0
      · subst hz
        have HF : (if fit 1 n 0 = true then (0 : Int) else 7) = 0 := by simp [fit]
        rw [HF]
        clear HF
        go_enter Tryz.func178, Tryz.ntmps178
        go_wp2_with (go_at_call 203; refine (tagFaultW _ _ _).mono ?_; rw [HT.out]; rintro e w' ⟨rfl, rfl⟩)
        go_ret
        exact ⟨rfl, below_alloc _⟩
      · have hzb : ((len : Int) == 0) = false := by simp [hz]
        have HF : (if fit 1 n len = true then (0 : Int) else 7) = 7 := by simp [fit, hz]
        rw [HF]
        clear HF
        clear hz
        go_enter Tryz.func178, Tryz.ntmps178
        go_wp2_with (go_at_call 203; refine (tagFaultW _ _ _).mono ?_; rw [HT.out]; rintro e w' ⟨rfl, rfl⟩)
        go_ret
        exact ⟨rfl, below_alloc _⟩
    · by_cases hz : n = 0
      · subst hz
        have HF : (if fit 2 0 len = true then (0 : Int) else 7) = 0 := by simp [fit]
        rw [HF]
        clear HF
        go_enter Tryz.func178, Tryz.ntmps178
        go_wp2_with (go_at_call 203; refine (tagFaultW _ _ _).mono ?_; rw [HT.out]; rintro e w' ⟨rfl, rfl⟩)
        go_ret
        exact ⟨rfl, below_alloc _⟩
      · have hzb : (n == 0) = false := by simp [hz]
        have HF : (if fit 2 n len = true then (0 : Int) else 7) = 7 := by simp [fit, hz]
        rw [HF]
        clear HF
        clear hz
        go_enter Tryz.func178, Tryz.ntmps178
        go_wp2_with (go_at_call 203; refine (tagFaultW _ _ _).mono ?_; rw [HT.out]; rintro e w' ⟨rfl, rfl⟩)
        go_ret
        exact ⟨rfl, below_alloc _⟩
    · by_cases hz : len = 0
      · subst hz
        by_cases hn : n ≤ 4294967295
        · have HF : (if fit 5 n 0 = true then (0 : Int) else 7) = 0 := by simp [fit, hn]
          rw [HF]
          clear HF
          have hd : decide (n ≤ 4294967295) = true := by simpa using hn
          go_enter Tryz.func178, Tryz.ntmps178
          go_wp2_with (go_at_call 203; refine (tagFaultW _ _ _).mono ?_; rw [HT.out]; rintro e w' ⟨rfl, rfl⟩)
          go_ret
          exact ⟨rfl, below_alloc _⟩
        · have HF : (if fit 5 n 0 = true then (0 : Int) else 7) = 7 := by simp [fit, hn]
          rw [HF]
          clear HF
          have hd : decide (n ≤ 4294967295) = false := by simpa using hn
          go_enter Tryz.func178, Tryz.ntmps178
          go_wp2_with (go_at_call 203; refine (tagFaultW _ _ _).mono ?_; rw [HT.out]; rintro e w' ⟨rfl, rfl⟩)
          go_ret
          exact ⟨rfl, below_alloc _⟩
      · have hzb : ((len : Int) == 0) = false := by simp [hz]
        have HF : (if fit 5 n len = true then (0 : Int) else 7) = 7 := by simp [fit, hz]
        rw [HF]
        clear HF
        clear hz
        go_enter Tryz.func178, Tryz.ntmps178
        go_wp2_with (go_at_call 203; refine (tagFaultW _ _ _).mono ?_; rw [HT.out]; rintro e w' ⟨rfl, rfl⟩)
        go_ret
        exact ⟨rfl, below_alloc _⟩
theorem own_cat2 {w : World} {base m : Nat} {v : Value} {xs : List Value} {ps ys zs : List Int} (h : w.ownsRow base 5 1 v (m + ps.length + ys.length) (xs ++ ps.map (Value.int .u8) ++ ys.map (Value.int .u8))) (e : zs = ps ++ ys) :
    w.ownsRow base 5 1 v (m + zs.length) (xs ++ zs.map (Value.int .u8)) := by
  subst e
  exact own_cat h rfl rfl
set_option maxHeartbeats 1000000 in
theorem addEntryW (base : Nat) (v : Value) (m : Nat) (xs : List Value) (num kind n : Int) (a : Option Addr) (len cap : Nat) (ys : List Int) (w : World) (hown : w.ownsRow base 5 1 v m xs) (hb : base ≤ w.heap.size) (hsrc : ∀ w', Below base w w' → Reads w' a len cap ys)
    (ht : tf num kind = 0) (hn0 : 0 ≤ n) (hn1 : n < 18446744073709551616) (hm : m + 20 + len ≤ 140737488355328) :
    Calls Tryz.prog 179 #[v, .agg #[.int .i64 num, .int .i64 kind, .int .u64 n, .slice a len cap]] w fun e w' => ∃ v', e = .returned v' ∧ w'.ownsRow base 5 1 v' (m + (pe num kind n ys).length) (xs ++ (pe num kind n ys).map (Value.int .u8)) ∧ Grow w w' v v' := by
  obtain ⟨h1, h2, hk⟩ := tf_ok ht
  have hkb := okK_bd hk
  have hlv : ∀ k, v.ownBlock = some k → base ≤ k ∧ k < w.heap.size := hown.lt
  have HLV := hid hlv
  have HT := hid ht
  have HS := hid hsrc
  have HO := hid hown
  have hpl := (pv_len (num * 8 + kind)).2
  clear hsrc hown ht hlv
  go_enter Tryz.func179, Tryz.ntmps179
  go_wp2_with fail
  refine (tagW _ _ _ HT.out).mono ?_
  rintro e w' ⟨rfl, rfl⟩
  go_wp2_with fail
  refine (addvG base v m xs (num * 8 + kind) _ (HO.out.alloc _) (by simp; omega) (by omega) (by omega) (by omega)).mono ?_
  rintro e w2 ⟨v2, rfl, ho2, hg2⟩
  have hg0 : Grow w (w.alloc (.cells #[.int .i64 num, .int .i64 kind, .int .u64 n, .slice a len cap] 40)) v v := (Grow.refl w v).alloc _
  have hbx : ∀ o, w2.cell? ⟨w.heap.size, o, none⟩ = (w.alloc (.cells #[.int .i64 num, .int .i64 kind, .int .u64 n, .slice a len cap] 40)).cell? ⟨w.heap.size, o, none⟩ := fun o => World.cell?_of_block (hg2.block w.heap.size (by simp) (fun e => by have := (HLV.out _ e).2; omega))
  have c1 : w2.cell? ⟨w.heap.size, 1, none⟩ = some (.int .i64 kind) := by rw [hbx, World.cell?_alloc_at _ _ _ _ rfl]; rfl
  have c2 : w2.cell? ⟨w.heap.size, 2, none⟩ = some (.int .u64 n) := by rw [hbx, World.cell?_alloc_at _ _ _ _ rfl]; rfl
  have c3 : w2.cell? ⟨w.heap.size, 3, none⟩ = some (.slice a len cap) := by rw [hbx, World.cell?_alloc_at _ _ _ _ rfl]; rfl
  have hsz2 : w.heap.size + 1 ≤ w2.heap.size := by have := hg2.size; simpa using this
  have hb2 : Below base w w2 := (hg0.trans hg2).below hb (fun k hk => (HLV.out k hk).1)
  have HB2 := hid hb2
  have HO2 := hid ho2
  have HG2 := hid hg2
  have HG0 := hid hg0
  clear hbx hb2 ho2 hg2 hg0
  have hk2 := okK_cases hk
  clear hk
  rcases hk2 with rfl | rfl | rfl | rfl
  · go_wp2_with fail
    refine (addvG base v2 _ _ n _ HO2.out (by omega) hn0 hn1 (by omega)).mono ?_
    rintro e w3 ⟨v3, rfl, ho3, hg3⟩
    go_wp2
    go_ret
    exact ⟨v3, rfl, own_cat2 ho3 rfl, (HG0.out.trans HG2.out).trans hg3⟩
  · go_wp2_with fail
    refine (addWordG base v2 _ _ n 8 _ HO2.out (by omega) (by omega) (by omega)).mono ?_
    rintro e w3 ⟨v3, rfl, ho3, hg3⟩
    go_wp2
    go_ret
    exact ⟨v3, rfl, own_cat2 ho3 rfl, (HG0.out.trans HG2.out).trans hg3⟩
  · go_wp2_with fail
    refine (addChunkG base v2 _ _ a len cap ys _ HO2.out (by omega) (fun w' h => HS.out w' (HB2.out.trans h)) (by omega)).mono ?_
    rintro e w3 ⟨v3, rfl, ho3, hg3⟩
    go_wp2
    go_ret
    exact ⟨v3, rfl, own_cat2 ho3 rfl, (HG0.out.trans HG2.out).trans hg3⟩
  · go_wp2_with fail
    refine (addWordG base v2 _ _ n 4 _ HO2.out (by omega) (by omega) (by omega)).mono ?_
    rintro e w3 ⟨v3, rfl, ho3, hg3⟩
    go_wp2
    go_ret
    exact ⟨v3, rfl, own_cat2 ho3 rfl, (HG0.out.trans HG2.out).trans hg3⟩
end Go.Proofs.YtnfdlnelfnigdaaGreatDoor.W
