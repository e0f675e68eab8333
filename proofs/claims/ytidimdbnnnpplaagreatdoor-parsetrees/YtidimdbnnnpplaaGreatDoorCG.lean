/-
  What holds of bytes wherever they lie: rows that can be read, rows of one's own, appending to them. Nothing of the program's functions.
  Plain mathematics for the layer quote: characters of UTF-8 (how wide the first one is; how many there are), quoted texts and their parts. Nothing of the program.
  Plain mathematics for words: bytes by place, lines and columns, scanning, the words of a text; nothing of the program.
  The model's decoding of a string's bytes, held against the widths of chapter 2.
  Walks over the program's counting of characters: count, Valid, Runes.
  Walks over quoting, the program's.
  Walks over the program's Quote.
  Walks over the document's Quote.
  Walks over the program's reading of a part of a quoted text: digit, getDigits, getSign, getPart.
  Walks over the program's Unquote.
-/
import Derived.Test.YtidimdbnnnpplaaGreatDoorRows
import Derived.RowKit
import Derived.Laws.BytesArg
import Derived.WalkKit
import Derived.WalkSpells
import Derived.WalkLawsBesides
import Derived.Outline
import Derived.Below
import Derived.WalkMore
import Derived.Laws.MakeOwn
import Derived.OwnWalk
import Derived.Laws.AppendOwnNone
import Derived.OpenShut
import Derived.Laws.RangeAny
import Derived.Deep.RegionLaw
namespace Go.Proofs.YtidimdbnnnpplaaGreatDoor
open Go.RowKit
set_option maxRecDepth 1000000
theorem strOfNums_inj : ∀ (xs ys : List Int), (∀ x ∈ xs, 0 ≤ x ∧ x ≤ 255) → (∀ x ∈ ys, 0 ≤ x ∧ x ≤ 255) → strOfNums xs = strOfNums ys → xs = ys := by
  intro xs ys hx hy h
  have h1 : (strOfNums xs).data.toList = (strOfNums ys).data.toList := by rw [h]
  rw [strOfNums_data, strOfNums_data] at h1
  clear h
  induction xs generalizing ys with
  | nil => cases ys with
    | nil => rfl
    | cons y r => simp at h1
  | cons x r ih => cases ys with
    | nil => simp at h1
    | cons y s =>
      simp only [List.map_cons, List.cons.injEq] at h1
      have a := hx x (by simp)
      have b := hy y (by simp)
      have h2 : (UInt8.ofNat x.toNat).toNat = (UInt8.ofNat y.toNat).toNat := by rw [h1.1]
      simp only [UInt8.toNat_ofNat'] at h2
      rw [ih s (fun z hz => hx z (by simp [hz])) (fun z hz => hy z (by simp [hz])) h1.2]
      congr 1
      omega
theorem drop_at {xs : List Int} {j : Nat} (h : j < xs.length) : xs.drop j = xs[j]?.getD 0 :: xs.drop (j + 1) := by
  rw [List.drop_eq_getElem_cons h]
  simp [h]
theorem ret_int {k : IntKind} {a b : Int} (h : a = b) : Ending.returned (.int k a) = .returned (.int k b) := by rw [h]
theorem ret_bool {a b : Bool} (h : a = b) : Ending.returned (.bool a) = .returned (.bool b) := by rw [h]
theorem hid {p : Prop} (h : p) : Hid p := h
/-- A slice of bytes that can be read: its bytes are xs. -/
structure Reads (w : World) (a : Option Addr) (len cap : Nat) (xs : List Int) : Prop where
  length : xs.length = len
  le : len ≤ cap
  max : cap ≤ 9223372036854775807
  bd : ∀ i, 0 ≤ xs.getD i 0 ∧ xs.getD i 0 ≤ 255
  cells : (len = 0 ∧ (a = none → cap = 0)) ∨ ∃ b off, a = some ⟨b, off, none⟩ ∧ ∀ i, i < len → w.cell? ⟨b, off + i, none⟩ = some (.int .u8 (xs.getD i 0))
theorem conv {w : World} {a : Option Addr} {len cap : Nat} {xs : List Int} (h : Reads w a len cap xs) : (convert 56 9 (.slice a len cap)).run Tryz.prog w = .ok (.string (strOfNums xs)) w := by
  rcases h.cells with ⟨h0, _⟩ | ⟨b, off, rfl, hc⟩
  · subst h0
    have hx : xs = [] := List.eq_nil_of_length_eq_zero h.length
    subst hx
    cases a with
    | none => rw [run_convert_bytes_nil w 56 5 Tryz.underlying56 Tryz.underlying5 0 cap 9 Tryz.underlying9]; rfl
    | some x =>
      rw [run_convert_bytes_string w 56 9 5 _ 0 cap Tryz.underlying56 Tryz.underlying5 Tryz.underlying9, run_bytesToString w _ 0 cap [] (by simp [loadCells, loadCellsFrom])]
      rfl
  · exact run_convert_bytes_arg w 56 5 Tryz.underlying56 Tryz.underlying5 b off len cap xs h.length hc 9 Tryz.underlying9
theorem Tryz.info5 : (Tryz.prog.info? 5).map (fun i => (i.zero, i.size, i.bytes)) = some (some (.int .u8 0), 1, 1) := by kernel_rfl
theorem bd_get {xs : List Int} (h : ∀ x ∈ xs, 0 ≤ x ∧ x ≤ 255) : ∀ i, 0 ≤ xs.getD i 0 ∧ xs.getD i 0 ≤ 255 := by
  intro i
  by_cases hi : i < xs.length
  · have := h xs[i] (List.getElem_mem hi)
    simpa [hi] using this
  · simp [hi]
theorem own_reads {w : World} {base n : Nat} {v : Value} {xs : List Int} (h : w.ownsRow base 5 1 v n (xs.map (Value.int .u8))) (hb : ∀ x ∈ xs, 0 ≤ x ∧ x ≤ 255) :
    ∃ a cap, v = .slice a n cap ∧ Reads w a n cap xs := by
  have hl : xs.length = n := by simpa using h.1
  rcases h.2 with ⟨rfl, h0⟩ | ⟨g, cap, cur, rfl, hbg, hg, hnc, hcm, hcs, htake⟩
  · subst h0
    exact ⟨none, 0, rfl, hl, Nat.le_refl _, by omega, bd_get hb, .inl ⟨rfl, fun _ => rfl⟩⟩
  · refine ⟨_, cap, rfl, hl, hnc, by unfold maxLen at hcm; omega, bd_get hb, .inr ⟨g, 0, rfl, fun i hi => ?_⟩⟩
    have hx : (xs.map (Value.int .u8))[i]? = some (.int .u8 (xs.getD i 0)) := by simp [show i < xs.length by omega]
    have := h.cells (g := g) rfl i _ hx
    have hadd : (⟨g, 0, none⟩ : Addr).add i = ⟨g, 0 + i, none⟩ := by unfold Addr.add; split <;> simp_all
    rwa [hadd] at this
theorem reads_kept {w w' : World} {a : Option Addr} {len cap : Nat} {xs : List Int} (h : Reads w a len cap xs) (hb : Below w.heap.size w w') : Reads w' a len cap xs := by
  refine ⟨h.length, h.le, h.max, h.bd, ?_⟩
  rcases h.cells with h0 | ⟨b, off, rfl, hc⟩
  · exact .inl h0
  · exact .inr ⟨b, off, rfl, fun i hi => by rw [hb.cell (p := ⟨b, off + i, none⟩) (World.block_lt_of_cell? _ _ (hc i hi))]; exact hc i hi⟩
theorem below_alloc {w : World} (o : Obj) : Below w.heap.size w (w.alloc o) := (Below.refl _ _).alloc (Nat.le_refl _) o
theorem below_trans {w w1 w2 : World} (h1 : Below w.heap.size w w1) (h2 : Below w1.heap.size w1 w2) : Below w.heap.size w w2 := h1.trans (h2.mono h1.size)
theorem reads_nil (w : World) : Reads w none 0 0 [] := ⟨rfl, Nat.le_refl _, by omega, by simp, .inl ⟨rfl, fun _ => rfl⟩⟩
theorem byte_of (n : Int) : IntKind.u8.wrap n = n % 256 := by simp [IntKind.wrap, IntKind.bits, IntKind.signed]
/-- From w to w' the slice v became v': every old block but v's own is as it was, and v' lies in v's block or in a new one. -/
structure Grow (w w' : World) (v v' : Value) : Prop where
  os : w'.os = w.os
  tape : w'.tape = w.tape
  output : w'.output = w.output
  size : w.heap.size ≤ w'.heap.size
  block : ∀ k, k < w.heap.size → v.ownBlock ≠ some k → w'.heap[k]? = w.heap[k]?
  own : v'.ownBlock = v.ownBlock ∨ ∀ k, v'.ownBlock = some k → w.heap.size ≤ k
theorem Grow.refl (w : World) (v : Value) : Grow w w v v := ⟨rfl, rfl, rfl, Nat.le_refl _, fun _ _ _ => rfl, .inl rfl⟩
theorem Grow.trans {w w1 w2 : World} {v v1 v2 : Value} (h : Grow w w1 v v1) (g : Grow w1 w2 v1 v2) : Grow w w2 v v2 := by
  refine ⟨g.os.trans h.os, g.tape.trans h.tape, g.output.trans h.output, Nat.le_trans h.size g.size, fun k hk hv => ?_, ?_⟩
  · rw [g.block k (Nat.lt_of_lt_of_le hk h.size) ?_, h.block k hk hv]
    intro e
    rcases h.own with h1 | h1
    · exact hv (h1.symm.trans e)
    · have := h1 k e; omega
  · rcases g.own with g1 | g1
    · rcases h.own with h1 | h1
      · exact .inl (g1.trans h1)
      · exact .inr fun k hk => h1 k (g1.symm.trans hk)
    · exact .inr fun k hk => Nat.le_trans h.size (g1 k hk)
theorem Grow.ofBelow {w w' : World} {v : Value} (h : Below w.heap.size w w') : Grow w w' v v :=
  ⟨h.os, h.tape, h.output, h.size, fun k hk _ => h.block k hk, .inl rfl⟩
theorem Grow.alloc {w w' : World} {v v' : Value} (h : Grow w w' v v') (o : Obj) : Grow w (w'.alloc o) v v' := h.trans (Grow.ofBelow (below_alloc o))
/-- What lies below B stays, where v lies from B on. -/
theorem Grow.below {w w' : World} {v v' : Value} {B : Nat} (h : Grow w w' v v') (hB : B ≤ w.heap.size) (hv : ∀ k, v.ownBlock = some k → B ≤ k) : Below B w w' :=
  ⟨h.os, h.tape, h.output, h.size, fun k hk => h.block k (by omega) (fun e => by have := hv k e; omega)⟩
theorem run_append_mine {P : Program} (w : World) (base : Nat) (t ty e : TypeId) (i : TypeInfo) (z : Value) (size bytes : Nat) (ht : P.underlying t = some (.slice e)) (hi : P.info? e = some i) (hz : i.zero = some z)
    (hsize : i.size = size) (hby : i.bytes = bytes) (hzs : z.cells.size = size) (hsz : 0 < size)
    (v : Value) (n : Nat) (xs : List Value) (hown : w.ownsRow base e size v n xs)
    (a : Addr) (m c : Nat) (news : List Value) (hl : news.length = m * size) (hnews : ∀ j u, news[j]? = some u → w.cell? (a.add j) = some u) (h1 : ∀ u ∈ news, u.oneCell' = true)
    (h63 : n + m ≤ maxLen) (hbytes : (n + m) * bytes ≤ 140737488355328) (hbase : base ≤ w.heap.size) :
    ∃ v' w', (Builtin.append_ #[t, t] ty #[v, .slice (some a) m c]).run P w = .ok v' w' ∧ w'.ownsRow base e size v' (n + m) (xs ++ news) ∧ Grow w w' v v' := by
  obtain ⟨v', w', hr, ho, hg, hn⟩ := run_append_own (P := P) w base t ty e i z size bytes ht hi hz hsize hby hzs hsz v n xs hown a m c news hl hnews h1 h63 hbytes hbase
  refine ⟨v', w', hr, ho, hg.os, hg.tape, hg.output, hg.size, fun k hk hv => hg.block k hk (fun e => hv e.symm), ?_⟩
  have hown0 := hown
  rcases hown.2 with ⟨rfl, rfl⟩ | ⟨g, cap, cur, rfl, hbg, hgg, hnc, hcm, hcs, htake⟩
  · have hx : xs = [] := List.eq_nil_of_length_eq_zero (by simpa using hown.1)
    subst hx
    obtain ⟨v2, w2, hr2, ho2, _, _⟩ := run_append_own (P := P) w w.heap.size t ty e i z size bytes ht hi hz hsize hby hzs hsz _ 0 [] (World.ownsRow_nil _ _ _ _) a m c news hl hnews h1 h63 hbytes (Nat.le_refl _)
    rw [hr] at hr2
    cases hr2
    exact .inr fun k hk => (ho2.lt k hk).1
  · subst hsize
    subst hby
    by_cases hroom : n + m ≤ cap
    · have hfit : n * i.size + news.length ≤ cur.size := by rw [hl, hcs, ← Nat.add_mul]; exact Nat.mul_le_mul_right _ hroom
      have hr2 := run_append_room (P := P) w t ty e i ht hi g n cap cur hgg a m c news hl hnews h1 hroom hfit
      rw [hr] at hr2
      cases hr2
      exact .inl rfl
    · have holds : ∀ j u, xs[j]? = some u → w.cell? ((⟨g, 0, none⟩ : Addr).add j) = some u := hown.cells (g := g) rfl
      have hsmall : n + m ≤ 9223372036854775807 := by simp only [maxLen] at h63; omega
      have hr2 := run_append_grow (P := P) w t ty e i z ht hi hz ⟨g, 0, none⟩ n cap xs hown.1 holds a m c news hl hnews (by omega) (by omega) (growslice_fits (by omega) hbytes)
      rw [hr] at hr2
      cases hr2
      refine .inr fun k hk => ?_
      simp [Value.ownBlock] at hk
      omega
theorem wpList_append_ran {P : Program} {w : World} {ops : Array Oper} {rest : List Oper} {o : Oper} {a : Act} {Q : Exit → Act → World → Prop} (hgd : o.guard = none) (s x : Operand) (t ty : TypeId)
    (ho : o.op = .call { callee := .builtin .append, args := #[s, x], argTypes := #[t, t] }) (hty : o.type = ty) (v xv v' : Value) (w' : World) (hs : a.eval s = v) (hx : a.eval x = xv)
    (hr : (Builtin.append_ #[t, t] ty #[v, xv]).run P w = .ok v' w') (h : wpList P ops Q rest (a.put o.dst v') w') : wpList P ops Q (o :: rest) a w := by
  subst hty
  refine wpList_plain hgd fun K hK => ?_
  unfold Oper.wp
  simp [execOp, ho, resolve, invoke, builtin, hs, hx, hr, Result.andThen]
  exact hK _ _ h
/-- One byte more, laid in a block of its own first. -/
theorem append_byte (base : Nat) (v : Value) (n : Nat) (xs : List Value) (w : World) (x : Int) (hown : w.ownsRow base 5 1 v n xs) (hb : base ≤ w.heap.size) (hn : n + 1 ≤ 140737488355328) :
    ∃ v' w', (Builtin.append_ #[56, 56] 56 #[v, .slice (some ⟨w.heap.size, 0, none⟩) 1 1]).run Tryz.prog (w.alloc (.cells #[.int .u8 x] 5)) = .ok v' w' ∧ w'.ownsRow base 5 1 v' (n + 1) (xs ++ [.int .u8 x]) ∧ Grow w w' v v' := by
  obtain ⟨i0, hi, hz0, hz1, hz2⟩ := info_parts Tryz.info5
  obtain ⟨v', w', hr, ho, hg⟩ := run_append_mine (P := Tryz.prog) (w.alloc (.cells #[.int .u8 x] 5)) base 56 56 5 i0 (.int .u8 0) 1 1 Tryz.underlying56 hi hz0 hz1 hz2 rfl (by decide) v n xs (hown.alloc _) ⟨w.heap.size, 0, none⟩ 1 1 [.int .u8 x] rfl (cell_one_new _ _ _) (fun u hu => by simp at hu; subst hu; rfl) (by unfold maxLen; omega) (by omega) (by simp; omega)
  exact ⟨v', w', hr, ho, ((Grow.refl w v).alloc _).trans hg⟩
theorem own_kept {w w' : World} {base e size n : Nat} {v : Value} {xs : List Value} (h : w.ownsRow base e size v n xs) (hb : Below w.heap.size w w') : w'.ownsRow base e size v n xs :=
  h.kept (row := none) ⟨hb.os, hb.tape, hb.output, hb.size, fun k hk _ => hb.block k hk⟩ (by cases hv : v.ownBlock <;> simp)
theorem own_shape {w : World} {base e size n : Nat} {v : Value} {xs : List Value} (h : w.ownsRow base e size v n xs) : ∃ a c, v = .slice a n c := by
  rcases h.2 with ⟨rfl, rfl⟩ | ⟨g, cap, cur, rfl, _⟩
  · exact ⟨none, 0, rfl⟩
  · exact ⟨_, _, rfl⟩
/-! ### Quoted texts -/
def hx (c : Int) : Int := if 48 ≤ c ∧ c ≤ 57 then c - 48 else if 97 ≤ c ∧ c ≤ 102 then c - 87 else if 65 ≤ c ∧ c ≤ 70 then c - 55 else -1
/-- The part that a text begins with: its byte and its size; size 0: it is none. -/
def dgP : List Int → Int × Nat
  | a :: b :: _ => if hx a < 0 ∨ hx b < 0 then (0, 0) else (hx a * 16 + hx b, 4)
  | _ => (0, 0)
def sgP : List Int → Int × Nat
  | [] => (0, 0)
  | d :: r => if d = 34 ∨ d = 92 then (d, 2) else if d = 110 then (10, 2) else if d = 116 then (9, 2) else if d = 114 then (13, 2) else if d = 120 then dgP r else (0, 0)
def qpart : List Int → Int × Nat
  | [] => (0, 0)
  | c :: r => if c = 34 ∨ c = 10 then (0, 0) else if c = 92 then sgP r else (c, 1)
def uqF : Nat → List Int → List Int → Option (List Int)
  | 0, _, acc => some acc
  | f + 1, l, acc => if l = [] then some acc else if (qpart l).2 = 0 then none else uqF f (l.drop (qpart l).2) (acc ++ [(qpart l).1])
def parts (xs : List Int) : List Int := (xs.drop 1).take (xs.length - 2)
/-- The bytes of a quoted text; none: it is none. -/
def uq (xs : List Int) : Option (List Int) :=
  if xs.length < 2 ∨ xs.getD 0 0 ≠ 34 ∨ xs.getD (xs.length - 1) 0 ≠ 34 then none else uqF (parts xs).length (parts xs) []
/-- The byte at a place; behind the end 0. -/
def bt (xs : List Int) (i : Nat) : Int := xs[i]?.getD 0
theorem bt_end {xs : List Int} {i : Nat} (h : xs.length ≤ i) : bt xs i = 0 := by unfold bt; rw [List.getElem?_eq_none h]; rfl
theorem bt_bd {xs : List Int} (hb : ∀ x ∈ xs, 0 ≤ x ∧ x ≤ 255) (i : Nat) : 0 ≤ bt xs i ∧ bt xs i ≤ 255 := by
  by_cases h : i < xs.length
  · have := hb xs[i] (List.getElem_mem h)
    simpa [bt, h] using this
  · rw [bt_end (by omega)]; omega
/-- Lines and columns. -/
def lnA (xs : List Int) : Nat → Int
  | 0 => 1
  | i + 1 => if bt xs i = 10 then lnA xs i + 1 else lnA xs i
def clA (xs : List Int) : Nat → Int
  | 0 => 1
  | i + 1 => if bt xs i = 10 then 1 else clA xs i + 1
theorem lnA_bd (xs : List Int) : ∀ i, 1 ≤ lnA xs i ∧ lnA xs i ≤ i + 1
  | 0 => by simp [lnA]
  | i + 1 => by have := lnA_bd xs i; unfold lnA; split <;> omega
theorem clA_bd (xs : List Int) : ∀ i, 1 ≤ clA xs i ∧ clA xs i ≤ i + 1
  | 0 => by simp [clA]
  | i + 1 => by have := clA_bd xs i; unfold clA; split <;> omega
theorem lnA_nl {xs : List Int} {i : Nat} (h : bt xs i = 10) : lnA xs (i + 1) = lnA xs i + 1 := by rw [lnA, if_pos h]
theorem lnA_on {xs : List Int} {i : Nat} (h : bt xs i ≠ 10) : lnA xs (i + 1) = lnA xs i := by rw [lnA, if_neg h]
theorem clA_nl {xs : List Int} {i : Nat} (h : bt xs i = 10) : clA xs (i + 1) = 1 := by rw [clA, if_pos h]
theorem clA_on {xs : List Int} {i : Nat} (h : bt xs i ≠ 10) : clA xs (i + 1) = clA xs i + 1 := by rw [clA, if_neg h]
/-- The first place from i on at which p does not hold. -/
def scF (p : Int → Bool) (xs : List Int) : Nat → Nat → Nat
  | 0, i => i
  | f + 1, i => if p (bt xs i) = true then scF p xs f (i + 1) else i
def sc (p : Int → Bool) (xs : List Int) (i : Nat) : Nat := scF p xs (xs.length - i) i
theorem sc_end {p : Int → Bool} {xs : List Int} {i : Nat} (h : xs.length ≤ i) : sc p xs i = i := by unfold sc; rw [show xs.length - i = 0 by omega]; rfl
theorem sc_stop {p : Int → Bool} {xs : List Int} {i : Nat} (h : p (bt xs i) = false) : sc p xs i = i := by
  unfold sc
  cases xs.length - i with
  | zero => rfl
  | succ f => rw [scF, if_neg (by simp [h])]
theorem sc_step {p : Int → Bool} {xs : List Int} {i : Nat} (hi : i < xs.length) (h : p (bt xs i) = true) : sc p xs i = sc p xs (i + 1) := by
  unfold sc
  rw [show xs.length - i = (xs.length - (i + 1)) + 1 by omega, scF, if_pos h]
theorem scF_le (p : Int → Bool) (xs : List Int) : ∀ f i, i ≤ scF p xs f i ∧ scF p xs f i ≤ i + f
  | 0, i => by simp [scF]
  | f + 1, i => by
    have := scF_le p xs f (i + 1)
    unfold scF
    split <;> omega
theorem sc_le (p : Int → Bool) (xs : List Int) (i : Nat) : i ≤ sc p xs i ∧ (i ≤ xs.length → sc p xs i ≤ xs.length) := by
  have := scF_le p xs (xs.length - i) i
  unfold sc
  omega
/-- Where a comment ends: behind the next star and slash. -/
def bkF (xs : List Int) : Nat → Nat → Option Nat
  | 0, _ => none
  | f + 1, i => if bt xs i = 42 ∧ bt xs (i + 1) = 47 then some (i + 2) else bkF xs f (i + 1)
def bk (xs : List Int) (i : Nat) : Option Nat := bkF xs (xs.length - i) i
theorem bk_end {xs : List Int} {i : Nat} (h : xs.length ≤ i) : bk xs i = none := by unfold bk; rw [show xs.length - i = 0 by omega]; rfl
theorem bk_last {xs : List Int} {i : Nat} (h : xs.length ≤ i + 1) : bk xs i = none := by
  by_cases h1 : xs.length ≤ i
  · exact bk_end h1
  · unfold bk
    rw [show xs.length - i = 0 + 1 by omega, bkF, if_neg]
    · rfl
    · rintro ⟨_, h2⟩
      rw [bt_end h] at h2
      omega
theorem bk_here {xs : List Int} {i : Nat} (h1 : bt xs i = 42) (h2 : bt xs (i + 1) = 47) : bk xs i = some (i + 2) := by
  have hi : i < xs.length := by
    rcases Nat.lt_or_ge i xs.length with h | h
    · exact h
    · rw [bt_end h] at h1; omega
  unfold bk
  rw [show xs.length - i = (xs.length - (i + 1)) + 1 by omega, bkF, if_pos ⟨h1, h2⟩]
theorem bk_step {xs : List Int} {i : Nat} (hi : i < xs.length) (h : ¬ (bt xs i = 42 ∧ bt xs (i + 1) = 47)) : bk xs i = bk xs (i + 1) := by
  unfold bk
  rw [show xs.length - i = (xs.length - (i + 1)) + 1 by omega, bkF, if_neg h]
theorem bkF_le {xs : List Int} : ∀ f i k, bkF xs f i = some k → i + 2 ≤ k ∧ k ≤ xs.length
  | 0, i, k, h => by simp [bkF] at h
  | f + 1, i, k, h => by
    unfold bkF at h
    split at h
    · rename_i hc
      simp at h
      subst h
      rcases Nat.lt_or_ge (i + 1) xs.length with h2 | h2
      · omega
      · rw [bt_end h2] at hc; omega
    · have := bkF_le f (i + 1) k h; omega
theorem bk_le {xs : List Int} {i k : Nat} (h : bk xs i = some k) : i + 2 ≤ k ∧ k ≤ xs.length := bkF_le _ _ _ h
/-- Where a text ends: behind its second quote. -/
def qeF (xs : List Int) : Nat → Nat → Option Nat
  | 0, _ => none
  | f + 1, i => if xs.length ≤ i then none else if bt xs i = 92 then qeF xs f (i + 2) else if bt xs i = 34 then some (i + 1) else qeF xs f (i + 1)
def qe (xs : List Int) (i : Nat) : Option Nat := qeF xs (xs.length + 1 - i) i
theorem qeF_fuel {xs : List Int} : ∀ f g i, xs.length < f + i → xs.length < g + i → qeF xs f i = qeF xs g i
  | 0, 0, i, _, _ => rfl
  | 0, g + 1, i, h, _ => by rw [qeF, qeF, if_pos (by omega)]
  | f + 1, 0, i, _, h => by rw [qeF, qeF, if_pos (by omega)]
  | f + 1, g + 1, i, h1, h2 => by
    unfold qeF
    rw [qeF_fuel f g (i + 2) (by omega) (by omega), qeF_fuel f g (i + 1) (by omega) (by omega)]
theorem qe_un {xs : List Int} {i : Nat} (h : i < xs.length) : qe xs i = if bt xs i = 92 then qe xs (i + 2) else if bt xs i = 34 then some (i + 1) else qe xs (i + 1) := by
  unfold qe
  rw [show xs.length + 1 - i = (xs.length - i) + 1 by omega, qeF, if_neg (by omega), qeF_fuel _ (xs.length + 1 - (i + 2)) (i + 2) (by omega) (by omega), qeF_fuel _ (xs.length + 1 - (i + 1)) (i + 1) (by omega) (by omega)]
theorem qe_end {xs : List Int} {i : Nat} (h : xs.length ≤ i) : qe xs i = none := by
  unfold qe
  cases xs.length + 1 - i with
  | zero => rfl
  | succ f => rw [qeF, if_pos h]
theorem qe_back {xs : List Int} {i : Nat} (h : i < xs.length) (hc : bt xs i = 92) : qe xs i = qe xs (i + 2) := by rw [qe_un h, if_pos hc]
theorem qe_mark {xs : List Int} {i : Nat} (h : i < xs.length) (hc : bt xs i = 34) : qe xs i = some (i + 1) := by rw [qe_un h, if_neg (by omega), if_pos hc]
theorem qe_step {xs : List Int} {i : Nat} (h : i < xs.length) (h1 : bt xs i ≠ 92) (h2 : bt xs i ≠ 34) : qe xs i = qe xs (i + 1) := by rw [qe_un h, if_neg h1, if_neg h2]
theorem qeF_le {xs : List Int} : ∀ f i k, qeF xs f i = some k → i + 1 ≤ k ∧ k ≤ xs.length
  | 0, i, k, h => by simp [qeF] at h
  | f + 1, i, k, h => by
    unfold qeF at h
    split at h
    · simp at h
    · split at h
      · have := qeF_le f (i + 2) k h; omega
      · split at h
        · simp at h; omega
        · have := qeF_le f (i + 1) k h; omega
theorem qe_le {xs : List Int} {i k : Nat} (h : qe xs i = some k) : i + 1 ≤ k ∧ k ≤ xs.length := qeF_le _ _ _ h
/-- The signs of words. -/
def isBl (c : Int) : Bool := decide (c = 32 ∨ c = 9 ∨ c = 13 ∨ c = 10)
def letB (c : Int) : Bool := decide (97 ≤ c ∧ c ≤ 122 ∨ 65 ≤ c ∧ c ≤ 90 ∨ c = 95)
def digB (c : Int) : Bool := decide (48 ≤ c ∧ c ≤ 57)
def hexB (c : Int) : Bool := decide (0 ≤ hx c)
def namB (c : Int) : Bool := letB c || digB c
def notNl (c : Int) : Bool := decide (c ≠ 10)
def sgnB (c : Int) : Bool := decide (c = 123 ∨ c = 125 ∨ c = 91 ∨ c = 93 ∨ c = 40 ∨ c = 41 ∨ c = 60 ∨ c = 62 ∨ c = 61 ∨ c = 59 ∨ c = 44 ∨ c = 46 ∨ c = 45 ∨ c = 58 ∨ c = 63)
/-- A part of a text. -/
def cut (xs : List Int) (a b : Nat) : List Int := (xs.take b).drop a
theorem cut_length (xs : List Int) (a b : Nat) (h : b ≤ xs.length) : (cut xs a b).length = b - a := by unfold cut; simp; omega
theorem cut_bd {xs : List Int} (hb : ∀ x ∈ xs, 0 ≤ x ∧ x ≤ 255) (a b : Nat) : ∀ x ∈ cut xs a b, 0 ≤ x ∧ x ≤ 255 := fun x hx => hb x (List.mem_of_mem_take (List.mem_of_mem_drop hx))
theorem cut_snoc {xs : List Int} {a b : Nat} (h : b < xs.length) (hab : a ≤ b) : cut xs a (b + 1) = cut xs a b ++ [bt xs b] := by
  unfold cut bt
  rw [List.take_succ_eq_append_getElem h, List.drop_append_of_le_length (by simp; omega)]
  simp [h]
theorem cut_nil (xs : List Int) (a : Nat) : cut xs a a = [] := by unfold cut; apply List.drop_eq_nil_of_le; simp; omega
/-- Digits' value by a base. -/
def vlF (b : Int) : Int → List Int → Int
  | a, [] => a
  | a, c :: r => vlF b (a * b + hx c) r
theorem vlF_app (b : Int) : ∀ (l r : List Int) (a : Int), vlF b a (l ++ r) = vlF b (vlF b a l) r
  | [], _, _ => rfl
  | _ :: l, r, _ => vlF_app b l r _
def vl (b : Int) (xs : List Int) (fr k : Nat) : Int := vlF b 0 (cut xs fr k)
theorem vl_self (b : Int) (xs : List Int) (fr : Nat) : vl b xs fr fr = 0 := by unfold vl; rw [cut_nil]; rfl
theorem vl_snoc {b : Int} {xs : List Int} {fr k : Nat} (h : k < xs.length) (hk : fr ≤ k) : vl b xs fr (k + 1) = vl b xs fr k * b + hx (bt xs k) := by
  unfold vl; rw [cut_snoc h hk, vlF_app]; rfl
/-- What stands at a place: something to go over, a word, a fault. -/
inductive Tk where
  | skip (j : Nat)
  | word (kind : Int) (e : Nat) (n : Int) (b : List Int)
  | bad (code : Int)
/-- Is it a number by base 16? Where its digits begin, its base, its digits. -/
def hxA (xs : List Int) (i : Nat) : Bool := decide (bt xs i = 48 ∧ bt xs (i + 1) = 120)
def nfr (xs : List Int) (i : Nat) : Nat := if hxA xs i = true then i + 2 else i
def nbs (xs : List Int) (i : Nat) : Int := if hxA xs i = true then 16 else 10
def ndg (xs : List Int) (i : Nat) : Int → Bool := if hxA xs i = true then hexB else digB
def nen (xs : List Int) (i : Nat) : Nat := sc (ndg xs i) xs (nfr xs i)
def tokN (xs : List Int) (i : Nat) : Tk :=
  if nen xs i = nfr xs i ∨ namB (bt xs (nen xs i)) = true then .bad 11
  else if 18446744073709551616 ≤ vl (nbs xs i) xs (nfr xs i) (nen xs i) then .bad 7
  else .word 2 (nen xs i) (vl (nbs xs i) xs (nfr xs i) (nen xs i)) []
def tokQ (xs : List Int) (i : Nat) : Tk := match qe xs (i + 1) with
  | none => .bad 11
  | some k => match uq (cut xs i k) with
    | none => .bad 11
    | some b => .word 3 k 0 b
def tokC (xs : List Int) (i : Nat) : Tk :=
  if bt xs (i + 1) = 47 then .skip (sc notNl xs (i + 1))
  else if bt xs (i + 1) = 42 then (match bk xs (i + 2) with
    | none => .bad 11
    | some k => .skip k)
  else .bad 11
def tok (xs : List Int) (i : Nat) : Tk :=
  if isBl (bt xs i) = true then .skip (i + 1)
  else if bt xs i = 47 then tokC xs i
  else if letB (bt xs i) = true then .word 1 (sc namB xs (i + 1)) 0 []
  else if digB (bt xs i) = true then tokN xs i
  else if bt xs i = 34 then tokQ xs i
  else if sgnB (bt xs i) = true then .word 4 (i + 1) 0 []
  else .bad 11
/-- A word: its kind, where it begins and ends, its number, its bytes. -/
structure Wd where
  kind : Int
  st : Nat
  en : Nat
  n : Int
  b : List Int
/-- The words, or the fault and its place. -/
structure Out where
  ws : List Wd
  code : Int
  pos : Nat
def lxF (xs : List Int) : Nat → Nat → List Wd → Out
  | 0, _, acc => ⟨acc, 0, 0⟩
  | f + 1, i, acc => if xs.length ≤ i then ⟨acc ++ [⟨5, i, i, 0, []⟩], 0, 0⟩ else match tok xs i with
    | .skip j => lxF xs f j acc
    | .bad c => ⟨[], c, i⟩
    | .word k e n b => lxF xs f e (acc ++ [⟨k, i, e, n, b⟩])
def lxAt (xs : List Int) (i : Nat) (acc : List Wd) : Out := lxF xs (xs.length + 1 - i) i acc
def lx (xs : List Int) : Out := lxAt xs 0 []
/-- A token goes on, within the text. -/
def Tk.ok (xs : List Int) (i : Nat) : Tk → Prop
  | .skip j => i < j ∧ j ≤ xs.length
  | .word _ e _ _ => i < e ∧ e ≤ xs.length
  | .bad _ => True
theorem tok_ok {xs : List Int} {i : Nat} (hi : i < xs.length) : (tok xs i).ok xs i := by
  unfold tok
  split
  · exact ⟨by omega, by omega⟩
  · split
    · unfold tokC
      split
      · rename_i h2
        have h3 : i + 1 < xs.length := by
          rcases Nat.lt_or_ge (i + 1) xs.length with h | h
          · exact h
          · rw [bt_end h] at h2; omega
        have := sc_le notNl xs (i + 1)
        exact ⟨by omega, this.2 (by omega)⟩
      · split
        · split
          · trivial
          · rename_i k hk
            have := bk_le hk
            exact ⟨by omega, this.2⟩
        · trivial
    · split
      · have := sc_le namB xs (i + 1)
        exact ⟨by omega, this.2 (by omega)⟩
      · split
        · rename_i hd
          unfold tokN
          split
          · trivial
          · split
            · trivial
            · rename_i hn _
              have hne : nen xs i ≠ nfr xs i := fun h => hn (.inl h)
              have hf : nfr xs i ≤ xs.length ∧ i ≤ nfr xs i := by
                unfold nfr hxA
                split
                · rename_i h2
                  simp at h2
                  rcases Nat.lt_or_ge (i + 1) xs.length with h | h
                  · omega
                  · have := h2.2; rw [bt_end h] at this; omega
                · omega
              have := sc_le (ndg xs i) xs (nfr xs i)
              have h2 := this.2 hf.1
              unfold nen at hne ⊢
              exact ⟨by omega, h2⟩
        · split
          · unfold tokQ
            split
            · trivial
            · rename_i k hk
              have := qe_le hk
              split
              · trivial
              · exact ⟨by omega, this.2⟩
          · split
            · exact ⟨by omega, by omega⟩
            · trivial
theorem tok_skip {xs : List Int} {i j : Nat} (hi : i < xs.length) (h : tok xs i = .skip j) : i < j ∧ j ≤ xs.length := by have := tok_ok hi; rw [h] at this; exact this
theorem tok_word {xs : List Int} {i e : Nat} {k n : Int} {b : List Int} (hi : i < xs.length) (h : tok xs i = .word k e n b) : i < e ∧ e ≤ xs.length := by have := tok_ok hi; rw [h] at this; exact this
theorem lxF_fuel {xs : List Int} : ∀ f g i acc, xs.length < f + i → xs.length < g + i → i ≤ xs.length → lxF xs f i acc = lxF xs g i acc
  | 0, _, i, _, h, _, h2 => by omega
  | _, 0, i, _, _, h, h2 => by omega
  | f + 1, g + 1, i, acc, h1, h2, h3 => by
    unfold lxF
    by_cases hi : xs.length ≤ i
    · rw [if_pos hi, if_pos hi]
    · rw [if_neg hi, if_neg hi]
      cases ht : tok xs i with
      | skip j =>
        have := tok_skip (by omega) ht
        exact lxF_fuel f g j acc (by omega) (by omega) this.2
      | bad c => rfl
      | word k e n b =>
        have := tok_word (by omega) ht
        exact lxF_fuel f g e _ (by omega) (by omega) this.2
theorem lxAt_end {xs : List Int} {acc : List Wd} {i : Nat} (h : i = xs.length) : lxAt xs i acc = ⟨acc ++ [⟨5, i, i, 0, []⟩], 0, 0⟩ := by
  subst h
  unfold lxAt
  rw [show xs.length + 1 - xs.length = 0 + 1 by omega, lxF, if_pos (Nat.le_refl _)]
theorem lxAt_skip {xs : List Int} {acc : List Wd} {i j : Nat} (hi : i < xs.length) (h : tok xs i = .skip j) : lxAt xs i acc = lxAt xs j acc := by
  have := tok_skip hi h
  unfold lxAt
  rw [show xs.length + 1 - i = (xs.length - i) + 1 by omega, lxF, if_neg (by omega), h]
  exact lxF_fuel _ _ _ _ (by omega) (by omega) this.2
theorem lxAt_bad {xs : List Int} {acc : List Wd} {i : Nat} {c : Int} (hi : i < xs.length) (h : tok xs i = .bad c) : lxAt xs i acc = ⟨[], c, i⟩ := by
  unfold lxAt
  rw [show xs.length + 1 - i = (xs.length - i) + 1 by omega, lxF, if_neg (by omega), h]
theorem lxAt_word {xs : List Int} {acc : List Wd} {i e : Nat} {k n : Int} {b : List Int} (hi : i < xs.length) (h : tok xs i = .word k e n b) : lxAt xs i acc = lxAt xs e (acc ++ [⟨k, i, e, n, b⟩]) := by
  have := tok_word hi h
  unfold lxAt
  rw [show xs.length + 1 - i = (xs.length - i) + 1 by omega, lxF, if_neg (by omega), h]
  exact lxF_fuel _ _ _ _ (by omega) (by omega) this.2
section
variable {s : ByteArray} {pos : Nat}
end
theorem str_list (xs : List Int) : (strOfNums xs).toList = xs.map fun n => UInt8.ofNat n.toNat := by
  rw [strOfNums, ByteArray.toList_mk]
theorem str_cut (xs : List Int) (a b : Nat) : (strOfNums xs).extract a b = strOfNums ((xs.take b).drop a) := by
  apply ByteArray.ext
  apply Array.ext'
  simp [strOfNums, ByteArray.data_extract, List.map_drop, List.map_take, List.drop_take]
theorem str_eq {xs ys : List Int} (hx : ∀ x ∈ xs, 0 ≤ x ∧ x ≤ 255) (hy : ∀ x ∈ ys, 0 ≤ x ∧ x ≤ 255) : ((strOfNums xs).toList == (strOfNums ys).toList) = decide (xs = ys) := by
  by_cases h : xs = ys
  · subst h; simp
  · have : (strOfNums xs).toList ≠ (strOfNums ys).toList := fun e => h (strOfNums_inj xs ys hx hy (by
      apply ByteArray.ext; apply Array.ext'
      rw [str_list, str_list] at e
      simpa [strOfNums] using e))
    simp [h, this]
/-- An append whose run is known, as one step of a region that draws its order. -/
theorem step_append_ran {P : Program} {ops : Array Oper} {o : Oper} {a : Act} {w : World} {K : Act → World → Prop} {Q : Exit → Act → World → Prop} {E : Prop}
    (hg : o.guard = none) (s x : Operand) (t ty : TypeId) (hop : o.op = Op.call { callee := Callee.builtin Builtin.append, args := #[s, x], argTypes := #[t, t] }) (hty : o.type = ty)
    (v xv v' : Value) (w' : World) (hs : a.eval s = v) (hx : a.eval x = xv) (hr : (Builtin.append_ #[t, t] ty #[v, xv]).run P w = .ok v' w') (hK : K (a.put o.dst v') w') :
    if Region.wanted o (yielded ops a.tmps) = true then Oper.wp P o a w K Q else E := by
  have hw : Region.wanted o (yielded ops a.tmps) = true := by simp [Region.wanted, hg]
  rw [if_pos hw]
  subst hty
  unfold Oper.wp
  simp [execOp, hop, resolve, invoke, builtin, hs, hx, hr, Result.andThen]
  exact hK
theorem ret_two {a b : Int} {c d : Bool} (h1 : a = b) (h2 : c = d) : Ending.returned (.tuple #[.int .u8 a, .bool c]) = .returned (.tuple #[.int .u8 b, .bool d]) := by rw [h1, h2]
theorem hx_range (c : Int) : -1 ≤ hx c ∧ hx c < 16 := by unfold hx; (repeat' split) <;> omega
theorem digitW (c : Int) (w : World) (h0 : 0 ≤ c) (h1 : c ≤ 255) : Calls Tryz.prog 160 #[.int .u8 c] w fun e w' => e = .returned (.tuple #[.int .u8 (max (hx c) 0), .bool (decide (0 ≤ hx c))]) ∧ w = w' := by
  by_cases d1 : 48 ≤ c ∧ c ≤ 57
  · have e : hx c = c - 48 := by unfold hx; rw [if_pos d1]
    have H : Hid (c - 48 = max (hx c) 0 ∧ true = decide (0 ≤ hx c)) := hid (by rw [e]; simp; omega)
    obtain ⟨x1, x2⟩ := d1
    clear e
    go_enter Tryz.func160, Tryz.ntmps160
    go_wp2
    go_ret2
    exact ⟨ret_two H.out.1 H.out.2, rfl⟩
  by_cases d2 : 97 ≤ c ∧ c ≤ 102
  · have e : hx c = c - 87 := by unfold hx; rw [if_neg d1, if_pos d2]
    have H : Hid (c - 97 + 10 = max (hx c) 0 ∧ true = decide (0 ≤ hx c)) := hid (by rw [e]; simp; omega)
    obtain ⟨x1, x2⟩ := d2
    clear e d1
    go_enter Tryz.func160, Tryz.ntmps160
    go_wp2
    go_ret2
    exact ⟨ret_two H.out.1 H.out.2, rfl⟩
  by_cases d3 : 65 ≤ c ∧ c ≤ 70
  · have e : hx c = c - 55 := by unfold hx; rw [if_neg d1, if_neg d2, if_pos d3]
    have H : Hid (c - 65 + 10 = max (hx c) 0 ∧ true = decide (0 ≤ hx c)) := hid (by rw [e]; simp; omega)
    obtain ⟨x1, x2⟩ := d3
    clear e d1 d2
    go_enter Tryz.func160, Tryz.ntmps160
    go_wp2
    go_ret2
    exact ⟨ret_two H.out.1 H.out.2, rfl⟩
  · have e : hx c = -1 := by unfold hx; rw [if_neg d1, if_neg d2, if_neg d3]
    have H : Hid (0 = max (hx c) 0 ∧ false = decide (0 ≤ hx c)) := hid (by rw [e]; decide)
    clear e
    go_enter Tryz.func160, Tryz.ntmps160
    go_wp2
    all_goals first
      | omega
      | (go_ret2; exact ⟨ret_two H.out.1 H.out.2, rfl⟩)
/-- A byte of a string. -/
theorem index_str {l : List Int} (hb : ∀ x ∈ l, 0 ≤ x ∧ x ≤ 255) (i : Nat) (h : i < l.length) (k : IntKind) (W : World) : (Instr.index 9 (.string (strOfNums l)) (.int k (i : Int))).run Tryz.prog W = .ok (.int .u8 (l[i]?.getD 0)) W := by
  have hs : i < (strOfNums l).size := by rw [strOfNums_size]; exact h
  rw [run_index_string W 9 _ k i Tryz.underlying9, dif_pos ⟨by omega, by omega⟩]
  simp only [Int.toNat_natCast]
  have e2 : (strOfNums l)[i]'hs = UInt8.ofNat (l[i]).toNat := by
    show (strOfNums l).data[i] = _
    simp [strOfNums]
  have := hb l[i] (List.getElem_mem h)
  rw [e2]
  congr 2
  simp [h]
  omega
theorem or_digit (H L : Int) (h0 : 0 ≤ H) (h1 : H < 16) (l0 : 0 ≤ L) (l1 : L < 16) : bits .or .u8 (H * 16) L = H * 16 + L := by
  obtain ⟨h, rfl⟩ := Int.eq_ofNat_of_zero_le h0
  obtain ⟨l, rfl⟩ := Int.eq_ofNat_of_zero_le l0
  have key : ∀ h l : Fin 16, bits .or .u8 ((h.val : Int) * 16) (l.val : Int) = (h.val : Int) * 16 + l.val := by decide
  exact key ⟨h, by omega⟩ ⟨l, by omega⟩
theorem dgP_short {l : List Int} (h : l.length < 4) : dgP (l.drop 2) = (0, 0) := by
  match l with
  | [] => rfl
  | [_] => rfl
  | [_, _] => rfl
  | [_, _, _] => rfl
  | _ :: _ :: _ :: _ :: _ => simp at h; omega
theorem dgP_at {l : List Int} (h : ¬ l.length < 4) : dgP (l.drop 2) = if hx (l[2]?.getD 0) < 0 ∨ hx (l[3]?.getD 0) < 0 then (0, 0) else (hx (l[2]?.getD 0) * 16 + hx (l[3]?.getD 0), 4) := by
  match l with
  | [] => simp at h
  | [_] => simp at h
  | [_, _] => simp at h
  | [_, _, _] => simp at h
  | _ :: _ :: _ :: _ :: _ => rfl
set_option maxHeartbeats 1000000 in
theorem getDigitsW (l : List Int) (w : World) (hb : ∀ x ∈ l, 0 ≤ x ∧ x ≤ 255) (hl : l.length ≤ 9223372036854775807) :
    Calls Tryz.prog 155 #[.string (strOfNums l)] w fun e w' => e = .returned (.tuple #[.int .u8 (dgP (l.drop 2)).1, .int .i64 (dgP (l.drop 2)).2]) ∧ w = w' := by
  have hs := strOfNums_size l
  by_cases h4 : l.length < 4
  · have H := hid (dgP_short h4)
    go_enter Tryz.func155, Tryz.ntmps155
    go_wp2
    go_ret2
    exact ⟨by rw [H.out]; rfl, rfl⟩
  · have H := hid (dgP_at h4)
    have i2 : ∀ (k : IntKind) (W : World), (Instr.index 9 (.string (strOfNums l)) (.int k 2)).run Tryz.prog W = .ok (.int .u8 (l[2]?.getD 0)) W := fun k W => index_str hb 2 (by omega) k W
    have i3 : ∀ (k : IntKind) (W : World), (Instr.index 9 (.string (strOfNums l)) (.int k 3)).run Tryz.prog W = .ok (.int .u8 (l[3]?.getD 0)) W := fun k W => index_str hb 3 (by omega) k W
    have b2 : (0 : Int) ≤ l[2]?.getD 0 ∧ l[2]?.getD 0 ≤ 255 := by have := bd_get hb 2; rwa [List.getD_eq_getElem?_getD] at this
    have b3 : (0 : Int) ≤ l[3]?.getD 0 ∧ l[3]?.getD 0 ≤ 255 := by have := bd_get hb 3; rwa [List.getD_eq_getElem?_getD] at this
    obtain ⟨x, hx2⟩ : ∃ x, l[2]?.getD 0 = x := ⟨_, rfl⟩
    obtain ⟨y, hy3⟩ : ∃ y, l[3]?.getD 0 = y := ⟨_, rfl⟩
    rw [hx2] at i2 b2 H
    rw [hy3] at i3 b3 H
    clear hx2 hy3
    have rx := hx_range x
    have ry := hx_range y
    have HX := hid b2
    have HY := hid b3
    clear hb b2 b3
    by_cases dx : hx x < 0
    · have e : decide (0 ≤ hx x) = false := by simp; omega
      have H2 : Hid (dgP (l.drop 2) = (0, 0)) := hid (by rw [H.out, if_pos (.inl dx)])
      clear H
      go_enter Tryz.func155, Tryz.ntmps155
      go_wp2_with (first
        | (go_at_call_of 160 x; refine (digitW x _ HX.out.1 HX.out.2).mono ?_; rintro e w' ⟨rfl, rfl⟩)
        | (go_at_call_of 160 y; refine (digitW y _ HY.out.1 HY.out.2).mono ?_; rintro e w' ⟨rfl, rfl⟩))
      go_ret2
      exact ⟨by rw [H2.out]; rfl, rfl⟩
    by_cases dy : hx y < 0
    · have e : decide (0 ≤ hx y) = false := by simp; omega
      have e' : decide (0 ≤ hx x) = true := by simp; omega
      have H2 : Hid (dgP (l.drop 2) = (0, 0)) := hid (by rw [H.out, if_pos (.inr dy)])
      clear H
      go_enter Tryz.func155, Tryz.ntmps155
      go_wp2_with (first
        | (go_at_call_of 160 x; refine (digitW x _ HX.out.1 HX.out.2).mono ?_; rintro e w' ⟨rfl, rfl⟩)
        | (go_at_call_of 160 y; refine (digitW y _ HY.out.1 HY.out.2).mono ?_; rintro e w' ⟨rfl, rfl⟩))
      go_ret2
      exact ⟨by rw [H2.out]; rfl, rfl⟩
    · have e : decide (0 ≤ hx y) = true := by simp; omega
      have e' : decide (0 ≤ hx x) = true := by simp; omega
      have m1 : max (hx x) 0 = hx x := by omega
      have m2 : max (hx y) 0 = hx y := by omega
      have ho := or_digit (hx x) (hx y) (by omega) (by omega) (by omega) (by omega)
      have H2 : Hid (dgP (l.drop 2) = (hx x * 16 + hx y, 4)) := hid (by rw [H.out, if_neg (by omega)])
      clear H
      go_enter Tryz.func155, Tryz.ntmps155
      go_wp2_with (first
        | (go_at_call_of 160 x; refine (digitW x _ HX.out.1 HX.out.2).mono ?_; rintro e w' ⟨rfl, rfl⟩)
        | (go_at_call_of 160 y; refine (digitW y _ HY.out.1 HY.out.2).mono ?_; rintro e w' ⟨rfl, rfl⟩))
      go_ret2
      exact ⟨by rw [H2.out]; rfl, rfl⟩
theorem sgP_short {l : List Int} (h : l.length < 2) : sgP (l.drop 1) = (0, 0) := by
  match l with
  | [] => rfl
  | [_] => rfl
  | _ :: _ :: _ => simp at h; omega
theorem sgP_at {l : List Int} (h : ¬ l.length < 2) : sgP (l.drop 1) = sgP (l[1]?.getD 0 :: l.drop 2) := by
  match l with
  | [] => simp at h
  | [_] => simp at h
  | _ :: _ :: _ => rfl
theorem pt_at {l : List Int} (h : 0 < l.length) : qpart l = qpart (l[0]?.getD 0 :: l.drop 1) := by
  match l with
  | [] => simp at h
  | _ :: _ => rfl
set_option maxHeartbeats 1000000 in
theorem getSignW (l : List Int) (w : World) (hb : ∀ x ∈ l, 0 ≤ x ∧ x ≤ 255) (hl : l.length ≤ 9223372036854775807) :
    Calls Tryz.prog 140 #[.string (strOfNums l)] w fun e w' => e = .returned (.tuple #[.int .u8 (sgP (l.drop 1)).1, .int .i64 (sgP (l.drop 1)).2]) ∧ w = w' := by
  have hs := strOfNums_size l
  by_cases h2 : l.length < 2
  · have H := hid (sgP_short h2)
    go_enter Tryz.func140, Tryz.ntmps140
    go_wp2
    go_ret2
    exact ⟨by rw [H.out]; rfl, rfl⟩
  have H := hid (sgP_at h2)
  have i1 : ∀ (k : IntKind) (W : World), (Instr.index 9 (.string (strOfNums l)) (.int k 1)).run Tryz.prog W = .ok (.int .u8 (l[1]?.getD 0)) W := fun k W => index_str hb 1 (by omega) k W
  obtain ⟨d, hd⟩ : ∃ d, l[1]?.getD 0 = d := ⟨_, rfl⟩
  rw [hd] at i1 H
  clear hd
  have HB := hid hb
  clear hb
  by_cases c34 : d = 34
  · subst c34
    have H2 : Hid (sgP (l.drop 1) = (34, 2)) := hid (by rw [H.out]; rfl)
    clear H
    go_enter Tryz.func140, Tryz.ntmps140
    go_wp2
    go_ret2
    exact ⟨by rw [H2.out]; rfl, rfl⟩
  by_cases c92 : d = 92
  · subst c92
    have H2 : Hid (sgP (l.drop 1) = (92, 2)) := hid (by rw [H.out]; rfl)
    clear H
    go_enter Tryz.func140, Tryz.ntmps140
    go_wp2
    go_ret2
    exact ⟨by rw [H2.out]; rfl, rfl⟩
  by_cases c110 : d = 110
  · subst c110
    have H2 : Hid (sgP (l.drop 1) = (10, 2)) := hid (by rw [H.out]; rfl)
    clear H
    go_enter Tryz.func140, Tryz.ntmps140
    go_wp2
    go_ret2
    exact ⟨by rw [H2.out]; rfl, rfl⟩
  by_cases c116 : d = 116
  · subst c116
    have H2 : Hid (sgP (l.drop 1) = (9, 2)) := hid (by rw [H.out]; rfl)
    clear H
    go_enter Tryz.func140, Tryz.ntmps140
    go_wp2
    go_ret2
    exact ⟨by rw [H2.out]; rfl, rfl⟩
  by_cases c114 : d = 114
  · subst c114
    have H2 : Hid (sgP (l.drop 1) = (13, 2)) := hid (by rw [H.out]; rfl)
    clear H
    go_enter Tryz.func140, Tryz.ntmps140
    go_wp2
    go_ret2
    exact ⟨by rw [H2.out]; rfl, rfl⟩
  by_cases c120 : d = 120
  · subst c120
    have H2 : Hid (sgP (l.drop 1) = dgP (l.drop 2)) := hid (by rw [H.out]; rfl)
    clear H
    go_enter Tryz.func140, Tryz.ntmps140
    go_wp2_with (go_at_call 155; refine (getDigitsW l _ HB.out hl).mono ?_; rintro e w' ⟨rfl, rfl⟩)
    go_ret2
    exact ⟨by rw [H2.out]; rfl, rfl⟩
  have H2 : Hid (sgP (l.drop 1) = (0, 0)) := hid (by rw [H.out, sgP, if_neg (by omega), if_neg c110, if_neg c116, if_neg c114, if_neg c120])
  have e1 : (d == 34) = false := by simpa using c34
  have e2 : (d == 92) = false := by simpa using c92
  have e3 : (d == 110) = false := by simpa using c110
  have e4 : (d == 116) = false := by simpa using c116
  have e5 : (d == 114) = false := by simpa using c114
  have e6 : (d == 120) = false := by simpa using c120
  clear H c34 c92 c110 c116 c114 c120
  go_enter Tryz.func140, Tryz.ntmps140
  go_wp2
  go_ret2
  exact ⟨by rw [H2.out]; rfl, rfl⟩
set_option maxHeartbeats 1000000 in
theorem getPartW (l : List Int) (w : World) (hb : ∀ x ∈ l, 0 ≤ x ∧ x ≤ 255) (hl : l.length ≤ 9223372036854775807) (h0 : 0 < l.length) :
    Calls Tryz.prog 116 #[.string (strOfNums l)] w fun e w' => e = .returned (.tuple #[.int .u8 (qpart l).1, .int .i64 (qpart l).2]) ∧ w = w' := by
  have hs := strOfNums_size l
  have H := hid (pt_at h0)
  have i1 : ∀ (k : IntKind) (W : World), (Instr.index 9 (.string (strOfNums l)) (.int k 0)).run Tryz.prog W = .ok (.int .u8 (l[0]?.getD 0)) W := fun k W => index_str hb 0 (by omega) k W
  obtain ⟨d, hd⟩ : ∃ d, l[0]?.getD 0 = d := ⟨_, rfl⟩
  rw [hd] at i1 H
  clear hd
  have HB := hid hb
  clear hb
  by_cases c34 : d = 34
  · subst c34
    have H2 : Hid (qpart l = (0, 0)) := hid (by rw [H.out]; rfl)
    clear H
    go_enter Tryz.func116, Tryz.ntmps116
    go_wp2
    go_ret2
    exact ⟨by rw [H2.out]; rfl, rfl⟩
  by_cases c10 : d = 10
  · subst c10
    have H2 : Hid (qpart l = (0, 0)) := hid (by rw [H.out]; rfl)
    clear H
    go_enter Tryz.func116, Tryz.ntmps116
    go_wp2
    go_ret2
    exact ⟨by rw [H2.out]; rfl, rfl⟩
  by_cases c92 : d = 92
  · subst c92
    have H2 : Hid (qpart l = sgP (l.drop 1)) := hid (by rw [H.out]; rfl)
    clear H
    go_enter Tryz.func116, Tryz.ntmps116
    go_wp2_with (go_at_call 140; refine (getSignW l _ HB.out hl).mono ?_; rintro e w' ⟨rfl, rfl⟩)
    go_ret2
    exact ⟨by rw [H2.out, List.drop_one]; rfl, rfl⟩
  have H2 : Hid (qpart l = (d, 1)) := hid (by rw [H.out, qpart, if_neg (by omega), if_neg c92])
  have e1 : (d == 34) = false := by simpa using c34
  have e2 : (d == 10) = false := by simpa using c10
  have e3 : (d == 92) = false := by simpa using c92
  clear H c34 c10 c92
  go_enter Tryz.func116, Tryz.ntmps116
  go_wp2
  go_ret2
  exact ⟨by rw [H2.out]; rfl, rfl⟩
/-- What Unquote answers: the bytes and the error. -/
def uqE (xs : List Int) : List Int × Int := if 65536 < xs.length then ([], 1) else match uq xs with
  | none => ([], 11)
  | some ys => (ys, 0)
theorem dgP_bd (l : List Int) : (0 ≤ (dgP l).1 ∧ (dgP l).1 ≤ 255) ∧ (dgP l).2 ≤ l.length + 2 := by
  match l with
  | [] => simp [dgP]
  | [_] => simp [dgP]
  | x :: y :: r =>
    have hx' := hx_range x
    have hy' := hx_range y
    show (0 ≤ (if hx x < 0 ∨ hx y < 0 then ((0 : Int), 0) else (hx x * 16 + hx y, 4)).1 ∧ (if hx x < 0 ∨ hx y < 0 then ((0 : Int), 0) else (hx x * 16 + hx y, 4)).1 ≤ 255) ∧ (if hx x < 0 ∨ hx y < 0 then ((0 : Int), 0) else (hx x * 16 + hx y, 4)).2 ≤ _
    split
    · simp
    · simp; omega
theorem sgP_bd {l : List Int} (hb : ∀ x ∈ l, 0 ≤ x ∧ x ≤ 255) : (0 ≤ (sgP l).1 ∧ (sgP l).1 ≤ 255) ∧ (sgP l).2 ≤ l.length + 1 := by
  cases l with
  | nil => simp [sgP]
  | cons d r =>
    have hd := hb d (by simp)
    have hr := dgP_bd r
    rw [sgP]
    by_cases h1 : d = 34 ∨ d = 92
    · rw [if_pos h1]; simp; omega
    rw [if_neg h1]
    by_cases h2 : d = 110
    · rw [if_pos h2]; simp
    rw [if_neg h2]
    by_cases h3 : d = 116
    · rw [if_pos h3]; simp
    rw [if_neg h3]
    by_cases h4 : d = 114
    · rw [if_pos h4]; simp
    rw [if_neg h4]
    by_cases h5 : d = 120
    · rw [if_pos h5]; exact ⟨hr.1, by simp only [List.length_cons]; omega⟩
    rw [if_neg h5]; simp
theorem pt_both {l : List Int} (hb : ∀ x ∈ l, 0 ≤ x ∧ x ≤ 255) : (0 ≤ (qpart l).1 ∧ (qpart l).1 ≤ 255) ∧ (qpart l).2 ≤ l.length := by
  cases l with
  | nil => simp [qpart]
  | cons c r =>
    have hc := hb c (by simp)
    have hr := sgP_bd (l := r) (fun x hx => hb x (by simp [hx]))
    rw [qpart]
    by_cases h1 : c = 34 ∨ c = 10
    · rw [if_pos h1]; simp
    rw [if_neg h1]
    by_cases h2 : c = 92
    · rw [if_pos h2]; exact ⟨hr.1, by simp only [List.length_cons]; omega⟩
    rw [if_neg h2]; simp; omega
theorem pt_bd {l : List Int} (hb : ∀ x ∈ l, 0 ≤ x ∧ x ≤ 255) : 0 ≤ (qpart l).1 ∧ (qpart l).1 ≤ 255 := (pt_both hb).1
theorem pt_le {l : List Int} (hb : ∀ x ∈ l, 0 ≤ x ∧ x ≤ 255) : (qpart l).2 ≤ l.length := (pt_both hb).2
theorem uq_step {P : List Int} {k f : Nat} {acc : List Int} (h : k < P.length) (hz : (qpart (P.drop k)).2 ≠ 0) : uqF (f + 1) (P.drop k) acc = uqF f (P.drop (k + (qpart (P.drop k)).2)) (acc ++ [(qpart (P.drop k)).1]) := by
  rw [uqF, if_neg (by simp; omega), if_neg hz, List.drop_drop]
theorem uq_bad {P : List Int} {k f : Nat} {acc : List Int} (h : k < P.length) (hz : (qpart (P.drop k)).2 = 0) : uqF (f + 1) (P.drop k) acc = none := by
  rw [uqF, if_neg (by simp; omega), if_pos hz]
theorem uq_end {P : List Int} {k f : Nat} {acc : List Int} (h : ¬ k < P.length) : uqF f (P.drop k) acc = some acc := by
  rw [List.drop_eq_nil_of_le (by omega)]
  cases f <;> simp [uqF]
theorem parts_len (xs : List Int) : (parts xs).length = xs.length - 2 := by unfold parts; simp; omega
theorem parts_bd {xs : List Int} (h : ∀ x ∈ xs, 0 ≤ x ∧ x ≤ 255) : ∀ x ∈ parts xs, 0 ≤ x ∧ x ≤ 255 := fun x hx => h x (List.mem_of_mem_drop (List.mem_of_mem_take hx))
theorem parts_cut (xs : List Int) (m : Nat) (h : xs.length = m + 2) : (strOfNums xs).extract 1 (m + 1) = strOfNums (parts xs) := by
  rw [str_cut, parts, h, List.drop_take]
  rfl
theorem uqE_big {xs : List Int} (h : 65536 < xs.length) : uqE xs = ([], 1) := by unfold uqE; rw [if_pos h]
theorem uqE_none {xs : List Int} (h : ¬ 65536 < xs.length) (hn : uq xs = none) : uqE xs = ([], 11) := by unfold uqE; rw [if_neg h, hn]
theorem uqE_some {xs ys : List Int} (h : ¬ 65536 < xs.length) (hn : uq xs = some ys) : uqE xs = (ys, 0) := by unfold uqE; rw [if_neg h, hn]
/-- What the callers of Unquote are told. -/
def Unquoted (w : World) (g : List Int × Int) (e : Ending) (w' : World) : Prop := ∃ a c, e = .returned (.tuple #[.slice a g.1.length c, .int .i64 g.2]) ∧ Reads w' a g.1.length c g.1 ∧ Below w.heap.size w w' ∧ ∀ x, a = some x → w.heap.size ≤ x.block
theorem unq_nil {w w' : World} {er : Int} (hb : Below w.heap.size w w') : Unquoted w ([], er) (.returned (.tuple #[.slice none 0 0, .int .i64 er])) w' := ⟨none, 0, rfl, reads_nil _, hb, fun _ h => by cases h⟩
set_option maxRecDepth 1000000 in
set_option maxHeartbeats 4000000 in
theorem unquoteLoop (xs : List Int) (n0 m : Nat) (w : World) (hb : ∀ x ∈ xs, 0 ≤ x ∧ x ≤ 255) (hn : xs.length = n0) (hlen : n0 = m + 2) (hm : m + 2 ≤ 65536) (h0 : xs[0]?.getD 0 = 34) (h1 : xs[m + 1]?.getD 0 = 34) :
    Calls Tryz.prog 97 #[.string (strOfNums xs)] w fun e w' => Unquoted w (uqE xs) e w' := by
  have hs : (strOfNums xs).size = n0 := by rw [strOfNums_size, hn]
  have hcut' : (strOfNums xs).extract 1 (n0 - 1) = strOfNums (parts xs) := by rw [hlen]; exact parts_cut xs m (hn.trans hlen)
  have hpl : (parts xs).length = m := by rw [parts_len, hn, hlen]; rfl
  have hps : (strOfNums (parts xs)).size = m := by rw [strOfNums_size, hpl]
  have i0 : ∀ (k : IntKind) (W : World), (Instr.index 9 (.string (strOfNums xs)) (.int k 0)).run Tryz.prog W = .ok (.int .u8 34) W := fun k W => by rw [← h0]; exact index_str hb 0 (by omega) k W
  have i1 : ∀ (k : IntKind) (W : World), (Instr.index 9 (.string (strOfNums xs)) (.int k ((n0 : Int) - 1))).run Tryz.prog W = .ok (.int .u8 34) W := fun k W => by
    have := index_str hb (m + 1) (by omega) k W
    rw [h1, show ((m + 1 : Nat) : Int) = (n0 : Int) - 1 by omega] at this
    exact this
  have HU : Hid (uq xs = uqF m (parts xs) []) := hid (by
    unfold uq
    rw [if_neg ?_, hpl]
    rw [List.getD_eq_getElem?_getD, List.getD_eq_getElem?_getD, hn, hlen, h0, show m + 2 - 1 = m + 1 by omega, h1]
    simp)
  have HPb := hid (parts_bd hb)
  have HL : Hid (¬ 65536 < xs.length) := hid (by omega)
  have hm1 : (n0 : Int) ≤ 65536 := by omega
  have hm2 : (2 : Int) ≤ (n0 : Int) := by omega
  have hm3 : (m : Int) ≤ 65536 := by omega
  obtain ⟨i5, hi, hz0, hz1, hz2⟩ := info_parts Tryz.info5
  obtain ⟨w1, hrun, hown, hgr⟩ := run_makeSlice_owned (P := Tryz.prog) w w.heap.size 56 5 i5 (.int .u8 0) 1 Tryz.underlying56 hi hz0 hz1 .i64 .i64 m (by omega) (by rw [hz2]; omega) (by unfold maxLen; omega) (Nat.le_refl _)
  have hb1 : Below w.heap.size w w1 := Below.grown (Below.refl _ _) hgr (Nat.le_refl _) (fun k hk => by cases hk)
  have HO := hid hown
  have HB1 := hid hb1
  have HPl := hid hpl
  clear hb hlen h0 h1 hpl hown hb1 hgr hn hm
  go_enter Tryz.func97, Tryz.ntmps97
  go_wp2
  go_loopw [6, 7] (fun o r wr => ∃ (k f n : Nat) (acc : List Int), k ≤ m ∧ r = .int .i64 k ∧ n ≤ k ∧ m ≤ k + f ∧ Hid (acc.length = n) ∧ Hid (wr.ownsRow w.heap.size 5 1 o n (acc.map (Value.int .u8))) ∧ Hid (∀ x ∈ acc, 0 ≤ x ∧ x ≤ 255) ∧ Hid (uqF f ((parts xs).drop k) acc = uq xs) ∧ Hid (Below w.heap.size w wr)) (fun _ r _ => m - (intOf r).toNat)
  case atStart => exact ⟨0, m, 0, [], by omega, rfl, by omega, by omega, hid rfl, HO, hid (by simp), hid (by rw [HU.out]; rfl), HB1⟩
  case round =>
    obtain ⟨k, f, n, acc, hk, rfl, hn, hf, HN, HO, HA, HQ, HB⟩ := hrel
    by_cases hlt : k < m
    · obtain ⟨f, rfl⟩ : ∃ f', f = f' + 1 := ⟨f - 1, by omega⟩
      have hcut2 : (strOfNums (parts xs)).extract k m = strOfNums ((parts xs).drop k) := by rw [str_cut, List.take_of_length_le (by rw [HPl.out]; exact Nat.le_refl _)]
      have HDb : Hid (∀ x ∈ (parts xs).drop k, 0 ≤ x ∧ x ≤ 255) := hid fun x hx => HPb.out x (List.mem_of_mem_drop hx)
      have HDl : Hid (((parts xs).drop k).length = m - k) := hid (by rw [List.length_drop, HPl.out])
      have hp1 := pt_bd HDb.out
      have hp2 : (qpart ((parts xs).drop k)).2 ≤ m - k := by rw [← HDl.out]; exact pt_le HDb.out
      have HKl : Hid (k < (parts xs).length) := hid (by rw [HPl.out]; exact hlt)
      have HBad : Hid ((qpart ((parts xs).drop k)).2 = 0 → uq xs = none) := hid fun hz => by rw [← HQ.out, uq_bad HKl.out hz]
      have HGood : Hid ((qpart ((parts xs).drop k)).2 ≠ 0 → uqF f ((parts xs).drop (k + (qpart ((parts xs).drop k)).2)) (acc ++ [(qpart ((parts xs).drop k)).1]) = uq xs) := hid fun hz => by rw [← HQ.out, uq_step HKl.out hz]
      clear HQ
      have HCall : Hid (∀ W, Calls Tryz.prog 116 #[.string (strOfNums ((parts xs).drop k))] W fun e w' => e = .returned (.tuple #[.int .u8 (qpart ((parts xs).drop k)).1, .int .i64 (qpart ((parts xs).drop k)).2]) ∧ W = w') := hid fun W => getPartW _ W HDb.out (by rw [HDl.out]; omega) (by rw [HDl.out]; omega)
      obtain ⟨pc, hpc⟩ : ∃ pc, (qpart ((parts xs).drop k)).1 = pc := ⟨_, rfl⟩
      obtain ⟨ps, hpsz⟩ : ∃ ps, (qpart ((parts xs).drop k)).2 = ps := ⟨_, rfl⟩
      rw [hpc] at HGood HCall hp1
      rw [hpsz] at HGood HBad HCall hp2
      clear hpc hpsz HDb HDl HKl
      by_cases hz : ps = 0
      · subst hz
        have HE : Hid (uqE xs = ([], 11)) := hid (uqE_none HL.out (HBad.out rfl))
        clear HGood HBad
        go_wp2_with (go_at_call 116; refine (HCall.out _).mono ?_; rintro e w' ⟨rfl, rfl⟩)
        try rw [Exit.noGoto_ret]
        go_ret2
        rw [HE.out]
        exact unq_nil HB.out
      · have hzb : ((ps : Int) == 0) = false := by simp; omega
        obtain ⟨v', w3, hr3, ho3, hg3⟩ := append_byte w.heap.size _ n _ wr pc HO.out HB.out.size (by omega)
        have hb3 : Below w.heap.size w w3 := HB.out.trans (hg3.below HB.out.size (fun j hj => (HO.out.lt j hj).1))
        have HR3 := hid hr3
        have HB3 := hid hb3
        have HO3 := hid ho3
        clear hr3 hb3 ho3 hg3
        go_wp2_with (first
          | (go_at_call 116; refine (HCall.out _).mono ?_; rintro e w' ⟨rfl, rfl⟩)
          | (at_builtin; refine wpList_append_ran rfl _ _ 56 56 rfl rfl _ _ v' w3 rfl rfl HR3.out ?_))
        exact ⟨⟨k + ps, f, n + 1, acc ++ [pc], by omega, by go_num, by omega, by omega, hid (by rw [List.length_append, HN.out]; rfl), hid (by rw [List.map_append]; exact HO3.out), hid (fun x hx => by rcases List.mem_append.1 hx with hx | hx; exact HA.out x hx; simp at hx; subst hx; exact hp1), hid (HGood.out hz), HB3⟩, by simp [intOf]; omega⟩
    · have HE : Hid (uqE xs = (acc, 0)) := hid (uqE_some HL.out (by rw [← HQ.out, uq_end (by rw [HPl.out]; exact hlt)]))
      obtain ⟨a3, c3, e3, hrd⟩ := own_reads HO.out HA.out
      subst e3
      have HRd := hid hrd
      clear hrd HQ
      go_wp2
      go_ret2
      rw [HE.out]
      exact ⟨a3, c3, by rw [HN.out]; rfl, by rw [HN.out]; exact HRd.out, HB.out, fun x hx => by subst hx; exact (HO.out.lt _ rfl).1⟩
end Go.Proofs.YtidimdbnnnpplaaGreatDoor
