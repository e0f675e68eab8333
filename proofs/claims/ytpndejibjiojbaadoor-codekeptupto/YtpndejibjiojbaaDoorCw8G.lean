/-
  What holds of bytes wherever they lie: rows that can be read, rows of one's own, appending to them. Nothing of the program's functions.
  Plain mathematics for the layer wire: the digits of a varint, reading them, zigzag; nothing of the program.
  Walks over the functions of the layer wire that only compute: zigzag, the places, the number of a varint's bytes.
  Walks over the functions that read a varint, the program's and the document's.
  Walks over 'same' and over the functions that write a varint, the program's and the document's.
  What is owned can be read, and stays; 'awake' returns true.
  code: numbers behind bytes.
-/
import Derived.Test.YtpndejibjiojbaaDoorRows
import Derived.RowKit
import Derived.Laws.BytesArg
import Derived.WalkKit
import Derived.WalkSpells
import Derived.WalkLawsBesides
import Derived.Outline
import Derived.Below
import Derived.WalkMore
import Derived.Laws.MakeOwn
import Derived.OwnWalk
import Derived.Laws.AppendOwnNone
import Derived.OpenShut
import Derived.Lib.VarintBits
import Derived.Lib.Zigzag
import Derived.Test.YtpndejibjiojbaaDoorCVP11
namespace Go.Proofs.YtpndejibjiojbaaDoor.W
open Go.RowKit
set_option maxRecDepth 1000000
theorem drop_at {xs : List Int} {j : Nat} (h : j < xs.length) : xs.drop j = xs[j]?.getD 0 :: xs.drop (j + 1) := by
  rw [List.drop_eq_getElem_cons h]
  simp [h]
theorem ret_int {k : IntKind} {a b : Int} (h : a = b) : Ending.returned (.int k a) = .returned (.int k b) := by rw [h]
theorem ret_bool {a b : Bool} (h : a = b) : Ending.returned (.bool a) = .returned (.bool b) := by rw [h]
theorem hid {p : Prop} (h : p) : Hid p := h
/-- A slice of bytes that can be read: its bytes are xs. -/
structure Reads (w : World) (a : Option Addr) (len cap : Nat) (xs : List Int) : Prop where
  length : xs.length = len
  le : len ≤ cap
  max : cap ≤ 9223372036854775807
  bd : ∀ i, 0 ≤ xs.getD i 0 ∧ xs.getD i 0 ≤ 255
  cells : (len = 0 ∧ (a = none → cap = 0)) ∨ ∃ b off, a = some ⟨b, off, none⟩ ∧ ∀ i, i < len → w.cell? ⟨b, off + i, none⟩ = some (.int .u8 (xs.getD i 0))
theorem conv {w : World} {a : Option Addr} {len cap : Nat} {xs : List Int} (h : Reads w a len cap xs) : (convert 25 9 (.slice a len cap)).run Tryd.prog w = .ok (.string (strOfNums xs)) w := by
  rcases h.cells with ⟨h0, _⟩ | ⟨b, off, rfl, hc⟩
  · subst h0
    have hx : xs = [] := List.eq_nil_of_length_eq_zero h.length
    subst hx
    cases a with
    | none => rw [run_convert_bytes_nil w 25 5 Tryd.underlying25 Tryd.underlying5 0 cap 9 Tryd.underlying9]; rfl
    | some x =>
      rw [run_convert_bytes_string w 25 9 5 _ 0 cap Tryd.underlying25 Tryd.underlying5 Tryd.underlying9, run_bytesToString w _ 0 cap [] (by simp [loadCells, loadCellsFrom])]
      rfl
  · exact run_convert_bytes_arg w 25 5 Tryd.underlying25 Tryd.underlying5 b off len cap xs h.length hc 9 Tryd.underlying9
theorem bd_mem {xs : List Int} (h : ∀ i, 0 ≤ xs.getD i 0 ∧ xs.getD i 0 ≤ 255) : ∀ x ∈ xs, 0 ≤ x ∧ x ≤ 255 := by
  intro x hx
  obtain ⟨i, hi, rfl⟩ := List.mem_iff_getElem.1 hx
  have := h i
  simpa [hi] using this
theorem Tryd.info5 : (Tryd.prog.info? 5).map (fun i => (i.zero, i.size, i.bytes)) = some (some (.int .u8 0), 1, 1) := by kernel_rfl
theorem bd_get {xs : List Int} (h : ∀ x ∈ xs, 0 ≤ x ∧ x ≤ 255) : ∀ i, 0 ≤ xs.getD i 0 ∧ xs.getD i 0 ≤ 255 := by
  intro i
  by_cases hi : i < xs.length
  · have := h xs[i] (List.getElem_mem hi)
    simpa [hi] using this
  · simp [hi]
theorem own_reads {w : World} {base n : Nat} {v : Value} {xs : List Int} (h : w.ownsRow base 5 1 v n (xs.map (Value.int .u8))) (hb : ∀ x ∈ xs, 0 ≤ x ∧ x ≤ 255) :
    ∃ a cap, v = .slice a n cap ∧ Reads w a n cap xs := by
  have hl : xs.length = n := by simpa using h.1
  rcases h.2 with ⟨rfl, h0⟩ | ⟨g, cap, cur, rfl, hbg, hg, hnc, hcm, hcs, htake⟩
  · subst h0
    exact ⟨none, 0, rfl, hl, Nat.le_refl _, by omega, bd_get hb, .inl ⟨rfl, fun _ => rfl⟩⟩
  · refine ⟨_, cap, rfl, hl, hnc, by unfold maxLen at hcm; omega, bd_get hb, .inr ⟨g, 0, rfl, fun i hi => ?_⟩⟩
    have hx : (xs.map (Value.int .u8))[i]? = some (.int .u8 (xs.getD i 0)) := by simp [show i < xs.length by omega]
    have := h.cells (g := g) rfl i _ hx
    have hadd : (⟨g, 0, none⟩ : Addr).add i = ⟨g, 0 + i, none⟩ := by unfold Addr.add; split <;> simp_all
    rwa [hadd] at this
theorem reads_kept {w w' : World} {a : Option Addr} {len cap : Nat} {xs : List Int} (h : Reads w a len cap xs) (hb : Below w.heap.size w w') : Reads w' a len cap xs := by
  refine ⟨h.length, h.le, h.max, h.bd, ?_⟩
  rcases h.cells with h0 | ⟨b, off, rfl, hc⟩
  · exact .inl h0
  · exact .inr ⟨b, off, rfl, fun i hi => by rw [hb.cell (p := ⟨b, off + i, none⟩) (World.block_lt_of_cell? _ _ (hc i hi))]; exact hc i hi⟩
theorem below_alloc {w : World} (o : Obj) : Below w.heap.size w (w.alloc o) := (Below.refl _ _).alloc (Nat.le_refl _) o
theorem below_trans {w w1 w2 : World} (h1 : Below w.heap.size w w1) (h2 : Below w1.heap.size w1 w2) : Below w.heap.size w w2 := h1.trans (h2.mono h1.size)
theorem reads_nil (w : World) : Reads w none 0 0 [] := ⟨rfl, Nat.le_refl _, by omega, by simp, .inl ⟨rfl, fun _ => rfl⟩⟩
theorem reads_src {w : World} {x : Addr} {len cap : Nat} {xs : List Int} (h : Reads w (some x) len cap xs) : ∀ j u, (xs.map (Value.int .u8))[j]? = some u → w.cell? (x.add j) = some u := by
  intro j u hu
  have hlen := h.length
  have hj : j < xs.length := by
    rcases Nat.lt_or_ge j xs.length with h' | h'
    · exact h'
    · rw [List.getElem?_eq_none (by simpa using h')] at hu; cases hu
  rcases h.cells with ⟨h0, _⟩ | ⟨b, off, e, hc⟩
  · omega
  · cases e
    have hadd : (⟨b, off, none⟩ : Addr).add j = ⟨b, off + j, none⟩ := by unfold Addr.add; split <;> simp_all
    rw [hadd, hc j (by omega)]
    simp [hj] at hu ⊢
    exact hu
theorem one_u8 (xs : List Int) : ∀ u ∈ xs.map (Value.int .u8), u.oneCell' = true := by
  intro u hu
  obtain ⟨x, _, rfl⟩ := List.mem_map.1 hu
  rfl
theorem reads_none {w : World} {len cap : Nat} {xs : List Int} (h : Reads w none len cap xs) : len = 0 ∧ cap = 0 ∧ xs = [] := by
  rcases h.cells with ⟨h0, h1⟩ | ⟨b, off, e, _⟩
  · exact ⟨h0, h1 rfl, List.eq_nil_of_length_eq_zero (by rw [h.length, h0])⟩
  · cases e
/-- From w to w' the slice v became v': every old block but v's own is as it was, and v' lies in v's block or in a new one. -/
structure Grow (w w' : World) (v v' : Value) : Prop where
  os : w'.os = w.os
  tape : w'.tape = w.tape
  output : w'.output = w.output
  size : w.heap.size ≤ w'.heap.size
  block : ∀ k, k < w.heap.size → v.ownBlock ≠ some k → w'.heap[k]? = w.heap[k]?
  own : v'.ownBlock = v.ownBlock ∨ ∀ k, v'.ownBlock = some k → w.heap.size ≤ k
theorem Grow.refl (w : World) (v : Value) : Grow w w v v := ⟨rfl, rfl, rfl, Nat.le_refl _, fun _ _ _ => rfl, .inl rfl⟩
theorem Grow.trans {w w1 w2 : World} {v v1 v2 : Value} (h : Grow w w1 v v1) (g : Grow w1 w2 v1 v2) : Grow w w2 v v2 := by
  refine ⟨g.os.trans h.os, g.tape.trans h.tape, g.output.trans h.output, Nat.le_trans h.size g.size, fun k hk hv => ?_, ?_⟩
  · rw [g.block k (Nat.lt_of_lt_of_le hk h.size) ?_, h.block k hk hv]
    intro e
    rcases h.own with h1 | h1
    · exact hv (h1.symm.trans e)
    · have := h1 k e; omega
  · rcases g.own with g1 | g1
    · rcases h.own with h1 | h1
      · exact .inl (g1.trans h1)
      · exact .inr fun k hk => h1 k (g1.symm.trans hk)
    · exact .inr fun k hk => Nat.le_trans h.size (g1 k hk)
theorem Grow.ofBelow {w w' : World} {v : Value} (h : Below w.heap.size w w') : Grow w w' v v :=
  ⟨h.os, h.tape, h.output, h.size, fun k hk _ => h.block k hk, .inl rfl⟩
theorem Grow.alloc {w w' : World} {v v' : Value} (h : Grow w w' v v') (o : Obj) : Grow w (w'.alloc o) v v' := h.trans (Grow.ofBelow (below_alloc o))
/-- What lies below B stays, where v lies from B on. -/
theorem Grow.below {w w' : World} {v v' : Value} {B : Nat} (h : Grow w w' v v') (hB : B ≤ w.heap.size) (hv : ∀ k, v.ownBlock = some k → B ≤ k) : Below B w w' :=
  ⟨h.os, h.tape, h.output, h.size, fun k hk => h.block k (by omega) (fun e => by have := hv k e; omega)⟩
theorem run_append_mine {P : Program} (w : World) (base : Nat) (t ty e : TypeId) (i : TypeInfo) (z : Value) (size bytes : Nat) (ht : P.underlying t = some (.slice e)) (hi : P.info? e = some i) (hz : i.zero = some z)
    (hsize : i.size = size) (hby : i.bytes = bytes) (hzs : z.cells.size = size) (hsz : 0 < size)
    (v : Value) (n : Nat) (xs : List Value) (hown : w.ownsRow base e size v n xs)
    (a : Addr) (m c : Nat) (news : List Value) (hl : news.length = m * size) (hnews : ∀ j u, news[j]? = some u → w.cell? (a.add j) = some u) (h1 : ∀ u ∈ news, u.oneCell' = true)
    (h63 : n + m ≤ maxLen) (hbytes : (n + m) * bytes ≤ 140737488355328) (hbase : base ≤ w.heap.size) :
    ∃ v' w', (Builtin.append_ #[t, t] ty #[v, .slice (some a) m c]).run P w = .ok v' w' ∧ w'.ownsRow base e size v' (n + m) (xs ++ news) ∧ Grow w w' v v' := by
  obtain ⟨v', w', hr, ho, hg, hn⟩ := run_append_own (P := P) w base t ty e i z size bytes ht hi hz hsize hby hzs hsz v n xs hown a m c news hl hnews h1 h63 hbytes hbase
  refine ⟨v', w', hr, ho, hg.os, hg.tape, hg.output, hg.size, fun k hk hv => hg.block k hk (fun e => hv e.symm), ?_⟩
  have hown0 := hown
  rcases hown.2 with ⟨rfl, rfl⟩ | ⟨g, cap, cur, rfl, hbg, hgg, hnc, hcm, hcs, htake⟩
  · have hx : xs = [] := List.eq_nil_of_length_eq_zero (by simpa using hown.1)
    subst hx
    obtain ⟨v2, w2, hr2, ho2, _, _⟩ := run_append_own (P := P) w w.heap.size t ty e i z size bytes ht hi hz hsize hby hzs hsz _ 0 [] (World.ownsRow_nil _ _ _ _) a m c news hl hnews h1 h63 hbytes (Nat.le_refl _)
    rw [hr] at hr2
    cases hr2
    exact .inr fun k hk => (ho2.lt k hk).1
  · subst hsize
    subst hby
    by_cases hroom : n + m ≤ cap
    · have hfit : n * i.size + news.length ≤ cur.size := by rw [hl, hcs, ← Nat.add_mul]; exact Nat.mul_le_mul_right _ hroom
      have hr2 := run_append_room (P := P) w t ty e i ht hi g n cap cur hgg a m c news hl hnews h1 hroom hfit
      rw [hr] at hr2
      cases hr2
      exact .inl rfl
    · have holds : ∀ j u, xs[j]? = some u → w.cell? ((⟨g, 0, none⟩ : Addr).add j) = some u := hown.cells (g := g) rfl
      have hsmall : n + m ≤ 9223372036854775807 := by simp only [maxLen] at h63; omega
      have hr2 := run_append_grow (P := P) w t ty e i z ht hi hz ⟨g, 0, none⟩ n cap xs hown.1 holds a m c news hl hnews (by omega) (by omega) (growslice_fits (by omega) hbytes)
      rw [hr] at hr2
      cases hr2
      refine .inr fun k hk => ?_
      simp [Value.ownBlock] at hk
      omega
theorem wpList_append_ran {P : Program} {w : World} {ops : Array Oper} {rest : List Oper} {o : Oper} {a : Act} {Q : Exit → Act → World → Prop} (hgd : o.guard = none) (s x : Operand) (t ty : TypeId)
    (ho : o.op = .call { callee := .builtin .append, args := #[s, x], argTypes := #[t, t] }) (hty : o.type = ty) (v xv v' : Value) (w' : World) (hs : a.eval s = v) (hx : a.eval x = xv)
    (hr : (Builtin.append_ #[t, t] ty #[v, xv]).run P w = .ok v' w') (h : wpList P ops Q rest (a.put o.dst v') w') : wpList P ops Q (o :: rest) a w := by
  subst hty
  refine wpList_plain hgd fun K hK => ?_
  unfold Oper.wp
  simp [execOp, ho, resolve, invoke, builtin, hs, hx, hr, Result.andThen]
  exact hK _ _ h
/-- A slice's bytes, from wherever they lie. -/
theorem append_bytes (base : Nat) (v : Value) (n : Nat) (xs : List Value) (w : World) (a : Option Addr) (len cap : Nat) (ys : List Int) (hown : w.ownsRow base 5 1 v n xs) (hb : base ≤ w.heap.size) (hr : Reads w a len cap ys) (hn : n + len ≤ 140737488355328) :
    ∃ v' w', (Builtin.append_ #[25, 25] 25 #[v, .slice a len cap]).run Tryd.prog w = .ok v' w' ∧ w'.ownsRow base 5 1 v' (n + len) (xs ++ ys.map (Value.int .u8)) ∧ Grow w w' v v' := by
  obtain ⟨i0, hi, hz0, hz1, hz2⟩ := info_parts Tryd.info5
  cases a with
  | none =>
    obtain ⟨rfl, rfl, rfl⟩ := reads_none hr
    exact ⟨v, w, run_append_owned_none (P := Tryd.prog) (w := w) base 25 25 5 i0 1 Tryd.underlying25 hi v n xs hown, by simpa using hown, Grow.refl w v⟩
  | some x => exact run_append_mine (P := Tryd.prog) w base 25 25 5 i0 (.int .u8 0) 1 1 Tryd.underlying25 hi hz0 hz1 hz2 rfl (by decide) v n xs hown x len cap (ys.map (Value.int .u8)) (by rw [List.length_map, hr.length, Nat.mul_one]) (reads_src hr) (one_u8 ys) (by unfold maxLen; omega) (by omega) hb
theorem own_kept {w w' : World} {base e size n : Nat} {v : Value} {xs : List Value} (h : w.ownsRow base e size v n xs) (hb : Below w.heap.size w w') : w'.ownsRow base e size v n xs :=
  h.kept (row := none) ⟨hb.os, hb.tape, hb.output, hb.size, fun k hk _ => hb.block k hk⟩ (by cases hv : v.ownBlock <;> simp)
theorem own_mono {w : World} {base base' e size n : Nat} {v : Value} {xs : List Value} (h : w.ownsRow base e size v n xs) (hb : base' ≤ base) : w.ownsRow base' e size v n xs := by
  refine ⟨h.1, h.2.imp id ?_⟩
  rintro ⟨g, cap, cur, h1, h2, h3⟩
  exact ⟨g, cap, cur, h1, Nat.le_trans hb h2, h3⟩
theorem own_shape {w : World} {base e size n : Nat} {v : Value} {xs : List Value} (h : w.ownsRow base e size v n xs) : ∃ a c, v = .slice a n c := by
  rcases h.2 with ⟨rfl, rfl⟩ | ⟨g, cap, cur, rfl, _⟩
  · exact ⟨none, 0, rfl⟩
  · exact ⟨_, _, rfl⟩
end Go.Proofs.YtpndejibjiojbaaDoor.W
namespace Go.Proofs.YtpndejibjiojbaaDoor.W
open Go.RowKit
set_option maxRecDepth 1000000
/-- The digits of a number, at most f + 1 of them. -/
def pvF : Nat → Int → List Int
  | 0, n => [n]
  | f + 1, n => if n < 128 then [n] else (n % 128 + 128) :: pvF f (n / 128)
def pv (n : Int) : List Int := pvF 9 n
/-- Reading: what is left, which byte it is, what is read so far, the place. -/
def gvF : List Int → Nat → Int → Int → Int × Int × Int
  | [], _, _, _ => (0, 0, 3)
  | c :: r, k, X, at0 => if k = 9 ∧ 1 < c then (0, 0, 4) else if c < 128 then (X + c * 2 ^ (7 * k), at0 + k + 1, 0) else gvF r (k + 1) (X + (c - 128) * 2 ^ (7 * k)) at0
def gv (xs : List Int) (at0 : Nat) : Int × Int × Int := gvF (xs.drop at0) 0 0 at0
theorem pvF_small (f : Nat) {n : Int} (h : n < 128) : pvF f n = [n] := by cases f <;> simp [pvF, h]
theorem pvF_big (f : Nat) {n : Int} (h : ¬ n < 128) : pvF (f + 1) n = (n % 128 + 128) :: pvF f (n / 128) := by simp [pvF, h]
theorem div_lt (f : Nat) {n : Int} (h : n < 128 ^ (f + 1)) : n / 128 < 128 ^ f := Int.ediv_lt_of_lt_mul (by decide) (by rwa [← Int.pow_succ])
theorem lt_ten {n : Int} (h : n < 18446744073709551616) : n < 128 ^ (9 + 1) := by
  have e : (128 : Int) ^ (9 + 1) = 1180591620717411303424 := by decide
  rw [e]; omega
theorem pvF_bd : ∀ (f : Nat) (n : Int), 0 ≤ n → n < 128 ^ (f + 1) → ∀ x ∈ pvF f n, 0 ≤ x ∧ x ≤ 255
  | 0, n, h0, h1, x, hx => by simp [pvF] at hx; subst hx; simp at h1; omega
  | f + 1, n, h0, h1, x, hx => by
    by_cases h : n < 128
    · rw [pvF_small _ h] at hx; simp at hx; subst hx; omega
    · rw [pvF_big _ h] at hx
      rcases List.mem_cons.1 hx with rfl | hx
      · omega
      · exact pvF_bd f _ (by omega) (div_lt _ h1) x hx
theorem pvF_len : ∀ (f : Nat) (n : Int), 1 ≤ (pvF f n).length ∧ (pvF f n).length ≤ f + 1
  | 0, n => by simp [pvF]
  | f + 1, n => by
    by_cases h : n < 128
    · rw [pvF_small _ h]; simp
    · rw [pvF_big _ h]; have := pvF_len f (n / 128); simp; omega
theorem pv_bd {n : Int} (h0 : 0 ≤ n) (h1 : n < 18446744073709551616) : ∀ x ∈ pv n, 0 ≤ x ∧ x ≤ 255 := pvF_bd 9 n h0 (lt_ten h1)
theorem pv_len (n : Int) : 1 ≤ (pv n).length ∧ (pv n).length ≤ 10 := pvF_len 9 n
/-- How many bytes are still to be counted. -/
def cntF (f : Nat) (N : Int) : Int := if N = 0 then 0 else ((pvF f N).length : Int)
theorem cnt_start (n : Int) (h0 : 0 ≤ n) : 1 + cntF 8 (n / 128) = ((pv n).length : Int) := by
  unfold cntF pv
  by_cases h : n < 128
  · rw [pvF_small 9 h, if_pos (by omega)]; rfl
  · rw [pvF_big 8 h, if_neg (by omega)]; simp; omega
theorem cnt_step (f : Nat) (N : Int) (h0 : 0 < N) (h1 : N < 128 ^ (f + 1)) : ∃ g, N / 128 < 128 ^ (g + 1) ∧ 1 + cntF g (N / 128) = cntF f N := by
  unfold cntF
  rw [if_neg (show ¬ N = 0 by omega)]
  by_cases h : N < 128
  · refine ⟨0, by simp; omega, ?_⟩
    rw [pvF_small f h, if_pos (by omega)]
    rfl
  · cases f with
    | zero => simp at h1; omega
    | succ g => exact ⟨g, div_lt _ h1, by rw [pvF_big g h, if_neg (by omega)]; simp; omega⟩
theorem cnt_zero (f : Nat) : cntF f 0 = 0 := by simp [cntF]
theorem cnt_nonneg (f : Nat) (N : Int) : 0 ≤ cntF f N := by unfold cntF; split <;> omega
theorem and127 (n : Int) (h₀ : 0 ≤ n) (h₁ : n < 18446744073709551616) : bits .and .u64 n 127 = n % 128 := bits_mask .u64 64 (by decide) wraps_u64 7 (by decide) n h₀ (by omega)
theorem or128 (n : Int) (h₀ : 0 ≤ n) (h₁ : n < 128) : bits .or .u64 n 128 = n + 128 := u64_orv7 n 128 h₀ h₁ (by decide) (by decide) (by decide)
theorem digit (n : Int) (h₀ : 0 ≤ n) (h₁ : n < 18446744073709551616) : bits .or .u64 (bits .and .u64 n 127) 128 = n % 128 + 128 := by
  rw [and127 n h₀ h₁, or128 _ (by omega) (by omega)]
/-- One byte more, by 'or'. -/
theorem or_step (k : Nat) (hk : k ≤ 9) (X c : Int) (hX0 : 0 ≤ X) (hX : X < 2 ^ (7 * k)) (hc0 : 0 ≤ c) (hc : c < 128) (h9 : k = 9 → c ≤ 1) :
    c * 2 ^ (7 * k) < 18446744073709551616 ∧ 0 ≤ c * 2 ^ (7 * k) ∧ bits .or .u64 X (c * 2 ^ (7 * k)) = X + c * 2 ^ (7 * k) := by
  have e : (18446744073709551616 : Int) = 2 ^ 64 := by decide
  have hlt : c * 2 ^ (7 * k) < 18446744073709551616 := by
    match k, hk with
    | 0, _ => simp; omega
    | 1, _ => simp; omega
    | 2, _ => simp; omega
    | 3, _ => simp; omega
    | 4, _ => simp; omega
    | 5, _ => simp; omega
    | 6, _ => simp; omega
    | 7, _ => simp; omega
    | 8, _ => simp; omega
    | 9, _ => have := h9 rfl; simp; omega
  have hp : (0 : Int) < 2 ^ (7 * k) := Int.pow_pos (by decide)
  have h0 : 0 ≤ c * 2 ^ (7 * k) := Int.mul_nonneg hc0 (Int.le_of_lt hp)
  refine ⟨hlt, h0, bits_join_low .u64 64 (by decide) wraps_u64 (7 * k) X _ hX0 hX ?_ h0 (Int.mul_emod_left _ _) (e ▸ hlt)⟩
  have hn : (2 : Nat) ^ (7 * k) ≤ 2 ^ 64 := Nat.pow_le_pow_right (by decide) (by omega)
  exact Int.lt_of_lt_of_le hX (by exact_mod_cast hn)
theorem step_lt (k : Nat) (X c : Int) (hX : X < 2 ^ (7 * k)) (hc : c < 128) : X + c * 2 ^ (7 * k) < 2 ^ (7 * (k + 1)) := by
  have e : (2 : Int) ^ (7 * (k + 1)) = 128 * 2 ^ (7 * k) := by rw [show 7 * (k + 1) = 7 * k + 7 by omega, Int.pow_add]; omega
  have hp : (0 : Int) < 2 ^ (7 * k) := Int.pow_pos (by decide)
  have : c * 2 ^ (7 * k) ≤ 127 * 2 ^ (7 * k) := Int.mul_le_mul_of_nonneg_right (by omega) (Int.le_of_lt hp)
  rw [e]; omega
theorem and127b (c : Int) (h₀ : 0 ≤ c) (h₁ : c ≤ 255) : bits .and .u8 c 127 = c % 128 := u8_and127 c h₀ (by omega)
theorem step_val (k : Nat) (hk : k ≤ 9) (X c : Int) (hX0 : 0 ≤ X) (hX : X < 2 ^ (7 * k)) (hc0 : 0 ≤ c) (hc : c ≤ 255) (h9 : k = 9 → c ≤ 1) :
    bits .or .u64 X (IntKind.u64.wrap (IntKind.u64.wrap (bits .and .u8 c 127) * 2 ^ (7 * k))) = X + c % 128 * 2 ^ (7 * k) := by
  obtain ⟨h1, h2, h3⟩ := or_step k hk X (c % 128) hX0 hX (by omega) (by omega) (fun h => by have := h9 h; omega)
  rw [and127b c hc0 hc, wraps_u64 (c % 128) (by omega) (by omega), wraps_u64 _ h2 (by omega), h3]
section
variable {xs : List Int} {p k : Nat} {X : Int}
theorem g_bad (h : p + k < xs.length) (h9 : (k : Int) = 9) (hc : 1 < xs[p + k]?.getD 0) : gvF (xs.drop (p + k)) k X p = (0, 0, 4) := by
  have : k = 9 := by omega
  rw [drop_at h]; simp [gvF, this] at hc ⊢; intro h; omega
theorem g_last (h : p + k < xs.length) (h9 : (k : Int) = 9 → xs[p + k]?.getD 0 ≤ 1) (hc0 : 0 ≤ xs[p + k]?.getD 0) (hc : xs[p + k]?.getD 0 < 128) : gvF (xs.drop (p + k)) k X p = (X + xs[p + k]?.getD 0 % 128 * 2 ^ (7 * k), (p : Int) + k + 1, 0) := by
  rw [drop_at h, gvF, if_neg (by intro ⟨a, b⟩; have := h9 (by omega); omega), if_pos hc, Int.emod_eq_of_lt hc0 hc]
theorem g_more (h : p + k < xs.length) (h9 : ¬ (k : Int) = 9) (hc : 128 ≤ xs[p + k]?.getD 0) (hc1 : xs[p + k]?.getD 0 ≤ 255) : gvF (xs.drop (p + k)) k X p = gvF (xs.drop (p + (k + 1))) (k + 1) (X + xs[p + k]?.getD 0 % 128 * 2 ^ (7 * k)) p := by
  rw [drop_at h, gvF, if_neg (by intro ⟨a, b⟩; omega), if_neg (by omega), show xs[p + k]?.getD 0 % 128 = xs[p + k]?.getD 0 - 128 by omega]; rfl
theorem g_end (h : xs.length ≤ p + k) : gvF (xs.drop (p + k)) k X p = (0, 0, 3) := by
  rw [List.drop_eq_nil_of_le h]; rfl
end
theorem gv_end (xs : List Int) (p : Nat) (h : xs.length ≤ p) : gv xs p = (0, 0, 3) := by
  unfold gv; rw [List.drop_eq_nil_of_le h]; rfl
end Go.Proofs.YtpndejibjiojbaaDoor.W
namespace Go.Proofs.YtpndejibjiojbaaDoor.W
open Go.RowKit
set_option maxRecDepth 1000000
theorem outsideW (a : Option Addr) (len cap : Nat) (p : Int) (w : World) (_hl : len ≤ 9223372036854775807) :
    Calls Tryd.prog 57 #[.slice a len cap, .int .i64 p] w fun e w' => e = .returned (.bool (decide (p < 0 ∨ (len : Int) < p))) ∧ w = w' := by
  by_cases h : p < 0
  · have ht : decide (p < 0 ∨ (len : Int) < p) = true := by simp [h]
    rw [ht]
    go_enter Tryd.func57, Tryd.ntmps57
    go_wp2
    go_ret
    exact ⟨rfl, rfl⟩
  · have h2 : decide (p < 0) = false := by simpa using h
    have ht : decide (p < 0 ∨ (len : Int) < p) = decide ((len : Int) < p) := by simp [h]
    rw [ht]
    clear ht
    go_enter Tryd.func57, Tryd.ntmps57
    go_wp2
    go_ret
    exact ⟨rfl, rfl⟩
theorem outsideNo (a : Option Addr) (len cap : Nat) (p : Int) (w : World) (hl : len ≤ 9223372036854775807) (h0 : 0 ≤ p) (h1 : p ≤ len) :
    Calls Tryd.prog 57 #[.slice a len cap, .int .i64 p] w fun e w' => e = .returned (.bool false) ∧ w = w' := by
  refine (outsideW a len cap p w hl).mono ?_
  rintro e w' ⟨rfl, rfl⟩
  have ht : decide (p < 0 ∨ (len : Int) < p) = false := by simp; omega
  exact ⟨by rw [ht], rfl⟩
set_option maxHeartbeats 400000 in
theorem sizeW (n : Int) (w : World) (h0 : 0 ≤ n) (h1 : n < 18446744073709551616) :
    Calls Tryd.prog 56 #[.int .u64 n] w fun e w' => e = .returned (.int .i64 (pv n).length) ∧ w = w' := by
  have HS : Hid (1 + cntF 8 (n / 128) = ((pv n).length : Int)) := cnt_start n h0
  have hb : n / 128 < 128 ^ (8 + 1) := div_lt 9 (lt_ten h1)
  have HL := pv_len n
  go_enter Tryd.func56, Tryd.ntmps56
  go_wp2
  go_loop [0, 3] (fun nn s => ∃ (f : Nat) (N S : Int), 0 ≤ N ∧ N < 128 ^ (f + 1) ∧ N < 18446744073709551616 ∧ 0 ≤ S ∧ S ≤ 10 ∧ nn = .int .u64 N ∧ s = .int .i64 S ∧ S + cntF f N = ((pv n).length : Int)) (fun nn _ => (intOf nn).toNat)
  case atStart => exact ⟨8, n / 128, 1, by omega, hb, by omega, by omega, by omega, rfl, rfl, HS.out⟩
  case round =>
    obtain ⟨f, N, S, hN0, hN, hN64, hS0, hS, rfl, rfl, hc⟩ := hrel
    have HC : Hid (S + cntF f N = ((pv n).length : Int)) := hc
    have HL' : Hid ((pv n).length ≤ 10) := HL.2
    clear hc HL HS hb
    by_cases hz : 0 < N
    · have H2 : Hid (∃ g, N / 128 < 128 ^ (g + 1) ∧ 1 + cntF g (N / 128) = cntF f N) := cnt_step f N hz hN
      clear hN
      go_wp2
      go_round
      case rel =>
        obtain ⟨g, hg, e⟩ := H2.out
        have := HC.out
        have := HL'.out
        have := cnt_nonneg g (N / 128)
        exact ⟨g, N / 128, S + 1, by omega, hg, by omega, by omega, by omega, rfl, rfl, by omega⟩
      case measure => simp [intOf]; omega
    · have hN : N = 0 := by omega
      subst hN
      go_wp2
      go_ret
      have := HC.out
      rw [cnt_zero] at this
      exact ⟨ret_int (by omega), rfl⟩
end Go.Proofs.YtpndejibjiojbaaDoor.W
namespace Go.Proofs.YtpndejibjiojbaaDoor.W
open Go.RowKit
set_option maxRecDepth 1000000
theorem ret_gv {g : Int × Int × Int} {a b c : Int} (h : g = (a, b, c)) : Ending.returned (.tuple #[.int .u64 a, .int .i64 b, .int .i64 c]) = .returned (.tuple #[.int .u64 g.1, .int .i64 g.2.1, .int .i64 g.2.2]) := by rw [h]
theorem getvEnd (a : Option Addr) (len cap : Nat) (w : World) (ha : a = none → cap = 0) (hlc : len ≤ cap) (hm : cap ≤ 9223372036854775807) :
    Calls Tryd.prog 40 #[.slice a len cap, .int .i64 len] w fun e w' => e = .returned (.tuple #[.int .u64 0, .int .i64 0, .int .i64 3]) ∧ w' = w := by
  have h0 : len - len = 0 := by omega
  cases a with
  | none =>
    have := ha rfl
    subst this
    obtain rfl : len = 0 := by omega
    clear ha
    go_enter Tryd.func40, Tryd.ntmps40
    go_wp2; go_step3; go_wp2_with (go_at_call 57; refine (outsideNo _ _ _ _ _ (by omega) (by omega) (by omega)).mono ?_; rintro e w' ⟨rfl, rfl⟩); go_step3; go_wp2
    refine wp_loop_rounds 1 ?_
    rw [rounds_succ]
    go_wp2
    try rw [Exit.noGoto_ret]
    go_ret3
    exact ⟨rfl, rfl⟩
  | some x =>
    clear ha
    obtain ⟨b, off, spot⟩ := x
    go_enter Tryd.func40, Tryd.ntmps40
    go_wp2; go_step3; go_wp2_with (go_at_call 57; refine (outsideNo _ _ _ _ _ (by omega) (by omega) (by omega)).mono ?_; rintro e w' ⟨rfl, rfl⟩); go_step3; go_wp2
    all_goals
      refine wp_loop_rounds 1 ?_
      rw [rounds_succ]
      go_wp2
      try rw [Exit.noGoto_ret]
      go_ret3
      exact ⟨rfl, rfl⟩
set_option maxHeartbeats 400000 in
theorem getvIn (b off len cap p : Nat) (xs : List Int) (w : World) (hl : xs.length = len) (hlc : len ≤ cap) (hm : cap ≤ 9223372036854775807) (hp : p < len)
    (hc : ∀ i, i < len → w.cell? ⟨b, off + i, none⟩ = some (.int .u8 (xs.getD i 0))) (hr : ∀ i, 0 ≤ xs.getD i 0 ∧ xs.getD i 0 ≤ 255) :
    Calls Tryd.prog 40 #[.slice (some ⟨b, off, none⟩) len cap, .int .i64 p] w fun e w' =>
      e = .returned (.tuple #[.int .u64 (gv xs p).1, .int .i64 (gv xs p).2.1, .int .i64 (gv xs p).2.2]) ∧ w' = w := by
  go_enter Tryd.func40, Tryd.ntmps40
  go_wp2; go_step3; go_wp2_with (go_at_call 57; refine (outsideNo _ _ _ _ _ (by omega) (by omega) (by omega)).mono ?_; rintro e w' ⟨rfl, rfl⟩); go_step3; go_wp2
  go_loop [4, 5, 6, 7, 8, 16] (fun n nx e i c r => ∃ (k : Nat) (X : Int), k ≤ 9 ∧ k ≤ len - p ∧ 0 ≤ X ∧ X < 2 ^ (7 * k) ∧ r = .int .i64 k ∧ n = .int .u64 X ∧ nx = .int .i64 0 ∧ e = .int .i64 3 ∧ gv xs p = gvF (xs.drop (p + k)) k X p) (fun _ _ _ _ _ r => len - p - (intOf r).toNat)
  case atStart => exact ⟨0, 0, by omega, by omega, by omega, by simp, rfl, rfl, rfl, rfl, by simp [gv]⟩
  case round =>
    obtain ⟨k, X, hk9, hk, hX0, hX, rfl, rfl, rfl, rfl, hg⟩ := hrel
    have HG : Hid (gv xs p = gvF (xs.drop (p + k)) k X p) := hg
    clear hg
    have hrk : 0 ≤ xs[p + k]?.getD 0 ∧ xs[p + k]?.getD 0 ≤ 255 := by have := hr (p + k); rwa [List.getD_eq_getElem?_getD] at this
    have hck : k < len - p → w.cell? ⟨b, off + p + k, none⟩ = some (.int .u8 (xs.getD (p + k) 0)) := fun h => by rw [Nat.add_assoc]; exact hc (p + k) (by omega)
    clear hr hc
    go_wp2
    · -- the tenth byte is too great
      have hlt : k < len - p := by assumption
      try rw [Exit.noGoto_ret]
      go_ret3
      exact ⟨ret_gv (by rw [HG.out, g_bad (by omega) ‹_› ‹_›]), rfl⟩
    · -- the tenth byte
      have hlt : k < len - p := by assumption
      have h9 : (k : Int) = 9 := by assumption
      have hc1 : xs[p + k]?.getD 0 ≤ 1 := by assumption
      try rw [Exit.noGoto_ret]
      go_ret3
      refine ⟨ret_gv ?_, rfl⟩
      rw [HG.out, g_last (by omega) (fun _ => hc1) hrk.1 (by omega), step_val k hk9 X _ hX0 hX hrk.1 hrk.2 (fun _ => hc1)]
      have : k = 9 := by omega
      subst this
      rfl
    · -- a last byte
      have hlt : k < len - p := by assumption
      have h9 : ¬ (k : Int) = 9 := by assumption
      have hc1 : xs[p + k]?.getD 0 < 128 := by assumption
      try rw [Exit.noGoto_ret]
      go_ret3
      refine ⟨ret_gv ?_, rfl⟩
      rw [HG.out, g_last (by omega) (fun h => absurd h h9) hrk.1 (by omega), step_val k hk9 X _ hX0 hX hrk.1 hrk.2 (fun h => by omega)]
    · -- one that goes on
      have hlt : k < len - p := by assumption
      have h9 : ¬ (k : Int) = 9 := by assumption
      have hc1 : 128 ≤ xs[p + k]?.getD 0 := by assumption
      have hp2 : (0 : Int) < 2 ^ (7 * k) := Int.pow_pos (by decide)
      have hs := step_val k hk9 X _ hX0 hX hrk.1 hrk.2 (fun h => by omega)
      have hm0 : 0 ≤ xs[p + k]?.getD 0 % 128 * 2 ^ (7 * k) := Int.mul_nonneg (by omega) (Int.le_of_lt hp2)
      have HS : Hid (bits .or .u64 X (IntKind.u64.wrap (IntKind.u64.wrap (bits .and .u8 (xs[p + k]?.getD 0) 127) * 2 ^ (7 * k))) = X + xs[p + k]?.getD 0 % 128 * 2 ^ (7 * k)) := hs
      clear hs
      refine ⟨⟨k + 1, X + xs[p + k]?.getD 0 % 128 * 2 ^ (7 * k), by omega, by omega, by omega, step_lt k X _ hX (by omega), by go_num, by rw [HS.out], rfl, rfl, by rw [HG.out, g_more (by omega) h9 hc1 hrk.2]⟩, by simp [intOf]; omega⟩
    · -- the end
      have hge : ¬ k < len - p := by assumption
      try rw [Exit.noGoto_ret]
      go_ret3
      exact ⟨ret_gv (by rw [HG.out, g_end (by omega)]), rfl⟩
/-- The program's GetVarint at a place of a slice that can be read. -/
theorem getvW (a : Option Addr) (len cap p : Nat) (xs : List Int) (w : World) (h : Reads w a len cap xs) (hp : p ≤ len) :
    Calls Tryd.prog 40 #[.slice a len cap, .int .i64 p] w fun e w' =>
      e = .returned (.tuple #[.int .u64 (gv xs p).1, .int .i64 (gv xs p).2.1, .int .i64 (gv xs p).2.2]) ∧ w = w' := by
  by_cases hpl : p = len
  · subst hpl
    rw [gv_end xs p (by rw [h.length]; exact Nat.le_refl _)]
    refine (getvEnd a p cap w (fun e => ?_) h.le h.max).mono fun e w' h => ⟨h.1, h.2.symm⟩
    rcases h.cells with ⟨_, h2⟩ | ⟨b, off, rfl, _⟩
    · exact h2 e
    · cases e
  · rcases h.cells with ⟨h0, _⟩ | ⟨b, off, rfl, hc⟩
    · omega
    · exact (getvIn b off len cap p xs w h.length h.le h.max (by omega) hc h.bd).mono fun e w' h => ⟨h.1, h.2.symm⟩
end Go.Proofs.YtpndejibjiojbaaDoor.W
namespace Go.Proofs.YtpndejibjiojbaaDoor.W
open Go.RowKit
set_option maxRecDepth 1000000
theorem own_last {w : World} {base m j : Nat} {v : Value} {xs : List Value} {pre all : List Int} {N : Int} (h : w.ownsRow base 5 1 v (m + j + 1) (xs ++ pre.map (Value.int .u8) ++ [.int .u8 N])) (hj : pre.length = j) (e : all = pre ++ [N]) :
    w.ownsRow base 5 1 v (m + all.length) (xs ++ all.map (Value.int .u8)) := by
  subst hj e
  simpa [Nat.add_assoc] using h
theorem own_more {w : World} {base m j : Nat} {v : Value} {xs : List Value} {pre : List Int} {N : Int} (h : w.ownsRow base 5 1 v (m + j + 1) (xs ++ pre.map (Value.int .u8) ++ [.int .u8 N])) :
    w.ownsRow base 5 1 v (m + (j + 1)) (xs ++ (pre ++ [N]).map (Value.int .u8)) := by
  simpa [Nat.add_assoc] using h
theorem pv_more {f : Nat} {N : Int} (h : N < 128 ^ (f + 1)) (hge : ¬ N < 128) : ∃ g, f = g + 1 ∧ N / 128 < 128 ^ (g + 1) ∧ pvF f N = (N % 128 + 128) :: pvF g (N / 128) := by
  cases f with
  | zero => simp at h; omega
  | succ g => exact ⟨g, rfl, div_lt _ h, pvF_big g hge⟩
set_option maxHeartbeats 400000 in
theorem addvW (base : Nat) (v : Value) (m : Nat) (xs : List Value) (n : Int) (w : World) (hown : w.ownsRow base 5 1 v m xs) (hb : base ≤ w.heap.size) (h0 : 0 ≤ n) (h1 : n < 18446744073709551616) (hm : m + 10 ≤ 140737488355328) :
    Calls Tryd.prog 55 #[v, .int .u64 n] w fun e w' => ∃ v', e = .returned v' ∧ w'.ownsRow base 5 1 v' (m + (pv n).length) (xs ++ (pv n).map (Value.int .u8)) ∧ Below base w w' := by
  obtain ⟨i0, hi, hz0, hz1, hz2⟩ := info_parts Tryd.info5
  have H9 : Hid (n < 128 ^ (9 + 1)) := lt_ten h1
  go_enter Tryd.func55, Tryd.ntmps55
  go_wp2
  go_loopw [0, 1] (fun o nn wr => ∃ (f j : Nat) (N : Int) (pre : List Int), 0 ≤ N ∧ N < 18446744073709551616 ∧ Hid (N < 128 ^ (f + 1)) ∧ pre.length = j ∧ j + f ≤ 9 ∧ nn = .int .u64 N ∧ wr.ownsRow base 5 1 o (m + j) (xs ++ pre.map (Value.int .u8)) ∧ Below base w wr ∧ Hid (pv n = pre ++ pvF f N)) (fun _ nn _ => (intOf nn).toNat)
  case atStart => exact ⟨9, 0, n, [], h0, h1, H9, rfl, by omega, rfl, by simpa using hown, Below.refl _ _, rfl⟩
  case round =>
    obtain ⟨f, j, N, pre, hN0, hN, HN, hj, hjf, rfl, ho, hbw, HP⟩ := hrel
    have hsz := hbw.size
    have hd := digit N hN0 hN
    clear hown
    by_cases hlt : N < 128
    · go_wp2_with (first
        | (at_builtin; refine wpList_append_own _ rfl _ _ 25 rfl base 5 i0 (.int .u8 0) 1 1 Tryd.underlying25 hi hz0 hz1 hz2 rfl (by decide) _ _ _ rfl (ho.alloc _) ⟨wr.heap.size, 0, none⟩ 1 1 [.int .u8 N] rfl rfl (cell_one_new _ _ _) (fun x hx => by simp at hx; subst hx; rfl) (by unfold maxLen; omega) (by omega) (by simp; omega) ?_; intro v' w3 hown' hgrow3 hnil3))
      go_ret
      exact ⟨v', rfl, own_last hown' hj (by rw [HP.out, pvF_small _ hlt]), Below.grown (hbw.alloc (by omega) _) hgrow3 (by simp; omega) (fun k hk => (ho.lt k hk).1)⟩
    · go_wp2_with (first
        | (at_builtin; refine wpList_append_own _ rfl _ _ 25 rfl base 5 i0 (.int .u8 0) 1 1 Tryd.underlying25 hi hz0 hz1 hz2 rfl (by decide) _ _ _ rfl (ho.alloc _) ⟨wr.heap.size, 0, none⟩ 1 1 [.int .u8 (N % 128 + 128)] rfl rfl (cell_one_new _ _ _) (fun x hx => by simp at hx; subst hx; rfl) (by unfold maxLen; omega) (by omega) (by simp; omega) ?_; intro v' w3 hown' hgrow3 hnil3))
      obtain ⟨g, rfl, hg, e⟩ := pv_more HN.out hlt
      exact ⟨⟨g, j + 1, N / 128, pre ++ [N % 128 + 128], by omega, by omega, hg, by simp [hj], by omega, rfl, own_more hown', Below.grown (hbw.alloc (by omega) _) hgrow3 (by simp; omega) (fun k hk => (ho.lt k hk).1), by show _ = _; rw [HP.out, e]; simp⟩, by simp [intOf]; omega⟩
set_option maxHeartbeats 400000 in
theorem putvW (n : Int) (w : World) (h0 : 0 ≤ n) (h1 : n < 18446744073709551616) :
    Calls Tryd.prog 36 #[.int .u64 n] w fun e w' => ∃ v', e = .returned v' ∧ w'.ownsRow w.heap.size 5 1 v' (pv n).length ((pv n).map (Value.int .u8)) ∧ Below w.heap.size w w' := by
  obtain ⟨i0, hi, hz0, hz1, hz2⟩ := info_parts Tryd.info5
  have hl := (pv_len n).2
  obtain ⟨w1, hrun, hown, hgr⟩ := run_makeSlice_owned (P := Tryd.prog) w w.heap.size 25 5 i0 (.int .u8 0) 1 Tryd.underlying25 hi hz0 hz1 .i64 .i64 (pv n).length (by omega) (by rw [hz2]; omega) (by unfold maxLen; omega) (Nat.le_refl _)
  have hsz := hgr.size
  have hbw : Below w.heap.size w w1 := Below.grown (Below.refl _ _) hgr (Nat.le_refl _) (fun k hk => by cases hk)
  go_enter Tryd.func36, Tryd.ntmps36
  go_wp2_with (first
    | (go_at_call 56; refine (sizeW _ _ h0 h1).mono ?_; rintro e w' ⟨rfl, rfl⟩)
    | (go_at_call 55; go_must (refine (addvW w.heap.size _ 0 [] _ _ hown (by omega) h0 h1 (by omega)).mono ?_); rintro e w' ⟨v', rfl, ho', hb'⟩))
  go_ret
  exact ⟨v', rfl, by simpa using ho', hbw.trans hb'⟩
end Go.Proofs.YtpndejibjiojbaaDoor.W
namespace Go.Proofs.YtpndejibjiojbaaDoor.W
open Go.RowKit
set_option maxRecDepth 1000000
/-- PutVarint's answer as a slice that can be read. -/
theorem putvWr (n : Int) (w : World) (h0 : 0 ≤ n) (h1 : n < 18446744073709551616) :
    Calls Tryd.prog 36 #[.int .u64 n] w fun e w' => ∃ a cap, e = .returned (.slice a (pv n).length cap) ∧ Reads w' a (pv n).length cap (pv n) ∧ Below w.heap.size w w' := by
  refine (putvW n w h0 h1).mono ?_
  rintro e w' ⟨v, rfl, ho, hb⟩
  obtain ⟨a, cap, rfl, hr⟩ := own_reads ho (pv_bd h0 h1)
  exact ⟨a, cap, rfl, hr, hb⟩
end Go.Proofs.YtpndejibjiojbaaDoor.W
namespace Go.Proofs.YtpndejibjiojbaaDoor
open Go.RowKit
set_option maxRecDepth 1000000
set_option linter.unusedVariables false
set_option linter.unusedSimpArgs false
set_option maxHeartbeats 1000000
/-- Bytes of one's own. -/
def OwnB (w : World) (base : Nat) (v : Value) (xs : List Int) : Prop := w.ownsRow base 5 1 v xs.length (xs.map (Value.int .u8))
/-- The varints of numbers. -/
def nvB (ns : List Int) : List Int := ns.flatMap W.pv
theorem nvB_len (ns : List Int) : (nvB ns).length ≤ 10 * ns.length := by
  induction ns with
  | nil => exact Nat.le_refl _
  | cons n ns ih =>
    have := (W.pv_len n).2
    unfold nvB at ih ⊢
    rw [List.flatMap_cons, List.length_append, List.length_cons]
    omega
theorem nvB_snoc (ns : List Int) (j : Nat) (h : j < ns.length) : nvB (ns.take (j + 1)) = nvB (ns.take j) ++ W.pv ns[j] := by
  unfold nvB
  rw [List.take_add_one, List.getElem?_eq_getElem h, List.flatMap_append]
  simp
theorem growW {w w' : World} {v v' : Value} (g : W.Grow w w' v v') : Grow w w' v v' := ⟨g.os, g.tape, g.output, g.size, g.block, g.own⟩
def AddA (w : World) (base : Nat) (v : Value) (zs : List Int) (e : Ending) (w' : World) : Prop := ∃ v', e = .returned v' ∧ OwnB w' base v' zs ∧ Grow w w' v v'
theorem OwnB.slice {w : World} {base : Nat} {v : Value} {xs : List Int} (h : OwnB w base v xs) : ∃ a c, v = .slice a xs.length c := own_shape h
theorem rowApart {w : World} {k n : Nat} {v u : Value} {fl : List Value} {Z : Nat → Prop} (h : RowS w Z k u n fl) (hz : ∀ b, Z b → v.ownBlock ≠ some b) {w' : World} {v' : Value} (g : Grow w w' v v') : RowS w' Z k u n fl := RowS.keep h (Keep.ofGrow (f := fun b => v.ownBlock ≠ some b) g (fun b hb => hb)) (fun b hb => hz b hb)
/-- Bytes more. -/
theorem addBytes (base : Nat) (v : Value) (xs : List Int) (w : World) (a : Option Addr) (len cap : Nat) (ys : List Int) (ho : OwnB w base v xs) (hb : base ≤ w.heap.size) (hr : W.Reads w a len cap ys) (hn : xs.length + ys.length ≤ 140737488355328) : ∃ v' w', Hid ((Builtin.append_ #[25, 25] 25 #[v, .slice a len cap]).run Tryd.prog w = .ok v' w') ∧ Hid (OwnB w' base v' (xs ++ ys)) ∧ Hid (Grow w w' v v') := by
  obtain ⟨v', w2, h1, h3, h4⟩ := W.append_bytes base _ _ _ w a _ cap ys ho hb hr (by rw [← hr.length]; exact hn)
  exact ⟨v', w2, hid h1, hid (by unfold OwnB; rw [List.map_append, List.length_append, hr.length]; exact h3), hid (growW h4)⟩
theorem addNumbersT (w : World) (base : Nat) (v : Value) (xs : List Int) (ho : OwnB w base v xs) (hb : base ≤ w.heap.size) (ns : List Int) (na : Option Addr) (nc : Nat) (Z : Nat → Prop) (hz : ∀ b, Z b → v.ownBlock ≠ some b) (hr : RowS w Z 1 (.slice na ns.length nc) ns.length (ns.flatMap cI64)) (hn : ∀ n ∈ ns, 0 ≤ n ∧ n ≤ 9223372036854775807) (hl : xs.length + 10 * ns.length ≤ 140737488355328) :
    Calls Tryd.prog 20 #[v, .slice na ns.length nc] w (AddA w base v (xs ++ nvB ns)) := by
  have HR := hid hr
  have HZ := hid hz
  have HN := hid hn
  have HL := hid hl
  have HO := hid ho
  have HB := hid hb
  have n63 : (ns.length : Int) ≤ 9223372036854775807 := by omega
  obtain ⟨va, vc, ev⟩ := ho.slice
  clear hr hz hn hl ho hb ev
  go_enter Tryd.func20, Tryd.ntmps20
  go_wp2
  go_loopw [0, 9] (fun s0 s9 wr => ∃ j : Nat, s9 = .int .i64 (j : Int) ∧ j ≤ ns.length ∧ Hid (OwnB wr base s0 (xs ++ nvB (ns.take j))) ∧ Hid (Grow w wr v s0)) (fun s0 s9 wr => ns.length - numAt wr s9)
  case atStart => exact ⟨0, rfl, by omega, hid (by simpa [nvB] using HO.out), hid (Grow.refl _ _)⟩
  case round =>
    obtain ⟨j, rfl, hj, HV, HG⟩ := hrel
    by_cases hlt : j < ns.length
    · have h2 : (j : Int) < (ns.length : Int) := by omega
      have HRW := hid (rowApart HR.out HZ.out HG.out)
      obtain ⟨g4, go4, eg, hc⟩ := rowAt (g := cI64) (fun _ => rfl) HRW.out (i := j) (x := ns[j]) (by simp [hlt])
      subst eg
      have c0 := hc 0 _ rfl
      clear hc
      simp only [Nat.add_zero, Nat.mul_one] at c0
      have hgb : g4 < wr.heap.size := World.block_lt_of_cell? _ _ c0
      have HX := hid (HN.out ns[j] (List.getElem_mem hlt))
      have HS := hid (nvB_snoc ns j hlt)
      have hw : IntKind.u64.wrap ns[j] = ns[j] := by
        have := HX.out
        simp [IntKind.wrap, IntKind.bits, IntKind.signed]
        omega
      have HP := hid fun W0 => W.putvWr ns[j] W0 HX.out.1 (by have := HX.out.2; omega)
      have HLN : Hid ((xs ++ nvB (ns.take j)).length + (W.pv ns[j]).length ≤ 140737488355328) := hid (by
        have h1 := nvB_len (ns.take j)
        have h2 := (W.pv_len ns[j]).2
        have h3 := HL.out
        rw [List.length_append]
        rw [List.length_take] at h1
        omega)
      generalize ns[j] = x at *
      go_wp2_with fail
      refine (HP.out _).mono ?_
      rintro e w1 ⟨a, cap, rfl, hrd, hb1⟩
      obtain ⟨v', w2, HRUN, HV2, HG2⟩ := addBytes base u0 _ w1 a _ cap (W.pv x) (own_kept HV.out hb1) (by have := HB.out; have := HG.out.size; have := hb1.size; omega) hrd HLN.out
      replace HV2 : Hid (OwnB w2 base v' (xs ++ nvB (ns.take (j + 1)))) := hid (by rw [HS.out, ← List.append_assoc]; exact HV2.out)
      replace HG2 : Hid (Grow w w2 v v') := hid (HG.out.trans ((Grow.ofBelow hb1).trans HG2.out))
      clear hb1 hrd HLN HP HS HV
      generalize (W.pv x).length = q at *
      go_wp2_with (first | (at_builtin; refine wpList_append_ran rfl (.tmp 13) (.tmp 16) 25 25 rfl rfl u0 (.slice a q cap) v' w2 rfl rfl HRUN.out ?_))
      exact ⟨⟨j + 1, by simp, by omega, HV2, HG2⟩, by simp [numAt]; omega⟩
    · have h2 : ¬ (j : Int) < (ns.length : Int) := by omega
      obtain rfl : j = ns.length := by omega
      go_wp2
      go_ret
      exact ⟨_, rfl, by simpa using HV.out, HG.out⟩
end Go.Proofs.YtpndejibjiojbaaDoor
