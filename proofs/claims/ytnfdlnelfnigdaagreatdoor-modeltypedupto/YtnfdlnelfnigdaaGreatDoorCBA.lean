/-
  Two keys compared.
  Whether keys rise.
  The walk over the document's counting of characters.
  Compare: the document's walk.
  A symbol by its number, by its name: what the program answers.
-/
import Derived.Test.YtnfdlnelfnigdaaGreatDoorCAX
import Derived.Lib.Bytealg
import Derived.Lib.BytesEntry
import Derived.Test.YtnfdlnelfnigdaaGreatDoorCTZ
namespace Go.Proofs.YtnfdlnelfnigdaaGreatDoor
open Go.RowKit
set_option maxRecDepth 1000000
set_option linter.unusedVariables false
set_option linter.unusedSimpArgs false
set_option maxHeartbeats 4000000
structure Reads (w : World) (a : Option Addr) (len cap : Nat) (xs : List Int) : Prop where
  length : xs.length = len
  le : len ≤ cap
  max : cap ≤ 9223372036854775807
  bd : ∀ i, 0 ≤ xs.getD i 0 ∧ xs.getD i 0 ≤ 255
  cells : (len = 0 ∧ (a = none → cap = 0)) ∨ ∃ b off, a = some ⟨b, off, none⟩ ∧ ∀ i, i < len → w.cell? ⟨b, off + i, none⟩ = some (.int .u8 (xs.getD i 0))
theorem bd_mem {xs : List Int} (h : ∀ i, 0 ≤ xs.getD i 0 ∧ xs.getD i 0 ≤ 255) : ∀ x ∈ xs, 0 ≤ x ∧ x ≤ 255 := by
  intro x hx
  obtain ⟨i, hi, rfl⟩ := List.mem_iff_getElem.1 hx
  have := h i
  simpa [hi] using this
theorem bd_get {xs : List Int} (h : ∀ x ∈ xs, 0 ≤ x ∧ x ≤ 255) : ∀ i, 0 ≤ xs.getD i 0 ∧ xs.getD i 0 ≤ 255 := by
  intro i
  by_cases hi : i < xs.length
  · have := h xs[i] (List.getElem_mem hi)
    simpa [hi] using this
  · simp [hi]
theorem reads_kept {w w' : World} {a : Option Addr} {len cap : Nat} {xs : List Int} (h : Reads w a len cap xs) (hb : Below w.heap.size w w') : Reads w' a len cap xs := by
  refine ⟨h.length, h.le, h.max, h.bd, ?_⟩
  rcases h.cells with h0 | ⟨b, off, rfl, hc⟩
  · exact .inl h0
  · exact .inr ⟨b, off, rfl, fun i hi => by rw [hb.cell (p := ⟨b, off + i, none⟩) (World.block_lt_of_cell? _ _ (hc i hi))]; exact hc i hi⟩
theorem ByE.reads {w : World} {Z : Nat → Prop} {a : Option Addr} {n c : Nat} {b : List Int} (h : ByE w Z (.slice a n c) b) : Reads w a b.length c b := by
  obtain ⟨⟨a', c', e, hv⟩, hb, -⟩ := h
  cases e
  refine ⟨rfl, hv.le, hv.max, bd_get hb, ?_⟩
  rcases hv.cells with h0 | ⟨p, off, rfl, -, hc⟩
  · exact .inl h0
  · exact .inr ⟨p, off, rfl, fun i hi => hc i _ (by simp [hi])⟩
def kneg (k : Int) : Bool := decide (k = 2 ∨ k = 3 ∨ k = 6 ∨ k = 7 ∨ k = 10 ∨ k = 11)
def sgn (n : Int) : Int := if n < 9223372036854775808 then n else n - 18446744073709551616
theorem wrap64_sgn (n : Int) (h0 : 0 ≤ n) (h1 : n < 18446744073709551616) : wrap64 n = sgn n := by
  unfold sgn wrap64
  split <;> omega
theorem kneg_no {k : Int} (h : k < 1 ∨ 17 < k) : kneg k = false := by unfold kneg; simp; omega
theorem negW (k : Int) (w : World) : Calls Tryz.prog 200 #[.int .i64 k] w fun e w' => e = .returned (.bool (kneg k)) ∧ w = w' := by
  rcases kinds k with rfl | rfl | rfl | rfl | rfl | rfl | rfl | rfl | rfl | rfl | rfl | rfl | rfl | rfl | rfl | rfl | rfl | h | h
  iterate 17 (next => go_enter Tryz.func200, Tryz.ntmps200; go_wp2; go_ret; exact ⟨rfl, rfl⟩)
  · obtain ⟨e1, e2, e3, e4, e5, e6, e7, e8, e9, e10, e11, e12, e13, e14, e15, e16, e17⟩ := noKind (.inl h)
    have H : Hid (Ending.returned (.bool false) = .returned (.bool (kneg k))) := hid (ret_bool (kneg_no (.inl h)).symm)
    clear h
    go_enter Tryz.func200, Tryz.ntmps200
    go_wp2
    go_ret
    exact ⟨H.out, rfl⟩
  · obtain ⟨e1, e2, e3, e4, e5, e6, e7, e8, e9, e10, e11, e12, e13, e14, e15, e16, e17⟩ := noKind (.inr h)
    have H : Hid (Ending.returned (.bool false) = .returned (.bool (kneg k))) := hid (ret_bool (kneg_no (.inr h)).symm)
    clear h
    go_enter Tryz.func200, Tryz.ntmps200
    go_wp2
    go_ret
    exact ⟨H.out, rfl⟩
def cmpX : List Int → List Int → Int
  | [], [] => 0
  | [], _ :: _ => -1
  | _ :: _, [] => 1
  | a :: l, b :: r => if a < b then -1 else if b < a then 1 else cmpX l r
def cmpI (a b : Int) : Int := if a < b then -1 else if b < a then 1 else 0
def u8s (xs : List Int) : List UInt8 := xs.map fun n => UInt8.ofNat n.toNat
theorem u8_lt {x y : Int} (hx : 0 ≤ x ∧ x ≤ 255) (hy : 0 ≤ y ∧ y ≤ 255) : (UInt8.ofNat x.toNat < UInt8.ofNat y.toNat) ↔ x < y := by
  rw [UInt8.lt_iff_toNat_lt]
  simp only [UInt8.toNat_ofNat']
  omega
theorem u8_eq {x y : Int} (hx : 0 ≤ x ∧ x ≤ 255) (hy : 0 ≤ y ∧ y ≤ 255) : (UInt8.ofNat x.toNat == UInt8.ofNat y.toNat) = decide (x = y) := by
  rw [Bool.eq_iff_iff]
  simp only [beq_iff_eq, decide_eq_true_eq]
  constructor
  · intro h
    have := congrArg UInt8.toNat h
    simp only [UInt8.toNat_ofNat'] at this
    omega
  · intro h; rw [h]
theorem cmp_u8 : ∀ (xs ys : List Int), (∀ x ∈ xs, 0 ≤ x ∧ x ≤ 255) → (∀ y ∈ ys, 0 ≤ y ∧ y ≤ 255) → Lib.compareBytes (u8s xs) (u8s ys) = cmpX xs ys
  | [], [], _, _ => rfl
  | [], _ :: _, _, _ => rfl
  | _ :: _, [], _, _ => rfl
  | x :: xs, y :: ys, hx, hy => by
    have h1 := u8_lt (hx x (by simp)) (hy y (by simp))
    have h2 := u8_lt (hy y (by simp)) (hx x (by simp))
    have ih := cmp_u8 xs ys (fun z hz => hx z (by simp [hz])) (fun z hz => hy z (by simp [hz]))
    unfold u8s at ih ⊢
    simp only [List.map_cons, Lib.compareBytes, cmpX, h1, h2, ih]
theorem less_u8 : ∀ (xs ys : List Int), (∀ x ∈ xs, 0 ≤ x ∧ x ≤ 255) → (∀ y ∈ ys, 0 ≤ y ∧ y ≤ 255) → Op.bytesLess (u8s xs) (u8s ys) = decide (cmpX xs ys = -1)
  | [], [], _, _ => by simp [u8s, Op.bytesLess, cmpX]
  | [], _ :: _, _, _ => by simp [u8s, Op.bytesLess, cmpX]
  | _ :: _, [], _, _ => by simp [u8s, Op.bytesLess, cmpX]
  | x :: xs, y :: ys, hx, hy => by
    have h1 := u8_lt (hx x (by simp)) (hy y (by simp))
    have h3 := u8_eq (hx x (by simp)) (hy y (by simp))
    have ih := less_u8 xs ys (fun z hz => hx z (by simp [hz])) (fun z hz => hy z (by simp [hz]))
    unfold u8s at ih ⊢
    simp only [List.map_cons, Op.bytesLess, cmpX, h1, h3, ih]
    by_cases a : x < y
    · simp [a]
    · by_cases b : y < x
      · have : ¬ x = y := by omega
        simp [a, b, this]
      · have : x = y := by omega
        simp [this]
theorem less_str {xs ys : List Int} (hx : ∀ x ∈ xs, 0 ≤ x ∧ x ≤ 255) (hy : ∀ y ∈ ys, 0 ≤ y ∧ y ≤ 255) : Op.bytesLess (strOfNums xs).toList (strOfNums ys).toList = decide (cmpX xs ys = -1) := by
  rw [str_list8, str_list8]; exact less_u8 xs ys hx hy
theorem cmpX_eq : ∀ (xs ys : List Int), cmpX xs ys = 0 ↔ xs = ys
  | [], [] => by simp [cmpX]
  | [], _ :: _ => by simp [cmpX]
  | _ :: _, [] => by simp [cmpX]
  | x :: xs, y :: ys => by
    have ih := cmpX_eq xs ys
    unfold cmpX
    by_cases a : x < y
    · simp [a]; omega
    · by_cases b : y < x
      · simp [a, b]; omega
      · have : x = y := by omega
        simp [this, ih]
theorem cmpX_val : ∀ (xs ys : List Int), cmpX xs ys = -1 ∨ cmpX xs ys = 0 ∨ cmpX xs ys = 1
  | [], [] => by simp [cmpX]
  | [], _ :: _ => by simp [cmpX]
  | _ :: _, [] => by simp [cmpX]
  | x :: xs, y :: ys => by
    have ih := cmpX_val xs ys
    unfold cmpX
    split
    · exact .inl rfl
    · split
      · exact .inr (.inr rfl)
      · exact ih
theorem run_bytesOf {w : World} {a : Option Addr} {len cap : Nat} {xs : List Int} (h : Reads w a len cap xs) : (Extern.Bytes.bytesOf (.slice a len cap)).run Tryz.prog w = .ok ⟨(u8s xs).toArray⟩ w := by
  have hlen := h.length
  rcases h.cells with ⟨h0, _⟩ | ⟨b, off, rfl, hc⟩
  · subst h0
    have hx : xs = [] := List.eq_nil_of_length_eq_zero hlen
    subst hx
    cases a with
    | none => rfl
    | some x => rfl
  · have hl := Lib.run_loadBytesX (P := Tryz.prog) w xs ⟨b, off, none⟩ .empty (fun j x hj => by
      have hjl : j < xs.length := (List.getElem?_eq_some_iff.1 hj).1
      have e : (⟨b, off, none⟩ : Addr).add j = ⟨b, off + j, none⟩ := by unfold Addr.add; split <;> simp_all
      rw [e, hc j (by omega), List.getD_eq_getElem?_getD, hj]
      rfl)
    rw [hlen] at hl
    show Sem.run Tryz.prog (Extern.Bytes.loadBytes ⟨b, off, none⟩ len .empty) w = _
    rw [hl]
    have e : (ByteArray.empty.data ++ (Lib.bytesOf xs).toArray) = (u8s xs).toArray := by simp [ByteArray.empty, ByteArray.emptyWithCapacity, Lib.bytesOf, u8s]; rfl
    rw [e]
theorem bytesCmpW (a1 a2 : Option Addr) (l1 c1 l2 c2 : Nat) (xs ys : List Int) (w : World) (h1 : Reads w a1 l1 c1 xs) (h2 : Reads w a2 l2 c2 ys) :
    Calls Tryz.prog 199 #[.slice a1 l1 c1, .slice a2 l2 c2] w fun e w' => e = .returned (.int .i64 (cmpX xs ys)) ∧ w = w' := by
  have HR : Hid ((Extern.BytealgCompare.compare #[.slice a1 l1 c1, .slice a2 l2 c2]).run Tryz.prog w = .ok (.int .i64 (cmpX xs ys)) w) := by
    show _ = _
    change Sem.run Tryz.prog (do pure (goInt (Extern.BytealgCompare.cmp (← Extern.Bytes.bytesOf (.slice a1 l1 c1)) (← Extern.Bytes.bytesOf (.slice a2 l2 c2))))) w = _
    simp only [Sem.run_bind, run_bytesOf h1, run_bytesOf h2, Sem.run_pure, Result.andThen]
    rw [Lib.cmp_eq]
    show Result.ok (Value.int .i64 (Lib.compareBytes (u8s xs) (u8s ys))) w = _
    rw [cmp_u8 xs ys (bd_mem h1.bd) (bd_mem h2.bd)]
  clear h1 h2
  go_enter Tryz.func199, Tryz.ntmps199
  go_wp2
  rw [run_callFunc_extern Tryz.func216 (by kernel_rfl) (by kernel_rfl) (by kernel_rfl) (e := Extern.BytealgCompare.compare) (by kernel_rfl), HR.out]
  simp only [Result.andThen]
  rw [Oper.upon_value]
  go_wp2
  go_ret
  exact ⟨rfl, rfl⟩
theorem cmpSW (x y : Int) (w : World) : Calls Tryz.prog 201 #[.int .i64 x, .int .i64 y] w fun e w' => e = .returned (.int .i64 (cmpI x y)) ∧ w = w' := by
  have hx : (x != x) = false := by simp
  have hy : (y != y) = false := by simp
  unfold cmpI
  by_cases h1 : x < y
  · rw [if_pos h1]
    go_enter Tryz.func201, Tryz.ntmps201
    go_wp2
    go_ret
    exact ⟨rfl, rfl⟩
  · rw [if_neg h1]
    by_cases h2 : y < x
    · rw [if_pos h2]
      go_enter Tryz.func201, Tryz.ntmps201
      go_wp2
      go_ret
      exact ⟨rfl, rfl⟩
    · rw [if_neg h2]
      go_enter Tryz.func201, Tryz.ntmps201
      go_wp2
      go_ret
      exact ⟨rfl, rfl⟩
theorem cmpUW (x y : Int) (w : World) : Calls Tryz.prog 202 #[.int .u64 x, .int .u64 y] w fun e w' => e = .returned (.int .i64 (cmpI x y)) ∧ w = w' := by
  have hx : (x != x) = false := by simp
  have hy : (y != y) = false := by simp
  unfold cmpI
  by_cases h1 : x < y
  · rw [if_pos h1]
    go_enter Tryz.func202, Tryz.ntmps202
    go_wp2
    go_ret
    exact ⟨rfl, rfl⟩
  · rw [if_neg h1]
    by_cases h2 : y < x
    · rw [if_pos h2]
      go_enter Tryz.func202, Tryz.ntmps202
      go_wp2
      go_ret
      exact ⟨rfl, rfl⟩
    · rw [if_neg h2]
      go_enter Tryz.func202, Tryz.ntmps202
      go_wp2
      go_ret
      exact ⟨rfl, rfl⟩
theorem cell_kept {w w' : World} {b o : Nat} {x : Value} (hb : Below w.heap.size w w') (h : w.cell? ⟨b, o, none⟩ = some x) : w'.cell? ⟨b, o, none⟩ = some x := by
  rw [hb.cell (p := ⟨b, o, none⟩) (World.block_lt_of_cell? _ _ h)]; exact h
theorem vcells {w w2 : World} {x y z : Value} (hb : Below (w.alloc (.cells #[x, y, z] 26)).heap.size (w.alloc (.cells #[x, y, z] 26)) w2) : w2.cell? ⟨w.heap.size, 0, none⟩ = some x ∧ w2.cell? ⟨w.heap.size, 1, none⟩ = some y ∧ w2.cell? ⟨w.heap.size, 2, none⟩ = some z := by
  have hbx : ∀ o, w2.cell? ⟨w.heap.size, o, none⟩ = (w.alloc (.cells #[x, y, z] 26)).cell? ⟨w.heap.size, o, none⟩ := fun o => World.cell?_of_block (hb.block w.heap.size (by simp))
  refine ⟨?_, ?_, ?_⟩
  all_goals (rw [hbx, World.cell?_alloc_at _ _ _ _ rfl]; rfl)
theorem froz {w w2 : World} {x y z : Value} (hb : Below (w.alloc (.cells #[x, y, z] 26)).heap.size (w.alloc (.cells #[x, y, z] 26)) w2) : ∀ o, w2.frozen? ⟨w.heap.size, o, none⟩ = false := fun o => by rw [hb.frozen (p := ⟨w.heap.size, o, none⟩) (by simp), World.frozen?_alloc_at _ _ _ _ rfl]
theorem two_cells {w w2 : World} {x y z x' y' z' : Value} (hb : Below ((w.alloc (.cells #[x, y, z] 26)).alloc (.cells #[x', y', z'] 26)).heap.size ((w.alloc (.cells #[x, y, z] 26)).alloc (.cells #[x', y', z'] 26)) w2) :
    (w2.cell? ⟨w.heap.size, 0, none⟩ = some x ∧ w2.cell? ⟨w.heap.size, 1, none⟩ = some y ∧ w2.cell? ⟨w.heap.size, 2, none⟩ = some z) ∧ (w2.cell? ⟨w.heap.size + 1, 0, none⟩ = some x' ∧ w2.cell? ⟨w.heap.size + 1, 1, none⟩ = some y' ∧ w2.cell? ⟨w.heap.size + 1, 2, none⟩ = some z') ∧ (∀ o, w2.frozen? ⟨w.heap.size, o, none⟩ = false) ∧ (∀ o, w2.frozen? ⟨w.heap.size + 1, o, none⟩ = false) ∧ w.heap.size + 1 < w2.heap.size ∧ Below w.heap.size w w2 := by
  have hs : w.heap.size + 1 < w2.heap.size := by have := hb.size; simp at this; omega
  have h0 : Below (w.alloc (.cells #[x, y, z] 26)).heap.size (w.alloc (.cells #[x, y, z] 26)) w2 := (below_alloc _).trans (hb.mono (by simp))
  have h1 := vcells (w := w.alloc (.cells #[x, y, z] 26)) hb
  have h2 := froz (w := w.alloc (.cells #[x, y, z] 26)) hb
  simp only [World.size_alloc] at h1 h2
  exact ⟨vcells h0, h1, froz h0, h2, hs, below_trans (below_alloc _) h0⟩
theorem below_two {w : World} (o o' : Obj) : Below w.heap.size w ((w.alloc o).alloc o') := below_trans (below_alloc _) (below_alloc _)
def cmpV (k n1 n2 : Int) (xs ys : List Int) : Int := if k = 14 then cmpX xs ys else if kneg k = true then cmpI (sgn n1) (sgn n2) else cmpI n1 n2
def cmpE (k n1 n2 : Int) (xs ys : List Int) (m1 m2 : Nat) : Int × Int := if kkey k = false then (0, 18) else if vfit k n1 xs.length m1 = false ∨ vfit k n2 ys.length m2 = false then (0, 7) else (cmpV k n1 n2 xs ys, 0)
section
variable (k n1 n2 : Int) (a1 a2 p1 p2 : Option Addr) (l1 c1 l2 c2 m1 m2 q1 q2 : Nat) (xs ys : List Int) (w : World)
theorem compareW (h10 : 0 ≤ n1) (h11 : n1 < 18446744073709551616) (h20 : 0 ≤ n2) (h21 : n2 < 18446744073709551616) (hr1 : Reads w a1 l1 c1 xs) (hr2 : Reads w a2 l2 c2 ys) (hm1 : m1 ≤ 9223372036854775807) (hm2 : m2 ≤ 9223372036854775807) :
    Calls Tryz.prog 177 #[.int .i64 k, .agg #[.int .u64 n1, .slice a1 l1 c1, .slice p1 m1 q1], .agg #[.int .u64 n2, .slice a2 l2 c2, .slice p2 m2 q2]] w fun e w' => e = .returned (.tuple #[.int .i64 (cmpE k n1 n2 xs ys m1 m2).1, .int .i64 (cmpE k n1 n2 xs ys m1 m2).2]) ∧ Below w.heap.size w w' := by
  have hl1 := hr1.length
  have hl2 := hr2.length
  have HR1 := hid hr1
  have HR2 := hid hr2
  have HK := hid (fun W => isKeyW k W)
  have HN := hid (fun W => negW k W)
  have H1 := hid (fun W => fitsW k n1 a1 p1 l1 c1 m1 q1 W h10 h11 (by have := hr1.le; have := hr1.max; omega) hm1)
  have H2 := hid (fun W => fitsW k n2 a2 p2 l2 c2 m2 q2 W h20 h21 (by have := hr2.le; have := hr2.max; omega) hm2)
  have HB : Hid (Below w.heap.size w w) := hid (Below.refl _ _)
  clear hr1 hr2
  unfold cmpE
  rw [hl1, hl2]
  clear hl1 hl2
  cases hk : kkey k with
  | false =>
    rw [if_pos rfl]
    rw [hk] at HK
    clear hk
    go_enter Tryz.func177, Tryz.ntmps177
    go_wp2_with (first | (go_at_call 198; refine (HK.out _).mono ?_; rintro e w' ⟨rfl, rfl⟩))
    go_ret2
    exact ⟨rfl, below_two _ _⟩
  | true =>
    rw [hk] at HK
    rw [if_neg (by simp)]
    cases hv1 : vfit k n1 l1 m1 with
    | false =>
      rw [if_pos (.inl rfl)]
      rw [hv1] at H1
      clear hk hv1
      go_enter Tryz.func177, Tryz.ntmps177
      go_wp2_with (first | (go_at_call 198; refine (HK.out _).mono ?_; rintro e w' ⟨rfl, rfl⟩) | (go_at_call 174; refine (H1.out _).mono ?_; rintro e w2 ⟨rfl, hb⟩; obtain ⟨⟨d0, d1, d2⟩, ⟨f0, f1, f2⟩, _, _, _, hbel⟩ := two_cells hb; replace HB := hid hbel; clear hb hbel))
      go_ret2
      exact ⟨rfl, HB.out⟩
    | true =>
      rw [hv1] at H1
      cases hv2 : vfit k n2 l2 m2 with
      | false =>
        rw [if_pos (.inr rfl)]
        rw [hv2] at H2
        clear hk hv1 hv2
        go_enter Tryz.func177, Tryz.ntmps177
        go_wp2_with fail
        refine (HK.out _).mono ?_
        rintro e w' ⟨rfl, rfl⟩
        go_wp2_with fail
        refine (H1.out _).mono ?_
        rintro e w2 ⟨rfl, hb⟩
        obtain ⟨⟨d0, d1, d2⟩, ⟨f0, f1, f2⟩, _, _, _, hbel⟩ := two_cells hb
        replace HB := hid hbel
        clear hb hbel
        go_wp2_with fail
        refine (H2.out _).mono ?_
        rintro e w3 ⟨rfl, hb⟩
        replace d0 := cell_kept hb d0
        replace d1 := cell_kept hb d1
        replace f0 := cell_kept hb f0
        replace f1 := cell_kept hb f1
        replace HB := hid (below_trans HB.out hb)
        clear hb d2 f2
        go_wp2
        go_ret2
        exact ⟨rfl, HB.out⟩
      | true =>
        rw [if_neg (by simp)]
        rw [hv2] at H2
        clear hk hv1 hv2
        unfold cmpV
        by_cases h14 : k = 14
        · subst h14
          rw [if_pos rfl]
          go_enter Tryz.func177, Tryz.ntmps177
          go_wp2_with fail
          refine (HK.out _).mono ?_
          rintro e w' ⟨rfl, rfl⟩
          go_wp2_with fail
          refine (H1.out _).mono ?_
          rintro e w2 ⟨rfl, hb⟩
          obtain ⟨⟨d0, d1, d2⟩, ⟨f0, f1, f2⟩, _, _, _, hbel⟩ := two_cells hb
          replace HB := hid hbel
          clear hb hbel
          go_wp2_with fail
          refine (H2.out _).mono ?_
          rintro e w3 ⟨rfl, hb⟩
          replace d0 := cell_kept hb d0
          replace d1 := cell_kept hb d1
          replace f0 := cell_kept hb f0
          replace f1 := cell_kept hb f1
          replace HB := hid (below_trans HB.out hb)
          clear hb d2 f2
          go_wp2_with (go_at_call 199; refine (bytesCmpW a1 a2 l1 c1 l2 c2 xs ys _ (reads_kept HR1.out HB.out) (reads_kept HR2.out HB.out)).mono ?_; rintro e w' ⟨rfl, rfl⟩)
          go_ret2
          exact ⟨rfl, HB.out⟩
        · rw [if_neg h14]
          have e14 : (k == 14) = false := by simpa using h14
          have hs1 := wrap64_sgn n1 h10 h11
          have hs2 := wrap64_sgn n2 h20 h21
          cases hn : kneg k with
          | true =>
            rw [if_pos rfl]
            rw [hn] at HN
            clear hn h14
            go_enter Tryz.func177, Tryz.ntmps177
            go_wp2_with fail
            refine (HK.out _).mono ?_
            rintro e w' ⟨rfl, rfl⟩
            go_wp2_with fail
            refine (H1.out _).mono ?_
            rintro e w2 ⟨rfl, hb⟩
            obtain ⟨⟨d0, d1, d2⟩, ⟨f0, f1, f2⟩, _, _, _, hbel⟩ := two_cells hb
            replace HB := hid hbel
            clear hb hbel
            go_wp2_with fail
            refine (H2.out _).mono ?_
            rintro e w3 ⟨rfl, hb⟩
            replace d0 := cell_kept hb d0
            replace d1 := cell_kept hb d1
            replace f0 := cell_kept hb f0
            replace f1 := cell_kept hb f1
            replace HB := hid (below_trans HB.out hb)
            clear hb d2 f2
            go_wp2_with (first | (go_at_call 200; refine (HN.out _).mono ?_; rintro e w' ⟨rfl, rfl⟩) | (go_at_call 201; refine (cmpSW _ _ _).mono ?_; rintro e w' ⟨rfl, rfl⟩))
            go_ret2
            exact ⟨rfl, HB.out⟩
          | false =>
            rw [if_neg (by simp)]
            rw [hn] at HN
            clear hn h14
            go_enter Tryz.func177, Tryz.ntmps177
            go_wp2_with fail
            refine (HK.out _).mono ?_
            rintro e w' ⟨rfl, rfl⟩
            go_wp2_with fail
            refine (H1.out _).mono ?_
            rintro e w2 ⟨rfl, hb⟩
            obtain ⟨⟨d0, d1, d2⟩, ⟨f0, f1, f2⟩, _, _, _, hbel⟩ := two_cells hb
            replace HB := hid hbel
            clear hb hbel
            go_wp2_with fail
            refine (H2.out _).mono ?_
            rintro e w3 ⟨rfl, hb⟩
            replace d0 := cell_kept hb d0
            replace d1 := cell_kept hb d1
            replace f0 := cell_kept hb f0
            replace f1 := cell_kept hb f1
            replace HB := hid (below_trans HB.out hb)
            clear hb d2 f2
            go_wp2_with (first | (go_at_call 200; refine (HN.out _).mono ?_; rintro e w' ⟨rfl, rfl⟩) | (go_at_call 202; refine (cmpUW _ _ _).mono ?_; rintro e w' ⟨rfl, rfl⟩))
            go_ret2
            exact ⟨rfl, HB.out⟩
end
set_option maxHeartbeats 1000000
/-- The first key before the second. -/
def keyLt (k : Int) (a b : CV CM) : Bool := decide ((cmpE k a.n b.n a.b b.b a.ms.length b.ms.length).1 < 0)
def keyS (k : Int) (l : List (CV CM)) (j : Nat) : Bool := (List.range' j (l.length - 1 - j)).all fun i => match l[i]?, l[i + 1]? with | some a, some b => keyLt k a b | _, _ => true
def keysB (k : Int) (l : List (CV CM)) : Bool := keyS k l 0
theorem keyS_step (k : Int) (l : List (CV CM)) (j : Nat) (h : j + 1 < l.length) : keyS k l j = (keyLt k l[j] l[j + 1] && keyS k l (j + 1)) := by
  unfold keyS
  rw [show l.length - 1 - j = (l.length - 1 - (j + 1)) + 1 by omega, List.range'_succ, List.all_cons]
  simp [h, show j < l.length by omega]
theorem keyS_end (k : Int) (l : List (CV CM)) (j : Nat) (h : l.length ≤ j + 1) : keyS k l j = true := by
  unfold keyS
  rw [show l.length - 1 - j = 0 by omega]
  rfl
theorem compareM {w : World} {Z : Nat → Prop} {d : Nat} (k : Int) {a b : CV CM} {ba bc ma mc : _} {ba' bc' ma' mc' : _} (h1 : ValE w Z (MsgE w Z d) [.int .u64 a.n, .slice ba a.b.length bc, .slice ma a.ms.length mc] a) (h2 : ValE w Z (MsgE w Z d) [.int .u64 b.n, .slice ba' b.b.length bc', .slice ma' b.ms.length mc'] b) : Calls Tryz.prog 177 #[.int .i64 k, .agg #[.int .u64 a.n, .slice ba a.b.length bc, .slice ma a.ms.length mc], .agg #[.int .u64 b.n, .slice ba' b.b.length bc', .slice ma' b.ms.length mc']] w fun e w' => (∃ r er, e = .returned (.tuple #[.int .i64 r, .int .i64 er]) ∧ Hid (keyLt k a b = decide (r < 0))) ∧ Below w.heap.size w w' := by
  obtain ⟨_, _, _, _, e1, g1, -, l1, l2, u1⟩ := val_open h1
  obtain ⟨_, _, _, _, e2, g2, -, l3, l4, u2⟩ := val_open h2
  simp only [List.cons.injEq, Value.slice.injEq, true_and, and_true] at e1 e2
  obtain ⟨⟨rfl, rfl⟩, rfl, rfl⟩ := e1
  obtain ⟨⟨rfl, rfl⟩, rfl, rfl⟩ := e2
  exact (compareW k a.n b.n _ _ _ _ _ _ _ _ _ _ _ _ a.b b.b w u1.1 u1.2 u2.1 u2.2 g1.reads g2.reads (by omega) (by omega)).mono fun e w' h => ⟨⟨_, _, h.1, hid rfl⟩, h.2⟩
theorem keysRiseM (w : World) (Z : Nat → Prop) (d : Nat) (k : Int) (xs : List (CV CM)) (a : Option Addr) (c : Nat) (h : VlsR w Z d (.slice a xs.length c) xs) : Calls Tryz.prog 147 #[.int .i64 k, .slice a xs.length c] w fun e w' => e = .returned (.bool (keysB k xs)) ∧ Below w.heap.size w w' := by
  obtain ⟨_, _, e1, l1⟩ := RowM.sl h
  clear e1
  have m1 : (xs.length : Int) ≤ 9223372036854775807 := by omega
  have H1 := hid h
  clear h
  go_enter Tryz.func147, Tryz.ntmps147
  go_wp2
  go_loopw [5] (fun s5 wr => ∃ j : Nat, s5 = .int .i64 ((j : Int) + 1) ∧ (j ≤ xs.length) ∧ Hid (keysB k xs = keyS k xs j) ∧ Hid (Below w.heap.size w wr)) (fun s5 wr => xs.length + 1 - numAt wr s5)
  case atStart => exact ⟨0, rfl, by omega, hid rfl, hid (Below.refl _ _)⟩
  case round =>
    obtain ⟨j, rfl, hj, HA, hb⟩ := hrel
    by_cases hlt : j + 1 < xs.length
    · have k2 : (j : Int) + 1 < (xs.length : Int) := by omega
      have k3 : (j : Int) + 1 - 1 = (j : Int) := by omega
      have k4 : (j : Int) < (xs.length : Int) := by omega
      obtain ⟨b1, o1, ba1, bc1, ma1, mc1, rfl, -, hb1, c0, c1, c2, he1⟩ := vls_at (H1.out.kept hb.out) (show j < xs.length by omega)
      obtain ⟨b2, o2, ba2, bc2, ma2, mc2, e2, -, -, d0, d1, d2, he2⟩ := vls_at (H1.out.kept hb.out) hlt
      cases e2
      have HST := hid (keyS_step k xs j hlt)
      have HE1 := hid he1
      have HE2 := hid he2
      clear he1 he2
      have e5 : ((j : Int) + 1).toNat = j + 1 := by omega
      have kw : IntKind.i64.wrap ((j : Int) + 1 - 1) = (j : Int) := by rw [k3, IntKind.wrap_i64]; omega
      have kw2 : IntKind.i64.wrap (j : Int) = (j : Int) := by rw [IntKind.wrap_i64]; omega
      have kw3 : wrap64 (j : Int) = (j : Int) := by unfold wrap64; omega
      have kw4 : wrap64 ((j : Int) + 1 - 1) = (j : Int) := by unfold wrap64; omega
      have kp : (0 : Int) ≤ (j : Int) := by omega
      have kp1 : (0 : Int) ≤ (j : Int) + 1 := by omega
      generalize xs[j] = x at *
      generalize xs[j + 1] = y at *
      have HC := hid fun W (hW : Below wr.heap.size wr W) => compareM k (HE1.out.kept hW) (HE2.out.kept hW)
      clear HE1 HE2
      go_wp2
      go_region_held3 (fun W => W.cell? ⟨b1, o1 + j * 3, none⟩ = some (.int .u64 x.n) ∧ W.cell? ⟨b1, o1 + j * 3 + 1, none⟩ = some (.slice ba1 x.b.length bc1) ∧ W.cell? ⟨b1, o1 + j * 3 + 2, none⟩ = some (.slice ma1 x.ms.length mc1) ∧ W.cell? ⟨b1, o1 + (j + 1) * 3, none⟩ = some (.int .u64 y.n) ∧ W.cell? ⟨b1, o1 + (j + 1) * 3 + 1, none⟩ = some (.slice ba2 y.b.length bc2) ∧ W.cell? ⟨b1, o1 + (j + 1) * 3 + 2, none⟩ = some (.slice ma2 y.ms.length mc2)) (exact ⟨c0, c1, c2, d0, d1, d2⟩) (first | (go_at_call 177; refine (HC.out _ (by exact blBy)).mono ?_; rintro e w1 ⟨⟨r, er, rfl, hkl⟩, hb1⟩; have HB1 : Hid (Below w.heap.size w w1) := hid (bl_then (by have := hb.out; exact blBy) hb1); replace c0 := cell_below c0 (bl_then (by exact blBy) hb1); replace c1 := cell_below c1 (bl_then (by exact blBy) hb1); replace c2 := cell_below c2 (bl_then (by exact blBy) hb1); replace d0 := cell_below d0 (bl_then (by exact blBy) hb1); replace d1 := cell_below d1 (bl_then (by exact blBy) hb1); replace d2 := cell_below d2 (bl_then (by exact blBy) hb1); clear hb1))
      by_cases hq : r < 0
      · have hq2 : ¬ (0 : Int) ≤ r := by omega
        have HQ : Hid (keysB k xs = keyS k xs (j + 1)) := hid (by rw [HA.out, HST.out, hkl.out]; simp [hq])
        go_wp2
        all_goals exact ⟨⟨j + 1, by simp, by omega, HQ, hid (by have := HB1.out; exact blBy)⟩, by simp [numAt]; omega⟩
      · have hq2 : (0 : Int) ≤ r := by omega
        have HQ : Hid (keysB k xs = false) := hid (by rw [HA.out, HST.out, hkl.out]; simp [hq])
        go_wp2
        go_ret
        exact ⟨ret_bool HQ.out.symm, by have := HB1.out; exact blBy⟩
    · have k2 : ¬ (j : Int) + 1 < (xs.length : Int) := by omega
      have HX : Hid (keysB k xs = true) := hid (by rw [HA.out, keyS_end k xs j (by omega)])
      go_wp2
      go_ret
      exact ⟨ret_bool HX.out.symm, hb.out⟩
theorem drop_at {xs : List Int} {j : Nat} (h : j < xs.length) : xs.drop j = xs[j]?.getD 0 :: xs.drop (j + 1) := by
  rw [List.drop_eq_getElem_cons h]
  simp [h]
theorem refRunesZero (a : Option Addr) (cap : Nat) (w : World) :
    Calls Tryz.prog 122 #[.slice a 0 cap] w fun e w' => e = .returned (.int .i64 0) ∧ w = w' := by
  go_enter Tryz.func122, Tryz.ntmps122
  go_wp2
  refine wp_loop_rounds 1 ?_
  rw [rounds_succ]
  go_wp2
  go_ret
  exact ⟨rfl, rfl⟩
theorem chr_at {xs : List Int} {pos : Nat} (h : pos < xs.length) : chr (xs.drop pos) = if szF (xs[pos]?.getD 0) = 0 then 0 else if okV (ctF (xs.drop (pos + 1)) (szF (xs[pos]?.getD 0) - 1) (v0F (xs[pos]?.getD 0))) (lowF (xs[pos]?.getD 0)) then szF (xs[pos]?.getD 0) else 0 := by
  rw [drop_at h, chr_cons]
theorem ct_bad {xs : List Int} {j n : Nat} {V : Int} (h : j < xs.length) (hd : xs[j]?.getD 0 < 128 ∨ 192 ≤ xs[j]?.getD 0) : ctF (xs.drop j) (n + 1) V = -1 := by
  rw [drop_at h]; simp [ctF, hd]
theorem ct_step {xs : List Int} {j n : Nat} {V : Int} (h : j < xs.length) (hd : ¬ (xs[j]?.getD 0 < 128 ∨ 192 ≤ xs[j]?.getD 0)) : ctF (xs.drop j) (n + 1) V = ctF (xs.drop (j + 1)) n (V * 64 + xs[j]?.getD 0 - 128) := by
  rw [drop_at h]; simp [ctF, hd]
theorem ct_short {xs : List Int} {j n : Nat} {V : Int} (h : xs.length < j + n) (hj : j ≤ xs.length) (hV : 0 ≤ V) : ¬ 0 ≤ ctF (xs.drop j) n V := fun hh => by
  have := ctF_len n _ V hV hh
  simp at this
  omega
section
variable {xs : List Int} {pos b sz : Nat} {acc c : Int}
/-- What a character that was read, or one that could not be read, says of the whole count. -/
theorem rn_ok (hp : pos < xs.length) (hc : xs[pos]?.getD 0 = c) (hs : szF c = sz) (h0 : sz ≠ 0) {V : Int} (hV : ctF (xs.drop (pos + 1)) (sz - 1) (v0F c) = V) (hok : okV V (lowF c) = true) (HR : rnF (b + 1) (xs.drop pos) acc = rn xs) :
    rnF b (xs.drop (pos + sz)) (acc + 1) = rn xs := by
  have e : chr (xs.drop pos) = sz := by rw [chr_at hp, hc, hs, if_neg h0, hV, hok]; rfl
  rw [← HR, rn_step hp (by rw [e]; exact h0), e]
theorem rn_no (hp : pos < xs.length) (hc : xs[pos]?.getD 0 = c) (h : szF c = 0 ∨ okV (ctF (xs.drop (pos + 1)) (szF c - 1) (v0F c)) (lowF c) = false) (HR : rnF (b + 1) (xs.drop pos) acc = rn xs) : (-1 : Int) = rn xs := by
  have e : chr (xs.drop pos) = 0 := by
    rw [chr_at hp, hc]
    by_cases h0 : szF c = 0
    · rw [if_pos h0]
    · rw [if_neg h0, h.resolve_left h0]; rfl
  rw [← HR, rn_bad hp e]
end
theorem okV_neg {v low : Int} (h0 : 0 ≤ low) (h : ¬ 0 ≤ v) : okV v low = false := by
  rw [Bool.eq_false_iff]; intro hh; have := (okV_iff _ _).1 hh; omega
set_option maxRecDepth 1000000 in
set_option maxHeartbeats 4000000 in
theorem refRunesIn (b off len cap : Nat) (xs : List Int) (w : World) (hl : xs.length = len) (_hlc : len ≤ cap) (_hm : cap ≤ 9223372036854775807) (hreach : len ≤ 140737488355328)
    (hc : ∀ i, i < len → w.cell? ⟨b, off + i, none⟩ = some (.int .u8 (xs.getD i 0))) (hr : ∀ i, 0 ≤ xs.getD i 0 ∧ xs.getD i 0 ≤ 255) :
    Calls Tryz.prog 122 #[.slice (some ⟨b, off, none⟩) len cap] w fun e w' => e = .returned (.int .i64 (rn xs)) ∧ w = w' := by
  have Hl := hid hl
  clear hl
  go_enter Tryz.func122, Tryz.ntmps122
  go_wp2
  go_loop [3, 4] (fun n i => ∃ (pos f : Nat) (acc : Int), n = .int .i64 acc ∧ i = .int .i64 pos ∧ 0 ≤ acc ∧ acc ≤ pos ∧ pos ≤ len ∧ Hid (rnF f (xs.drop pos) acc = rn xs) ∧ len ≤ pos + f) (fun _ i => len - (intOf i).toNat)
  case atStart => exact ⟨0, len, 0, rfl, rfl, by omega, by omega, by omega, by show rnF len (xs.drop 0) 0 = _; rw [List.drop_zero, ← Hl.out]; rfl, by omega⟩
  case round =>
    obtain ⟨pos, f, acc, rfl, rfl, ha0, hap, hpl, HR, hf⟩ := hrel
    by_cases hp : pos < len
    · obtain ⟨f, rfl⟩ : ∃ f', f = f' + 1 := ⟨f - 1, by omega⟩
      obtain ⟨c, hcc⟩ : ∃ c, xs[pos]?.getD 0 = c := ⟨_, rfl⟩
      have hcb : 0 ≤ c ∧ c ≤ 255 := by have := hr pos; rw [List.getD_eq_getElem?_getD, hcc] at this; exact this
      have hck : w.cell? ⟨b, off + pos, none⟩ = some (.int .u8 c) := by rw [hc pos hp, List.getD_eq_getElem?_getD, hcc]
      have Hcc := hid hcc
      have HX : Hid (pos < xs.length) := hid (by rw [Hl.out]; exact hp)
      have hb1 : c ≤ 255 := hcb.2
      have hb0 : 0 ≤ c := hcb.1
      have HC := hid hc
      have HRr := hid hr
      clear hcc hcb hc hr
      by_cases c1 : c < 128
      · have HS : Hid (rnF f (xs.drop (pos + 1)) (acc + 1) = rn xs) := hid (rn_ok (sz := 1) HX.out Hcc.out (by simp [szF, c1]) (by decide) rfl ((okV_iff _ _).2 (by simp [v0F, lowF, c1, ctF]; omega)) HR.out)
        clear HR
        go_wp2
        refine wp_loop_rounds 1 ?_
        rw [rounds_succ]
        go_wp2
        all_goals exact ⟨⟨pos + 1, f, acc + 1, by go_num, by go_num, by omega, by omega, by omega, HS, by omega⟩, by simp [intOf]; omega⟩
      by_cases c2 : c < 192
      · have HM : Hid ((-1 : Int) = rn xs) := hid (rn_no HX.out Hcc.out (.inl (by unfold szF; (repeat' split) <;> omega)) HR.out)
        clear HR
        go_wp2
        try rw [Exit.noGoto_ret]
        go_ret
        exact ⟨ret_int HM.out, rfl⟩
      by_cases c3 : c < 224
      · have hs : szF c = 2 := by unfold szF; (repeat' split) <;> omega
        have hv : v0F c = c - 192 := by unfold v0F; (repeat' split) <;> omega
        have hlw : lowF c = 128 := by unfold lowF; (repeat' split) <;> omega
        have HNo : Hid (okV (ctF (xs.drop (pos + 1)) 1 (c - 192)) 128 = false → (-1 : Int) = rn xs) := hid (fun h => rn_no HX.out Hcc.out (.inr (by rw [hs, hv, hlw]; exact h)) HR.out)
        have HYes : Hid (okV (ctF (xs.drop (pos + 1)) 1 (c - 192)) 128 = true → rnF f (xs.drop (pos + 2)) (acc + 1) = rn xs) := hid (fun h => rn_ok (sz := 2) HX.out Hcc.out hs (by decide) (by rw [hv]) (by rw [hlw]; exact h) HR.out)
        clear HR hs hv hlw
        by_cases hfit : pos + 2 ≤ len
        · go_wp2
          go_loop [7, 9] (fun v k => ∃ (j : Nat) (V : Int), 1 ≤ j ∧ j ≤ 2 ∧ 0 ≤ V ∧ V < 8388608 ∧ (j ≤ 3 → V < 131072) ∧ (j ≤ 2 → V < 2048) ∧ (j ≤ 1 → V < 32) ∧ v = .int .i64 V ∧ k = .int .i64 j ∧ Hid (ctF (xs.drop (pos + j)) (2 - j) V = ctF (xs.drop (pos + 1)) 1 (c - 192))) (fun _ k => 2 - (intOf k).toNat)
          case atStart => exact ⟨1, c - 192, by omega, by omega, by omega, by omega, by omega, by omega, by omega, by first | rfl | go_num, rfl, hid rfl⟩
          case round =>
            obtain ⟨j, V, hj1, hjs, hV0, hV4, hV3, hV2, hV1, rfl, rfl, HT⟩ := hrel
            by_cases hj : j < 2
            · obtain ⟨d, hdd⟩ : ∃ d, xs[pos + j]?.getD 0 = d := ⟨_, rfl⟩
              have hdk : w.cell? ⟨b, off + (pos + j), none⟩ = some (.int .u8 d) := by rw [HC.out (pos + j) (by omega), List.getD_eq_getElem?_getD, hdd]
              have hdb : 0 ≤ d ∧ d ≤ 255 := by have := HRr.out (pos + j); rw [List.getD_eq_getElem?_getD, hdd] at this; exact this
              have hd0 := hdb.1
              have hd1 := hdb.2
              have Hdd := hid hdd
              clear hdd hdb
              have HXj : Hid (pos + j < xs.length) := hid (by rw [Hl.out]; omega)
              obtain ⟨n, hn⟩ : ∃ n, 2 - j = n + 1 := ⟨2 - j - 1, by omega⟩
              have Hn := hid hn
              clear hn
              by_cases hbad : d < 128 ∨ 192 ≤ d
              · have HM : Hid ((-1 : Int) = rn xs) := hid (HNo.out (by rw [← HT.out, Hn.out, ct_bad HXj.out (by rw [Hdd.out]; exact hbad)]; exact okV_neg (by decide) (by decide)))
                clear HT
                rcases hbad with hbad | hbad
                all_goals
                  go_wp2
                  try rw [Exit.noGoto_ret]
                  go_ret
                  exact ⟨ret_int HM.out, rfl⟩
              · have h1 : ¬ d < 128 := fun h => hbad (.inl h)
                have h2 : ¬ 192 ≤ d := fun h => hbad (.inr h)
                have HT2 : Hid (ctF (xs.drop (pos + (j + 1))) (2 - (j + 1)) (V * 64 + d - 128) = ctF (xs.drop (pos + 1)) 1 (c - 192)) := hid (by rw [← HT.out, Hn.out, ct_step HXj.out (by rw [Hdd.out]; exact hbad), Hdd.out, show 2 - (j + 1) = n by have := Hn.out; omega]; rfl)
                clear HT hbad
                go_wp2
                exact ⟨⟨j + 1, V * 64 + d - 128, by omega, by omega, by omega, by omega, by omega, by omega, by omega, by go_num, by go_num, HT2⟩, by simp [intOf]; omega⟩
            · obtain rfl : j = 2 := by omega
              have HV : Hid (ctF (xs.drop (pos + 1)) 1 (c - 192) = V) := hid (by rw [← HT.out]; cases (xs.drop (pos + 2)) <;> rfl)
              clear HT
              by_cases hok : okV V 128 = true
              · have HS : Hid (rnF f (xs.drop (pos + 2)) (acc + 1) = rn xs) := hid (HYes.out (by rw [HV.out]; exact hok))
                have hok' := (okV_iff _ _).1 hok
                have o1 := hok'.1
                have o2 := hok'.2.1
                have o3 : V < 55296 ∨ 57343 < V := by omega
                clear hok hok'
                rcases o3 with o3 | o3
                all_goals go_wp2
                all_goals
                  exact ⟨⟨pos + 2, f, acc + 1, by go_num, by go_num, by omega, by omega, by omega, HS, by omega⟩, by simp [intOf]; omega⟩
              · have HM : Hid ((-1 : Int) = rn xs) := hid (HNo.out (by rw [HV.out]; simpa using hok))
                have hok' : V < 128 ∨ 1114111 < V ∨ (55296 ≤ V ∧ V ≤ 57343) := by
                  by_cases a1 : V < 128
                  · exact .inl a1
                  by_cases a2 : 1114111 < V
                  · exact .inr (.inl a2)
                  exact .inr (.inr (Classical.byContradiction fun a3 => hok ((okV_iff _ _).2 ⟨by omega, by omega, a3⟩)))
                clear hok
                by_cases a1 : V < 128
                · clear hok'
                  go_wp2
                  try rw [Exit.noGoto_ret]
                  go_ret
                  exact ⟨ret_int HM.out, rfl⟩
                by_cases a2 : 1114111 < V
                · clear hok'
                  go_wp2
                  try rw [Exit.noGoto_ret]
                  go_ret
                  exact ⟨ret_int HM.out, rfl⟩
                have a3 : 55296 ≤ V := by omega
                have a4 : V ≤ 57343 := by omega
                clear hok'
                go_wp2
                try rw [Exit.noGoto_ret]
                go_ret
                exact ⟨ret_int HM.out, rfl⟩
        · have HM : Hid ((-1 : Int) = rn xs) := hid (HNo.out (okV_neg (by decide) (ct_short (by rw [Hl.out]; omega) (by have := HX.out; omega) (by omega))))
          go_wp2
          try rw [Exit.noGoto_ret]
          go_ret
          exact ⟨ret_int HM.out, rfl⟩
      by_cases c4 : c < 240
      · have hs : szF c = 3 := by unfold szF; (repeat' split) <;> omega
        have hv : v0F c = c - 224 := by unfold v0F; (repeat' split) <;> omega
        have hlw : lowF c = 2048 := by unfold lowF; (repeat' split) <;> omega
        have HNo : Hid (okV (ctF (xs.drop (pos + 1)) 2 (c - 224)) 2048 = false → (-1 : Int) = rn xs) := hid (fun h => rn_no HX.out Hcc.out (.inr (by rw [hs, hv, hlw]; exact h)) HR.out)
        have HYes : Hid (okV (ctF (xs.drop (pos + 1)) 2 (c - 224)) 2048 = true → rnF f (xs.drop (pos + 3)) (acc + 1) = rn xs) := hid (fun h => rn_ok (sz := 3) HX.out Hcc.out hs (by decide) (by rw [hv]) (by rw [hlw]; exact h) HR.out)
        clear HR hs hv hlw
        by_cases hfit : pos + 3 ≤ len
        · go_wp2
          go_loop [7, 9] (fun v k => ∃ (j : Nat) (V : Int), 1 ≤ j ∧ j ≤ 3 ∧ 0 ≤ V ∧ V < 8388608 ∧ (j ≤ 3 → V < 131072) ∧ (j ≤ 2 → V < 2048) ∧ (j ≤ 1 → V < 32) ∧ v = .int .i64 V ∧ k = .int .i64 j ∧ Hid (ctF (xs.drop (pos + j)) (3 - j) V = ctF (xs.drop (pos + 1)) 2 (c - 224))) (fun _ k => 3 - (intOf k).toNat)
          case atStart => exact ⟨1, c - 224, by omega, by omega, by omega, by omega, by omega, by omega, by omega, by first | rfl | go_num, rfl, hid rfl⟩
          case round =>
            obtain ⟨j, V, hj1, hjs, hV0, hV4, hV3, hV2, hV1, rfl, rfl, HT⟩ := hrel
            by_cases hj : j < 3
            · obtain ⟨d, hdd⟩ : ∃ d, xs[pos + j]?.getD 0 = d := ⟨_, rfl⟩
              have hdk : w.cell? ⟨b, off + (pos + j), none⟩ = some (.int .u8 d) := by rw [HC.out (pos + j) (by omega), List.getD_eq_getElem?_getD, hdd]
              have hdb : 0 ≤ d ∧ d ≤ 255 := by have := HRr.out (pos + j); rw [List.getD_eq_getElem?_getD, hdd] at this; exact this
              have hd0 := hdb.1
              have hd1 := hdb.2
              have Hdd := hid hdd
              clear hdd hdb
              have HXj : Hid (pos + j < xs.length) := hid (by rw [Hl.out]; omega)
              obtain ⟨n, hn⟩ : ∃ n, 3 - j = n + 1 := ⟨3 - j - 1, by omega⟩
              have Hn := hid hn
              clear hn
              by_cases hbad : d < 128 ∨ 192 ≤ d
              · have HM : Hid ((-1 : Int) = rn xs) := hid (HNo.out (by rw [← HT.out, Hn.out, ct_bad HXj.out (by rw [Hdd.out]; exact hbad)]; exact okV_neg (by decide) (by decide)))
                clear HT
                rcases hbad with hbad | hbad
                all_goals
                  go_wp2
                  try rw [Exit.noGoto_ret]
                  go_ret
                  exact ⟨ret_int HM.out, rfl⟩
              · have h1 : ¬ d < 128 := fun h => hbad (.inl h)
                have h2 : ¬ 192 ≤ d := fun h => hbad (.inr h)
                have HT2 : Hid (ctF (xs.drop (pos + (j + 1))) (3 - (j + 1)) (V * 64 + d - 128) = ctF (xs.drop (pos + 1)) 2 (c - 224)) := hid (by rw [← HT.out, Hn.out, ct_step HXj.out (by rw [Hdd.out]; exact hbad), Hdd.out, show 3 - (j + 1) = n by have := Hn.out; omega]; rfl)
                clear HT hbad
                go_wp2
                exact ⟨⟨j + 1, V * 64 + d - 128, by omega, by omega, by omega, by omega, by omega, by omega, by omega, by go_num, by go_num, HT2⟩, by simp [intOf]; omega⟩
            · obtain rfl : j = 3 := by omega
              have HV : Hid (ctF (xs.drop (pos + 1)) 2 (c - 224) = V) := hid (by rw [← HT.out]; cases (xs.drop (pos + 3)) <;> rfl)
              clear HT
              by_cases hok : okV V 2048 = true
              · have HS : Hid (rnF f (xs.drop (pos + 3)) (acc + 1) = rn xs) := hid (HYes.out (by rw [HV.out]; exact hok))
                have hok' := (okV_iff _ _).1 hok
                have o1 := hok'.1
                have o2 := hok'.2.1
                have o3 : V < 55296 ∨ 57343 < V := by omega
                clear hok hok'
                rcases o3 with o3 | o3
                all_goals go_wp2
                all_goals
                  exact ⟨⟨pos + 3, f, acc + 1, by go_num, by go_num, by omega, by omega, by omega, HS, by omega⟩, by simp [intOf]; omega⟩
              · have HM : Hid ((-1 : Int) = rn xs) := hid (HNo.out (by rw [HV.out]; simpa using hok))
                have hok' : V < 2048 ∨ 1114111 < V ∨ (55296 ≤ V ∧ V ≤ 57343) := by
                  by_cases a1 : V < 2048
                  · exact .inl a1
                  by_cases a2 : 1114111 < V
                  · exact .inr (.inl a2)
                  exact .inr (.inr (Classical.byContradiction fun a3 => hok ((okV_iff _ _).2 ⟨by omega, by omega, a3⟩)))
                clear hok
                by_cases a1 : V < 2048
                · clear hok'
                  go_wp2
                  try rw [Exit.noGoto_ret]
                  go_ret
                  exact ⟨ret_int HM.out, rfl⟩
                by_cases a2 : 1114111 < V
                · clear hok'
                  go_wp2
                  try rw [Exit.noGoto_ret]
                  go_ret
                  exact ⟨ret_int HM.out, rfl⟩
                have a3 : 55296 ≤ V := by omega
                have a4 : V ≤ 57343 := by omega
                clear hok'
                go_wp2
                try rw [Exit.noGoto_ret]
                go_ret
                exact ⟨ret_int HM.out, rfl⟩
        · have HM : Hid ((-1 : Int) = rn xs) := hid (HNo.out (okV_neg (by decide) (ct_short (by rw [Hl.out]; omega) (by have := HX.out; omega) (by omega))))
          go_wp2
          try rw [Exit.noGoto_ret]
          go_ret
          exact ⟨ret_int HM.out, rfl⟩
      by_cases c5 : c < 248
      · have hs : szF c = 4 := by unfold szF; (repeat' split) <;> omega
        have hv : v0F c = c - 240 := by unfold v0F; (repeat' split) <;> omega
        have hlw : lowF c = 65536 := by unfold lowF; (repeat' split) <;> omega
        have HNo : Hid (okV (ctF (xs.drop (pos + 1)) 3 (c - 240)) 65536 = false → (-1 : Int) = rn xs) := hid (fun h => rn_no HX.out Hcc.out (.inr (by rw [hs, hv, hlw]; exact h)) HR.out)
        have HYes : Hid (okV (ctF (xs.drop (pos + 1)) 3 (c - 240)) 65536 = true → rnF f (xs.drop (pos + 4)) (acc + 1) = rn xs) := hid (fun h => rn_ok (sz := 4) HX.out Hcc.out hs (by decide) (by rw [hv]) (by rw [hlw]; exact h) HR.out)
        clear HR hs hv hlw
        by_cases hfit : pos + 4 ≤ len
        · go_wp2
          go_loop [7, 9] (fun v k => ∃ (j : Nat) (V : Int), 1 ≤ j ∧ j ≤ 4 ∧ 0 ≤ V ∧ V < 8388608 ∧ (j ≤ 3 → V < 131072) ∧ (j ≤ 2 → V < 2048) ∧ (j ≤ 1 → V < 32) ∧ v = .int .i64 V ∧ k = .int .i64 j ∧ Hid (ctF (xs.drop (pos + j)) (4 - j) V = ctF (xs.drop (pos + 1)) 3 (c - 240))) (fun _ k => 4 - (intOf k).toNat)
          case atStart => exact ⟨1, c - 240, by omega, by omega, by omega, by omega, by omega, by omega, by omega, by first | rfl | go_num, rfl, hid rfl⟩
          case round =>
            obtain ⟨j, V, hj1, hjs, hV0, hV4, hV3, hV2, hV1, rfl, rfl, HT⟩ := hrel
            by_cases hj : j < 4
            · obtain ⟨d, hdd⟩ : ∃ d, xs[pos + j]?.getD 0 = d := ⟨_, rfl⟩
              have hdk : w.cell? ⟨b, off + (pos + j), none⟩ = some (.int .u8 d) := by rw [HC.out (pos + j) (by omega), List.getD_eq_getElem?_getD, hdd]
              have hdb : 0 ≤ d ∧ d ≤ 255 := by have := HRr.out (pos + j); rw [List.getD_eq_getElem?_getD, hdd] at this; exact this
              have hd0 := hdb.1
              have hd1 := hdb.2
              have Hdd := hid hdd
              clear hdd hdb
              have HXj : Hid (pos + j < xs.length) := hid (by rw [Hl.out]; omega)
              obtain ⟨n, hn⟩ : ∃ n, 4 - j = n + 1 := ⟨4 - j - 1, by omega⟩
              have Hn := hid hn
              clear hn
              by_cases hbad : d < 128 ∨ 192 ≤ d
              · have HM : Hid ((-1 : Int) = rn xs) := hid (HNo.out (by rw [← HT.out, Hn.out, ct_bad HXj.out (by rw [Hdd.out]; exact hbad)]; exact okV_neg (by decide) (by decide)))
                clear HT
                rcases hbad with hbad | hbad
                all_goals
                  go_wp2
                  try rw [Exit.noGoto_ret]
                  go_ret
                  exact ⟨ret_int HM.out, rfl⟩
              · have h1 : ¬ d < 128 := fun h => hbad (.inl h)
                have h2 : ¬ 192 ≤ d := fun h => hbad (.inr h)
                have HT2 : Hid (ctF (xs.drop (pos + (j + 1))) (4 - (j + 1)) (V * 64 + d - 128) = ctF (xs.drop (pos + 1)) 3 (c - 240)) := hid (by rw [← HT.out, Hn.out, ct_step HXj.out (by rw [Hdd.out]; exact hbad), Hdd.out, show 4 - (j + 1) = n by have := Hn.out; omega]; rfl)
                clear HT hbad
                go_wp2
                exact ⟨⟨j + 1, V * 64 + d - 128, by omega, by omega, by omega, by omega, by omega, by omega, by omega, by go_num, by go_num, HT2⟩, by simp [intOf]; omega⟩
            · obtain rfl : j = 4 := by omega
              have HV : Hid (ctF (xs.drop (pos + 1)) 3 (c - 240) = V) := hid (by rw [← HT.out]; cases (xs.drop (pos + 4)) <;> rfl)
              clear HT
              by_cases hok : okV V 65536 = true
              · have HS : Hid (rnF f (xs.drop (pos + 4)) (acc + 1) = rn xs) := hid (HYes.out (by rw [HV.out]; exact hok))
                have hok' := (okV_iff _ _).1 hok
                have o1 := hok'.1
                have o2 := hok'.2.1
                have o3 : V < 55296 ∨ 57343 < V := by omega
                clear hok hok'
                rcases o3 with o3 | o3
                all_goals go_wp2
                all_goals
                  exact ⟨⟨pos + 4, f, acc + 1, by go_num, by go_num, by omega, by omega, by omega, HS, by omega⟩, by simp [intOf]; omega⟩
              · have HM : Hid ((-1 : Int) = rn xs) := hid (HNo.out (by rw [HV.out]; simpa using hok))
                have hok' : V < 65536 ∨ 1114111 < V ∨ (55296 ≤ V ∧ V ≤ 57343) := by
                  by_cases a1 : V < 65536
                  · exact .inl a1
                  by_cases a2 : 1114111 < V
                  · exact .inr (.inl a2)
                  exact .inr (.inr (Classical.byContradiction fun a3 => hok ((okV_iff _ _).2 ⟨by omega, by omega, a3⟩)))
                clear hok
                by_cases a1 : V < 65536
                · clear hok'
                  go_wp2
                  try rw [Exit.noGoto_ret]
                  go_ret
                  exact ⟨ret_int HM.out, rfl⟩
                by_cases a2 : 1114111 < V
                · clear hok'
                  go_wp2
                  try rw [Exit.noGoto_ret]
                  go_ret
                  exact ⟨ret_int HM.out, rfl⟩
                have a3 : 55296 ≤ V := by omega
                have a4 : V ≤ 57343 := by omega
                clear hok'
                go_wp2
                try rw [Exit.noGoto_ret]
                go_ret
                exact ⟨ret_int HM.out, rfl⟩
        · have HM : Hid ((-1 : Int) = rn xs) := hid (HNo.out (okV_neg (by decide) (ct_short (by rw [Hl.out]; omega) (by have := HX.out; omega) (by omega))))
          go_wp2
          try rw [Exit.noGoto_ret]
          go_ret
          exact ⟨ret_int HM.out, rfl⟩
      · have HM : Hid ((-1 : Int) = rn xs) := hid (rn_no HX.out Hcc.out (.inl (by unfold szF; (repeat' split) <;> omega)) HR.out)
        clear HR
        go_wp2
        try rw [Exit.noGoto_ret]
        go_ret
        exact ⟨ret_int HM.out, rfl⟩
    · have HE : Hid (acc = rn xs) := by show _ = _; rw [← HR.out, rn_end (by rw [Hl.out]; exact hp)]
      clear HR
      go_wp2
      go_ret
      exact ⟨ret_int HE.out, rfl⟩
/-- The document's Runes at a slice that can be read. -/
theorem refRunesR (a : Option Addr) (len cap : Nat) (xs : List Int) (w : World) (h : Reads w a len cap xs) (hreach : len ≤ 140737488355328) :
    Calls Tryz.prog 122 #[.slice a len cap] w fun e w' => e = .returned (.int .i64 (rn xs)) ∧ w = w' := by
  rcases h.cells with ⟨h0, _⟩ | ⟨b, off, rfl, hc⟩
  · subst h0
    have hx : xs = [] := List.eq_nil_of_length_eq_zero h.length
    subst hx
    exact refRunesZero a cap w
  · exact refRunesIn b off len cap xs w h.length h.le h.max hreach hc h.bd
theorem validR8 (a : Option Addr) (len cap : Nat) (w : World) (xs : List Int) (h : Reads w a len cap xs) (hreach : len ≤ 140737488355328) : Calls Tryz.prog 82 #[.slice a len cap] w fun e w' => e = .returned (.bool (decide (0 ≤ rn xs))) ∧ w = w' := by
  go_enter Tryz.func82, Tryz.ntmps82
  go_wp2_with (go_at_call 122; refine (refRunesR a len cap xs _ h hreach).mono ?_; rintro e w' ⟨rfl, rfl⟩)
  go_ret
  exact ⟨rfl, rfl⟩
set_option maxHeartbeats 4000000
theorem conv {w : World} {a : Option Addr} {len cap : Nat} {xs : List Int} (h : Reads w a len cap xs) : (convert 23 9 (.slice a len cap)).run Tryz.prog w = .ok (.string (strOfNums xs)) w := by
  rcases h.cells with ⟨h0, _⟩ | ⟨b, off, rfl, hc⟩
  · subst h0
    have hx : xs = [] := List.eq_nil_of_length_eq_zero h.length
    subst hx
    cases a with
    | none => rw [run_convert_bytes_nil w 23 5 Tryz.underlying23 Tryz.underlying5 0 cap 9 Tryz.underlying9]; rfl
    | some x =>
      rw [run_convert_bytes_string w 23 9 5 _ 0 cap Tryz.underlying23 Tryz.underlying5 Tryz.underlying9, run_bytesToString w _ 0 cap [] (by simp [loadCells, loadCellsFrom])]
      rfl
  · exact run_convert_bytes_arg w 23 5 Tryz.underlying23 Tryz.underlying5 b off len cap xs h.length hc 9 Tryz.underlying9
theorem signedR (k : Int) (w : World) : Calls Tryz.prog 84 #[.int .i64 k] w fun e w' => e = .returned (.bool (kneg k || decide (k = 16))) ∧ w = w' := by
  rcases kinds k with rfl | rfl | rfl | rfl | rfl | rfl | rfl | rfl | rfl | rfl | rfl | rfl | rfl | rfl | rfl | rfl | rfl | h | h
  iterate 17 (next => go_enter Tryz.func84, Tryz.ntmps84; go_wp2; go_ret; exact ⟨rfl, rfl⟩)
  · obtain ⟨e1, e2, e3, e4, e5, e6, e7, e8, e9, e10, e11, e12, e13, e14, e15, e16, e17⟩ := noKind (.inl h)
    have H : Hid (false = (kneg k || decide (k = 16))) := hid (by rw [kneg_no (.inl h)]; simp; omega)
    clear h
    go_enter Tryz.func84, Tryz.ntmps84
    go_wp2
    go_ret
    exact ⟨ret_bool H.out, rfl⟩
  · obtain ⟨e1, e2, e3, e4, e5, e6, e7, e8, e9, e10, e11, e12, e13, e14, e15, e16, e17⟩ := noKind (.inr h)
    have H : Hid (false = (kneg k || decide (k = 16))) := hid (by rw [kneg_no (.inr h)]; simp; omega)
    clear h
    go_enter Tryz.func84, Tryz.ntmps84
    go_wp2
    go_ret
    exact ⟨ret_bool H.out, rfl⟩
/-- The highest bit turned. -/
def flip (n : Int) : Int := if n < 9223372036854775808 then n + 9223372036854775808 else n - 9223372036854775808
theorem flip_xor (n : Int) (h0 : 0 ≤ n) (h1 : n < 18446744073709551616) : bits .xor .u64 n 9223372036854775808 = flip n := by
  obtain ⟨m, rfl⟩ := Int.eq_ofNat_of_zero_le h0
  have hm : m < 18446744073709551616 := by omega
  rw [show (9223372036854775808 : Int) = ((9223372036854775808 : Nat) : Int) from rfl, bits_xor_u64_nat _ _ (by omega) (by decide)]
  have hd : (m ^^^ 9223372036854775808) / 2 ^ 63 = (m / 2 ^ 63) ^^^ (9223372036854775808 / 2 ^ 63) := Nat.xor_div_two_pow
  have hr : (m ^^^ 9223372036854775808) % 2 ^ 63 = (m % 2 ^ 63) ^^^ (9223372036854775808 % 2 ^ 63) := Nat.xor_mod_two_pow
  have e1 : 9223372036854775808 / 2 ^ 63 = 1 := by decide
  have e2 : 9223372036854775808 % 2 ^ 63 = 0 := by decide
  rw [e1] at hd
  rw [e2, Nat.xor_zero] at hr
  have hb : m / 2 ^ 63 = 0 ∨ m / 2 ^ 63 = 1 := by omega
  unfold flip
  rcases hb with hb | hb
  · rw [hb] at hd
    rw [show (0 ^^^ 1 : Nat) = 1 from rfl] at hd
    rw [if_pos (by omega)]
    omega
  · rw [hb] at hd
    rw [show (1 ^^^ 1 : Nat) = 0 from rfl] at hd
    rw [if_neg (by omega)]
    omega
theorem flip_cmp {a b : Int} (ha : 0 ≤ a ∧ a < 18446744073709551616) (hb : 0 ≤ b ∧ b < 18446744073709551616) : cmpI (flip a) (flip b) = cmpI (sgn a) (sgn b) := by
  unfold cmpI flip sgn
  (repeat' split) <;> omega
section
variable (k n1 n2 : Int) (a1 a2 p1 p2 : Option Addr) (l1 c1 l2 c2 m1 m2 q1 q2 : Nat) (xs ys : List Int) (w : World)
theorem refCmp14 (hr1 : Reads w a1 l1 c1 xs) (hr2 : Reads w a2 l2 c2 ys) :
    Calls Tryz.prog 42 #[.int .i64 14, .agg #[.int .u64 n1, .slice a1 l1 c1, .slice p1 m1 q1], .agg #[.int .u64 n2, .slice a2 l2 c2, .slice p2 m2 q2]] w fun e w' => e = .returned (.int .i64 (cmpX xs ys)) ∧ Below w.heap.size w w' := by
  have e1 := conv (w := (w.alloc (.cells #[.int .u64 n1, .slice a1 l1 c1, .slice p1 m1 q1] 26)).alloc (.cells #[.int .u64 n2, .slice a2 l2 c2, .slice p2 m2 q2] 26)) (reads_kept hr1 (below_two _ _))
  have e2 := conv (w := (w.alloc (.cells #[.int .u64 n1, .slice a1 l1 c1, .slice p1 m1 q1] 26)).alloc (.cells #[.int .u64 n2, .slice a2 l2 c2, .slice p2 m2 q2] 26)) (reads_kept hr2 (below_two _ _))
  have hl := less_str (bd_mem hr1.bd) (bd_mem hr2.bd)
  have he := str_eq (bd_mem hr1.bd) (bd_mem hr2.bd)
  clear hr1 hr2
  rcases cmpX_val xs ys with hc | hc | hc
  · rw [hc] at hl ⊢
    have hl2 : Op.bytesLess (strOfNums xs).toList (strOfNums ys).toList = true := by rw [hl]; rfl
    clear hl he hc
    go_enter Tryz.func42, Tryz.ntmps42
    go_wp2
    go_ret
    exact ⟨rfl, below_two _ _⟩
  · rw [hc] at hl ⊢
    have hl2 : Op.bytesLess (strOfNums xs).toList (strOfNums ys).toList = false := by rw [hl]; rfl
    have he2 : ((strOfNums xs).toList == (strOfNums ys).toList) = true := by rw [he]; simpa using (cmpX_eq xs ys).1 hc
    clear hl he hc
    go_enter Tryz.func42, Tryz.ntmps42
    go_wp2
    go_ret
    exact ⟨rfl, below_two _ _⟩
  · have hne : xs ≠ ys := fun e => by rw [(cmpX_eq xs ys).2 e] at hc; cases hc
    rw [hc] at hl ⊢
    have hl2 : Op.bytesLess (strOfNums xs).toList (strOfNums ys).toList = false := by rw [hl]; rfl
    have he2 : ((strOfNums xs).toList == (strOfNums ys).toList) = false := by rw [he]; simpa using hne
    clear hl he hc hne
    go_enter Tryz.func42, Tryz.ntmps42
    go_wp2
    go_ret
    exact ⟨rfl, below_two _ _⟩
theorem refCmpN (h14 : (k == 14) = false) (x y : Int) (b : Bool) (hb : (kneg k || decide (k = 16)) = b) (hx : b = false → x = n1 ∧ y = n2) (hf : b = true → bits .xor .u64 n1 9223372036854775808 = x ∧ bits .xor .u64 n2 9223372036854775808 = y) :
    Calls Tryz.prog 42 #[.int .i64 k, .agg #[.int .u64 n1, .slice a1 l1 c1, .slice p1 m1 q1], .agg #[.int .u64 n2, .slice a2 l2 c2, .slice p2 m2 q2]] w fun e w' => e = .returned (.int .i64 (cmpI x y)) ∧ Below w.heap.size w w' := by
  have HS := hid (fun W => signedR k W)
  rw [hb] at HS
  clear hb
  have hc : (cmpI x y = -1 ∧ x < y) ∨ (cmpI x y = 1 ∧ ¬ x < y ∧ y < x) ∨ (cmpI x y = 0 ∧ ¬ x < y ∧ ¬ y < x) := by unfold cmpI; by_cases h : x < y <;> by_cases h2 : y < x <;> simp [h, h2]
  cases b with
  | false =>
    obtain ⟨rfl, rfl⟩ := hx rfl
    clear hx hf
    rcases hc with ⟨hc, h1⟩ | ⟨hc, h1, h2⟩ | ⟨hc, h1, h2⟩
    all_goals
      rw [hc]
      clear hc
      go_enter Tryz.func42, Tryz.ntmps42
      go_wp2_with (go_at_call 84; refine (HS.out _).mono ?_; rintro e w' ⟨rfl, rfl⟩)
      go_ret
      exact ⟨rfl, below_two _ _⟩
  | true =>
    obtain ⟨hfx, hfy⟩ := hf rfl
    clear hx hf
    rcases hc with ⟨hc, h1⟩ | ⟨hc, h1, h2⟩ | ⟨hc, h1, h2⟩
    all_goals
      rw [hc]
      clear hc
      go_enter Tryz.func42, Tryz.ntmps42
      go_wp2_with (go_at_call 84; refine (HS.out _).mono ?_; rintro e w' ⟨rfl, rfl⟩)
      go_ret
      exact ⟨rfl, below_two _ _⟩
theorem compareR (hk : kkey k = true) (h10 : 0 ≤ n1) (h11 : n1 < 18446744073709551616) (h20 : 0 ≤ n2) (h21 : n2 < 18446744073709551616) (hr1 : Reads w a1 l1 c1 xs) (hr2 : Reads w a2 l2 c2 ys) :
    Calls Tryz.prog 42 #[.int .i64 k, .agg #[.int .u64 n1, .slice a1 l1 c1, .slice p1 m1 q1], .agg #[.int .u64 n2, .slice a2 l2 c2, .slice p2 m2 q2]] w fun e w' => e = .returned (.int .i64 (cmpV k n1 n2 xs ys)) ∧ Below w.heap.size w w' := by
  unfold cmpV
  by_cases h14 : k = 14
  · subst h14
    rw [if_pos rfl]
    exact refCmp14 n1 n2 a1 a2 p1 p2 l1 c1 l2 c2 m1 m2 q1 q2 xs ys w hr1 hr2
  · rw [if_neg h14]
    have h16 : decide (k = 16) = false := by unfold kkey at hk; simp at hk; simp; omega
    cases hn : kneg k with
    | true =>
      rw [if_pos rfl, ← flip_cmp ⟨h10, h11⟩ ⟨h20, h21⟩]
      exact refCmpN k n1 n2 a1 a2 p1 p2 l1 c1 l2 c2 m1 m2 q1 q2 w (by simpa using h14) _ _ true (by rw [hn]; rfl) (fun h => by cases h) (fun _ => ⟨flip_xor n1 h10 h11, flip_xor n2 h20 h21⟩)
    | false =>
      rw [if_neg (by simp)]
      exact refCmpN k n1 n2 a1 a2 p1 p2 l1 c1 l2 c2 m1 m2 q1 q2 w (by simpa using h14) _ _ false (by rw [hn, h16]; rfl) (fun _ => ⟨rfl, rfl⟩) (fun h => by cases h)
end
set_option maxHeartbeats 1000000
def syZ : SY := ⟨[], 0⟩
def syN (n : Int) (s : SY) : Bool := decide (s.num = n)
end Go.Proofs.YtnfdlnelfnigdaaGreatDoor
