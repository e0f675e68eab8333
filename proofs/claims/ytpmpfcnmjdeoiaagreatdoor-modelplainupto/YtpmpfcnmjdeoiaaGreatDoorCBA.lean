/-
  Two keys compared.
  Whether keys rise.
  A field of a type.
  Get, Clear: what the program answers.
  Depth, Get: what the document answers.
  Get: what the document answers.
-/
import Derived.Test.YtpmpfcnmjdeoiaaGreatDoorCQB
import Derived.Lib.Bytealg
import Derived.Lib.BytesEntry
import Derived.Test.YtpmpfcnmjdeoiaaGreatDoorCAJ
namespace Go.Proofs.YtpmpfcnmjdeoiaaGreatDoor
open Go.RowKit
set_option maxRecDepth 1000000
set_option linter.unusedVariables false
set_option linter.unusedSimpArgs false
set_option maxHeartbeats 4000000
structure Reads (w : World) (a : Option Addr) (len cap : Nat) (xs : List Int) : Prop where
  length : xs.length = len
  le : len ≤ cap
  max : cap ≤ 9223372036854775807
  bd : ∀ i, 0 ≤ xs.getD i 0 ∧ xs.getD i 0 ≤ 255
  cells : (len = 0 ∧ (a = none → cap = 0)) ∨ ∃ b off, a = some ⟨b, off, none⟩ ∧ ∀ i, i < len → w.cell? ⟨b, off + i, none⟩ = some (.int .u8 (xs.getD i 0))
theorem bd_mem {xs : List Int} (h : ∀ i, 0 ≤ xs.getD i 0 ∧ xs.getD i 0 ≤ 255) : ∀ x ∈ xs, 0 ≤ x ∧ x ≤ 255 := by
  intro x hx
  obtain ⟨i, hi, rfl⟩ := List.mem_iff_getElem.1 hx
  have := h i
  simpa [hi] using this
theorem bd_get {xs : List Int} (h : ∀ x ∈ xs, 0 ≤ x ∧ x ≤ 255) : ∀ i, 0 ≤ xs.getD i 0 ∧ xs.getD i 0 ≤ 255 := by
  intro i
  by_cases hi : i < xs.length
  · have := h xs[i] (List.getElem_mem hi)
    simpa [hi] using this
  · simp [hi]
theorem reads_kept {w w' : World} {a : Option Addr} {len cap : Nat} {xs : List Int} (h : Reads w a len cap xs) (hb : Below w.heap.size w w') : Reads w' a len cap xs := by
  refine ⟨h.length, h.le, h.max, h.bd, ?_⟩
  rcases h.cells with h0 | ⟨b, off, rfl, hc⟩
  · exact .inl h0
  · exact .inr ⟨b, off, rfl, fun i hi => by rw [hb.cell (p := ⟨b, off + i, none⟩) (World.block_lt_of_cell? _ _ (hc i hi))]; exact hc i hi⟩
theorem ByE.reads {w : World} {Z : Nat → Prop} {a : Option Addr} {n c : Nat} {b : List Int} (h : ByE w Z (.slice a n c) b) : Reads w a b.length c b := by
  obtain ⟨⟨a', c', e, hv⟩, hb, -⟩ := h
  cases e
  refine ⟨rfl, hv.le, hv.max, bd_get hb, ?_⟩
  rcases hv.cells with h0 | ⟨p, off, rfl, -, hc⟩
  · exact .inl h0
  · exact .inr ⟨p, off, rfl, fun i hi => hc i _ (by simp [hi])⟩
def kneg (k : Int) : Bool := decide (k = 2 ∨ k = 3 ∨ k = 6 ∨ k = 7 ∨ k = 10 ∨ k = 11)
def sgn (n : Int) : Int := if n < 9223372036854775808 then n else n - 18446744073709551616
theorem wrap64_sgn (n : Int) (h0 : 0 ≤ n) (h1 : n < 18446744073709551616) : wrap64 n = sgn n := by
  unfold sgn wrap64
  split <;> omega
theorem kneg_no {k : Int} (h : k < 1 ∨ 17 < k) : kneg k = false := by unfold kneg; simp; omega
theorem negW (k : Int) (w : World) : Calls Tryz.prog 210 #[.int .i64 k] w fun e w' => e = .returned (.bool (kneg k)) ∧ w = w' := by
  rcases kinds k with rfl | rfl | rfl | rfl | rfl | rfl | rfl | rfl | rfl | rfl | rfl | rfl | rfl | rfl | rfl | rfl | rfl | h | h
  iterate 17 (next => go_enter Tryz.func210, Tryz.ntmps210; go_wp2; go_ret; exact ⟨rfl, rfl⟩)
  · obtain ⟨e1, e2, e3, e4, e5, e6, e7, e8, e9, e10, e11, e12, e13, e14, e15, e16, e17⟩ := noKind (.inl h)
    have H : Hid (Ending.returned (.bool false) = .returned (.bool (kneg k))) := hid (ret_bool (kneg_no (.inl h)).symm)
    clear h
    go_enter Tryz.func210, Tryz.ntmps210
    go_wp2
    go_ret
    exact ⟨H.out, rfl⟩
  · obtain ⟨e1, e2, e3, e4, e5, e6, e7, e8, e9, e10, e11, e12, e13, e14, e15, e16, e17⟩ := noKind (.inr h)
    have H : Hid (Ending.returned (.bool false) = .returned (.bool (kneg k))) := hid (ret_bool (kneg_no (.inr h)).symm)
    clear h
    go_enter Tryz.func210, Tryz.ntmps210
    go_wp2
    go_ret
    exact ⟨H.out, rfl⟩
def cmpX : List Int → List Int → Int
  | [], [] => 0
  | [], _ :: _ => -1
  | _ :: _, [] => 1
  | a :: l, b :: r => if a < b then -1 else if b < a then 1 else cmpX l r
def cmpI (a b : Int) : Int := if a < b then -1 else if b < a then 1 else 0
def u8s (xs : List Int) : List UInt8 := xs.map fun n => UInt8.ofNat n.toNat
theorem u8_lt {x y : Int} (hx : 0 ≤ x ∧ x ≤ 255) (hy : 0 ≤ y ∧ y ≤ 255) : (UInt8.ofNat x.toNat < UInt8.ofNat y.toNat) ↔ x < y := by
  rw [UInt8.lt_iff_toNat_lt]
  simp only [UInt8.toNat_ofNat']
  omega
theorem cmp_u8 : ∀ (xs ys : List Int), (∀ x ∈ xs, 0 ≤ x ∧ x ≤ 255) → (∀ y ∈ ys, 0 ≤ y ∧ y ≤ 255) → Lib.compareBytes (u8s xs) (u8s ys) = cmpX xs ys
  | [], [], _, _ => rfl
  | [], _ :: _, _, _ => rfl
  | _ :: _, [], _, _ => rfl
  | x :: xs, y :: ys, hx, hy => by
    have h1 := u8_lt (hx x (by simp)) (hy y (by simp))
    have h2 := u8_lt (hy y (by simp)) (hx x (by simp))
    have ih := cmp_u8 xs ys (fun z hz => hx z (by simp [hz])) (fun z hz => hy z (by simp [hz]))
    unfold u8s at ih ⊢
    simp only [List.map_cons, Lib.compareBytes, cmpX, h1, h2, ih]
theorem run_bytesOf {w : World} {a : Option Addr} {len cap : Nat} {xs : List Int} (h : Reads w a len cap xs) : (Extern.Bytes.bytesOf (.slice a len cap)).run Tryz.prog w = .ok ⟨(u8s xs).toArray⟩ w := by
  have hlen := h.length
  rcases h.cells with ⟨h0, _⟩ | ⟨b, off, rfl, hc⟩
  · subst h0
    have hx : xs = [] := List.eq_nil_of_length_eq_zero hlen
    subst hx
    cases a with
    | none => rfl
    | some x => rfl
  · have hl := Lib.run_loadBytesX (P := Tryz.prog) w xs ⟨b, off, none⟩ .empty (fun j x hj => by
      have hjl : j < xs.length := (List.getElem?_eq_some_iff.1 hj).1
      have e : (⟨b, off, none⟩ : Addr).add j = ⟨b, off + j, none⟩ := by unfold Addr.add; split <;> simp_all
      rw [e, hc j (by omega), List.getD_eq_getElem?_getD, hj]
      rfl)
    rw [hlen] at hl
    show Sem.run Tryz.prog (Extern.Bytes.loadBytes ⟨b, off, none⟩ len .empty) w = _
    rw [hl]
    have e : (ByteArray.empty.data ++ (Lib.bytesOf xs).toArray) = (u8s xs).toArray := by simp [ByteArray.empty, ByteArray.emptyWithCapacity, Lib.bytesOf, u8s]; rfl
    rw [e]
theorem bytesCmpW (a1 a2 : Option Addr) (l1 c1 l2 c2 : Nat) (xs ys : List Int) (w : World) (h1 : Reads w a1 l1 c1 xs) (h2 : Reads w a2 l2 c2 ys) :
    Calls Tryz.prog 209 #[.slice a1 l1 c1, .slice a2 l2 c2] w fun e w' => e = .returned (.int .i64 (cmpX xs ys)) ∧ w = w' := by
  have HR : Hid ((Extern.BytealgCompare.compare #[.slice a1 l1 c1, .slice a2 l2 c2]).run Tryz.prog w = .ok (.int .i64 (cmpX xs ys)) w) := by
    show _ = _
    change Sem.run Tryz.prog (do pure (goInt (Extern.BytealgCompare.cmp (← Extern.Bytes.bytesOf (.slice a1 l1 c1)) (← Extern.Bytes.bytesOf (.slice a2 l2 c2))))) w = _
    simp only [Sem.run_bind, run_bytesOf h1, run_bytesOf h2, Sem.run_pure, Result.andThen]
    rw [Lib.cmp_eq]
    show Result.ok (Value.int .i64 (Lib.compareBytes (u8s xs) (u8s ys))) w = _
    rw [cmp_u8 xs ys (bd_mem h1.bd) (bd_mem h2.bd)]
  clear h1 h2
  go_enter Tryz.func209, Tryz.ntmps209
  go_wp2
  rw [run_callFunc_extern Tryz.func226 (by kernel_rfl) (by kernel_rfl) (by kernel_rfl) (e := Extern.BytealgCompare.compare) (by kernel_rfl), HR.out]
  simp only [Result.andThen]
  rw [Oper.upon_value]
  go_wp2
  go_ret
  exact ⟨rfl, rfl⟩
theorem cmpSW (x y : Int) (w : World) : Calls Tryz.prog 211 #[.int .i64 x, .int .i64 y] w fun e w' => e = .returned (.int .i64 (cmpI x y)) ∧ w = w' := by
  have hx : (x != x) = false := by simp
  have hy : (y != y) = false := by simp
  unfold cmpI
  by_cases h1 : x < y
  · rw [if_pos h1]
    go_enter Tryz.func211, Tryz.ntmps211
    go_wp2
    go_ret
    exact ⟨rfl, rfl⟩
  · rw [if_neg h1]
    by_cases h2 : y < x
    · rw [if_pos h2]
      go_enter Tryz.func211, Tryz.ntmps211
      go_wp2
      go_ret
      exact ⟨rfl, rfl⟩
    · rw [if_neg h2]
      go_enter Tryz.func211, Tryz.ntmps211
      go_wp2
      go_ret
      exact ⟨rfl, rfl⟩
theorem cmpUW (x y : Int) (w : World) : Calls Tryz.prog 212 #[.int .u64 x, .int .u64 y] w fun e w' => e = .returned (.int .i64 (cmpI x y)) ∧ w = w' := by
  have hx : (x != x) = false := by simp
  have hy : (y != y) = false := by simp
  unfold cmpI
  by_cases h1 : x < y
  · rw [if_pos h1]
    go_enter Tryz.func212, Tryz.ntmps212
    go_wp2
    go_ret
    exact ⟨rfl, rfl⟩
  · rw [if_neg h1]
    by_cases h2 : y < x
    · rw [if_pos h2]
      go_enter Tryz.func212, Tryz.ntmps212
      go_wp2
      go_ret
      exact ⟨rfl, rfl⟩
    · rw [if_neg h2]
      go_enter Tryz.func212, Tryz.ntmps212
      go_wp2
      go_ret
      exact ⟨rfl, rfl⟩
theorem cell_kept {w w' : World} {b o : Nat} {x : Value} (hb : Below w.heap.size w w') (h : w.cell? ⟨b, o, none⟩ = some x) : w'.cell? ⟨b, o, none⟩ = some x := by
  rw [hb.cell (p := ⟨b, o, none⟩) (World.block_lt_of_cell? _ _ h)]; exact h
theorem vcells {w w2 : World} {x y z : Value} (hb : Below (w.alloc (.cells #[x, y, z] 26)).heap.size (w.alloc (.cells #[x, y, z] 26)) w2) : w2.cell? ⟨w.heap.size, 0, none⟩ = some x ∧ w2.cell? ⟨w.heap.size, 1, none⟩ = some y ∧ w2.cell? ⟨w.heap.size, 2, none⟩ = some z := by
  have hbx : ∀ o, w2.cell? ⟨w.heap.size, o, none⟩ = (w.alloc (.cells #[x, y, z] 26)).cell? ⟨w.heap.size, o, none⟩ := fun o => World.cell?_of_block (hb.block w.heap.size (by simp))
  refine ⟨?_, ?_, ?_⟩
  all_goals (rw [hbx, World.cell?_alloc_at _ _ _ _ rfl]; rfl)
theorem froz {w w2 : World} {x y z : Value} (hb : Below (w.alloc (.cells #[x, y, z] 26)).heap.size (w.alloc (.cells #[x, y, z] 26)) w2) : ∀ o, w2.frozen? ⟨w.heap.size, o, none⟩ = false := fun o => by rw [hb.frozen (p := ⟨w.heap.size, o, none⟩) (by simp), World.frozen?_alloc_at _ _ _ _ rfl]
theorem two_cells {w w2 : World} {x y z x' y' z' : Value} (hb : Below ((w.alloc (.cells #[x, y, z] 26)).alloc (.cells #[x', y', z'] 26)).heap.size ((w.alloc (.cells #[x, y, z] 26)).alloc (.cells #[x', y', z'] 26)) w2) :
    (w2.cell? ⟨w.heap.size, 0, none⟩ = some x ∧ w2.cell? ⟨w.heap.size, 1, none⟩ = some y ∧ w2.cell? ⟨w.heap.size, 2, none⟩ = some z) ∧ (w2.cell? ⟨w.heap.size + 1, 0, none⟩ = some x' ∧ w2.cell? ⟨w.heap.size + 1, 1, none⟩ = some y' ∧ w2.cell? ⟨w.heap.size + 1, 2, none⟩ = some z') ∧ (∀ o, w2.frozen? ⟨w.heap.size, o, none⟩ = false) ∧ (∀ o, w2.frozen? ⟨w.heap.size + 1, o, none⟩ = false) ∧ w.heap.size + 1 < w2.heap.size ∧ Below w.heap.size w w2 := by
  have hs : w.heap.size + 1 < w2.heap.size := by have := hb.size; simp at this; omega
  have h0 : Below (w.alloc (.cells #[x, y, z] 26)).heap.size (w.alloc (.cells #[x, y, z] 26)) w2 := (below_alloc _).trans (hb.mono (by simp))
  have h1 := vcells (w := w.alloc (.cells #[x, y, z] 26)) hb
  have h2 := froz (w := w.alloc (.cells #[x, y, z] 26)) hb
  simp only [World.size_alloc] at h1 h2
  exact ⟨vcells h0, h1, froz h0, h2, hs, below_trans (below_alloc _) h0⟩
theorem below_two {w : World} (o o' : Obj) : Below w.heap.size w ((w.alloc o).alloc o') := below_trans (below_alloc _) (below_alloc _)
def cmpV (k n1 n2 : Int) (xs ys : List Int) : Int := if k = 14 then cmpX xs ys else if kneg k = true then cmpI (sgn n1) (sgn n2) else cmpI n1 n2
def cmpE (k n1 n2 : Int) (xs ys : List Int) (m1 m2 : Nat) : Int × Int := if kkey k = false then (0, 18) else if vfit k n1 xs.length m1 = false ∨ vfit k n2 ys.length m2 = false then (0, 7) else (cmpV k n1 n2 xs ys, 0)
section
variable (k n1 n2 : Int) (a1 a2 p1 p2 : Option Addr) (l1 c1 l2 c2 m1 m2 q1 q2 : Nat) (xs ys : List Int) (w : World)
theorem compareW (h10 : 0 ≤ n1) (h11 : n1 < 18446744073709551616) (h20 : 0 ≤ n2) (h21 : n2 < 18446744073709551616) (hr1 : Reads w a1 l1 c1 xs) (hr2 : Reads w a2 l2 c2 ys) (hm1 : m1 ≤ 9223372036854775807) (hm2 : m2 ≤ 9223372036854775807) :
    Calls Tryz.prog 187 #[.int .i64 k, .agg #[.int .u64 n1, .slice a1 l1 c1, .slice p1 m1 q1], .agg #[.int .u64 n2, .slice a2 l2 c2, .slice p2 m2 q2]] w fun e w' => e = .returned (.tuple #[.int .i64 (cmpE k n1 n2 xs ys m1 m2).1, .int .i64 (cmpE k n1 n2 xs ys m1 m2).2]) ∧ Below w.heap.size w w' := by
  have hl1 := hr1.length
  have hl2 := hr2.length
  have HR1 := hid hr1
  have HR2 := hid hr2
  have HK := hid (fun W => isKeyW k W)
  have HN := hid (fun W => negW k W)
  have H1 := hid (fun W => fitsW k n1 a1 p1 l1 c1 m1 q1 W h10 h11 (by have := hr1.le; have := hr1.max; omega) hm1)
  have H2 := hid (fun W => fitsW k n2 a2 p2 l2 c2 m2 q2 W h20 h21 (by have := hr2.le; have := hr2.max; omega) hm2)
  have HB : Hid (Below w.heap.size w w) := hid (Below.refl _ _)
  clear hr1 hr2
  unfold cmpE
  rw [hl1, hl2]
  clear hl1 hl2
  cases hk : kkey k with
  | false =>
    rw [if_pos rfl]
    rw [hk] at HK
    clear hk
    go_enter Tryz.func187, Tryz.ntmps187
    go_wp2_with (first | (go_at_call 208; refine (HK.out _).mono ?_; rintro e w' ⟨rfl, rfl⟩))
    go_ret2
    exact ⟨rfl, below_two _ _⟩
  | true =>
    rw [hk] at HK
    rw [if_neg (by simp)]
    cases hv1 : vfit k n1 l1 m1 with
    | false =>
      rw [if_pos (.inl rfl)]
      rw [hv1] at H1
      clear hk hv1
      go_enter Tryz.func187, Tryz.ntmps187
      go_wp2_with (first | (go_at_call 208; refine (HK.out _).mono ?_; rintro e w' ⟨rfl, rfl⟩) | (go_at_call 184; refine (H1.out _).mono ?_; rintro e w2 ⟨rfl, hb⟩; obtain ⟨⟨d0, d1, d2⟩, ⟨f0, f1, f2⟩, _, _, _, hbel⟩ := two_cells hb; replace HB := hid hbel; clear hb hbel))
      go_ret2
      exact ⟨rfl, HB.out⟩
    | true =>
      rw [hv1] at H1
      cases hv2 : vfit k n2 l2 m2 with
      | false =>
        rw [if_pos (.inr rfl)]
        rw [hv2] at H2
        clear hk hv1 hv2
        go_enter Tryz.func187, Tryz.ntmps187
        go_wp2_with fail
        refine (HK.out _).mono ?_
        rintro e w' ⟨rfl, rfl⟩
        go_wp2_with fail
        refine (H1.out _).mono ?_
        rintro e w2 ⟨rfl, hb⟩
        obtain ⟨⟨d0, d1, d2⟩, ⟨f0, f1, f2⟩, _, _, _, hbel⟩ := two_cells hb
        replace HB := hid hbel
        clear hb hbel
        go_wp2_with fail
        refine (H2.out _).mono ?_
        rintro e w3 ⟨rfl, hb⟩
        replace d0 := cell_kept hb d0
        replace d1 := cell_kept hb d1
        replace f0 := cell_kept hb f0
        replace f1 := cell_kept hb f1
        replace HB := hid (below_trans HB.out hb)
        clear hb d2 f2
        go_wp2
        go_ret2
        exact ⟨rfl, HB.out⟩
      | true =>
        rw [if_neg (by simp)]
        rw [hv2] at H2
        clear hk hv1 hv2
        unfold cmpV
        by_cases h14 : k = 14
        · subst h14
          rw [if_pos rfl]
          go_enter Tryz.func187, Tryz.ntmps187
          go_wp2_with fail
          refine (HK.out _).mono ?_
          rintro e w' ⟨rfl, rfl⟩
          go_wp2_with fail
          refine (H1.out _).mono ?_
          rintro e w2 ⟨rfl, hb⟩
          obtain ⟨⟨d0, d1, d2⟩, ⟨f0, f1, f2⟩, _, _, _, hbel⟩ := two_cells hb
          replace HB := hid hbel
          clear hb hbel
          go_wp2_with fail
          refine (H2.out _).mono ?_
          rintro e w3 ⟨rfl, hb⟩
          replace d0 := cell_kept hb d0
          replace d1 := cell_kept hb d1
          replace f0 := cell_kept hb f0
          replace f1 := cell_kept hb f1
          replace HB := hid (below_trans HB.out hb)
          clear hb d2 f2
          go_wp2_with (go_at_call 209; refine (bytesCmpW a1 a2 l1 c1 l2 c2 xs ys _ (reads_kept HR1.out HB.out) (reads_kept HR2.out HB.out)).mono ?_; rintro e w' ⟨rfl, rfl⟩)
          go_ret2
          exact ⟨rfl, HB.out⟩
        · rw [if_neg h14]
          have e14 : (k == 14) = false := by simpa using h14
          have hs1 := wrap64_sgn n1 h10 h11
          have hs2 := wrap64_sgn n2 h20 h21
          cases hn : kneg k with
          | true =>
            rw [if_pos rfl]
            rw [hn] at HN
            clear hn h14
            go_enter Tryz.func187, Tryz.ntmps187
            go_wp2_with fail
            refine (HK.out _).mono ?_
            rintro e w' ⟨rfl, rfl⟩
            go_wp2_with fail
            refine (H1.out _).mono ?_
            rintro e w2 ⟨rfl, hb⟩
            obtain ⟨⟨d0, d1, d2⟩, ⟨f0, f1, f2⟩, _, _, _, hbel⟩ := two_cells hb
            replace HB := hid hbel
            clear hb hbel
            go_wp2_with fail
            refine (H2.out _).mono ?_
            rintro e w3 ⟨rfl, hb⟩
            replace d0 := cell_kept hb d0
            replace d1 := cell_kept hb d1
            replace f0 := cell_kept hb f0
            replace f1 := cell_kept hb f1
            replace HB := hid (below_trans HB.out hb)
            clear hb d2 f2
            go_wp2_with (first | (go_at_call 210; refine (HN.out _).mono ?_; rintro e w' ⟨rfl, rfl⟩) | (go_at_call 211; refine (cmpSW _ _ _).mono ?_; rintro e w' ⟨rfl, rfl⟩))
            go_ret2
            exact ⟨rfl, HB.out⟩
          | false =>
            rw [if_neg (by simp)]
            rw [hn] at HN
            clear hn h14
            go_enter Tryz.func187, Tryz.ntmps187
            go_wp2_with fail
            refine (HK.out _).mono ?_
            rintro e w' ⟨rfl, rfl⟩
            go_wp2_with fail
            refine (H1.out _).mono ?_
            rintro e w2 ⟨rfl, hb⟩
            obtain ⟨⟨d0, d1, d2⟩, ⟨f0, f1, f2⟩, _, _, _, hbel⟩ := two_cells hb
            replace HB := hid hbel
            clear hb hbel
            go_wp2_with fail
            refine (H2.out _).mono ?_
            rintro e w3 ⟨rfl, hb⟩
            replace d0 := cell_kept hb d0
            replace d1 := cell_kept hb d1
            replace f0 := cell_kept hb f0
            replace f1 := cell_kept hb f1
            replace HB := hid (below_trans HB.out hb)
            clear hb d2 f2
            go_wp2_with (first | (go_at_call 210; refine (HN.out _).mono ?_; rintro e w' ⟨rfl, rfl⟩) | (go_at_call 212; refine (cmpUW _ _ _).mono ?_; rintro e w' ⟨rfl, rfl⟩))
            go_ret2
            exact ⟨rfl, HB.out⟩
end
set_option maxHeartbeats 1000000
/-- The first key before the second. -/
def keyLt (k : Int) (a b : CV CM) : Bool := decide ((cmpE k a.n b.n a.b b.b a.ms.length b.ms.length).1 < 0)
def keyS (k : Int) (l : List (CV CM)) (j : Nat) : Bool := (List.range' j (l.length - 1 - j)).all fun i => match l[i]?, l[i + 1]? with | some a, some b => keyLt k a b | _, _ => true
def keysB (k : Int) (l : List (CV CM)) : Bool := keyS k l 0
theorem keyS_step (k : Int) (l : List (CV CM)) (j : Nat) (h : j + 1 < l.length) : keyS k l j = (keyLt k l[j] l[j + 1] && keyS k l (j + 1)) := by
  unfold keyS
  rw [show l.length - 1 - j = (l.length - 1 - (j + 1)) + 1 by omega, List.range'_succ, List.all_cons]
  simp [h, show j < l.length by omega]
theorem keyS_end (k : Int) (l : List (CV CM)) (j : Nat) (h : l.length ≤ j + 1) : keyS k l j = true := by
  unfold keyS
  rw [show l.length - 1 - j = 0 by omega]
  rfl
theorem compareM {w : World} {Z : Nat → Prop} {d : Nat} (k : Int) {a b : CV CM} {ba bc ma mc : _} {ba' bc' ma' mc' : _} (h1 : ValE w Z (MsgE w Z d) [.int .u64 a.n, .slice ba a.b.length bc, .slice ma a.ms.length mc] a) (h2 : ValE w Z (MsgE w Z d) [.int .u64 b.n, .slice ba' b.b.length bc', .slice ma' b.ms.length mc'] b) : Calls Tryz.prog 187 #[.int .i64 k, .agg #[.int .u64 a.n, .slice ba a.b.length bc, .slice ma a.ms.length mc], .agg #[.int .u64 b.n, .slice ba' b.b.length bc', .slice ma' b.ms.length mc']] w fun e w' => (∃ r er, e = .returned (.tuple #[.int .i64 r, .int .i64 er]) ∧ Hid (keyLt k a b = decide (r < 0))) ∧ Below w.heap.size w w' := by
  obtain ⟨_, _, _, _, e1, g1, -, l1, l2, u1⟩ := val_open h1
  obtain ⟨_, _, _, _, e2, g2, -, l3, l4, u2⟩ := val_open h2
  simp only [List.cons.injEq, Value.slice.injEq, true_and, and_true] at e1 e2
  obtain ⟨⟨rfl, rfl⟩, rfl, rfl⟩ := e1
  obtain ⟨⟨rfl, rfl⟩, rfl, rfl⟩ := e2
  exact (compareW k a.n b.n _ _ _ _ _ _ _ _ _ _ _ _ a.b b.b w u1.1 u1.2 u2.1 u2.2 g1.reads g2.reads (by omega) (by omega)).mono fun e w' h => ⟨⟨_, _, h.1, hid rfl⟩, h.2⟩
theorem keysRiseM (w : World) (Z : Nat → Prop) (d : Nat) (k : Int) (xs : List (CV CM)) (a : Option Addr) (c : Nat) (h : VlsR w Z d (.slice a xs.length c) xs) : Calls Tryz.prog 158 #[.int .i64 k, .slice a xs.length c] w fun e w' => e = .returned (.bool (keysB k xs)) ∧ Below w.heap.size w w' := by
  obtain ⟨_, _, e1, l1⟩ := RowM.sl h
  clear e1
  have m1 : (xs.length : Int) ≤ 9223372036854775807 := by omega
  have H1 := hid h
  clear h
  go_enter Tryz.func158, Tryz.ntmps158
  go_wp2
  go_loopw [5] (fun s5 wr => ∃ j : Nat, s5 = .int .i64 ((j : Int) + 1) ∧ (j ≤ xs.length) ∧ Hid (keysB k xs = keyS k xs j) ∧ Hid (Below w.heap.size w wr)) (fun s5 wr => xs.length + 1 - numAt wr s5)
  case atStart => exact ⟨0, rfl, by omega, hid rfl, hid (Below.refl _ _)⟩
  case round =>
    obtain ⟨j, rfl, hj, HA, hb⟩ := hrel
    by_cases hlt : j + 1 < xs.length
    · have k2 : (j : Int) + 1 < (xs.length : Int) := by omega
      have k3 : (j : Int) + 1 - 1 = (j : Int) := by omega
      have k4 : (j : Int) < (xs.length : Int) := by omega
      obtain ⟨b1, o1, ba1, bc1, ma1, mc1, rfl, -, hb1, c0, c1, c2, he1⟩ := vls_at (H1.out.kept hb.out) (show j < xs.length by omega)
      obtain ⟨b2, o2, ba2, bc2, ma2, mc2, e2, -, -, d0, d1, d2, he2⟩ := vls_at (H1.out.kept hb.out) hlt
      cases e2
      have HST := hid (keyS_step k xs j hlt)
      have HE1 := hid he1
      have HE2 := hid he2
      clear he1 he2
      have e5 : ((j : Int) + 1).toNat = j + 1 := by omega
      have kw : IntKind.i64.wrap ((j : Int) + 1 - 1) = (j : Int) := by rw [k3, IntKind.wrap_i64]; omega
      have kw2 : IntKind.i64.wrap (j : Int) = (j : Int) := by rw [IntKind.wrap_i64]; omega
      have kw3 : wrap64 (j : Int) = (j : Int) := by unfold wrap64; omega
      have kw4 : wrap64 ((j : Int) + 1 - 1) = (j : Int) := by unfold wrap64; omega
      have kp : (0 : Int) ≤ (j : Int) := by omega
      have kp1 : (0 : Int) ≤ (j : Int) + 1 := by omega
      generalize xs[j] = x at *
      generalize xs[j + 1] = y at *
      have HC := hid fun W (hW : Below wr.heap.size wr W) => compareM k (HE1.out.kept hW) (HE2.out.kept hW)
      clear HE1 HE2
      go_wp2
      go_region_held3 (fun W => W.cell? ⟨b1, o1 + j * 3, none⟩ = some (.int .u64 x.n) ∧ W.cell? ⟨b1, o1 + j * 3 + 1, none⟩ = some (.slice ba1 x.b.length bc1) ∧ W.cell? ⟨b1, o1 + j * 3 + 2, none⟩ = some (.slice ma1 x.ms.length mc1) ∧ W.cell? ⟨b1, o1 + (j + 1) * 3, none⟩ = some (.int .u64 y.n) ∧ W.cell? ⟨b1, o1 + (j + 1) * 3 + 1, none⟩ = some (.slice ba2 y.b.length bc2) ∧ W.cell? ⟨b1, o1 + (j + 1) * 3 + 2, none⟩ = some (.slice ma2 y.ms.length mc2)) (exact ⟨c0, c1, c2, d0, d1, d2⟩) (first | (go_at_call 187; refine (HC.out _ (by exact blBy)).mono ?_; rintro e w1 ⟨⟨r, er, rfl, hkl⟩, hb1⟩; have HB1 : Hid (Below w.heap.size w w1) := hid (bl_then (by have := hb.out; exact blBy) hb1); replace c0 := cell_below c0 (bl_then (by exact blBy) hb1); replace c1 := cell_below c1 (bl_then (by exact blBy) hb1); replace c2 := cell_below c2 (bl_then (by exact blBy) hb1); replace d0 := cell_below d0 (bl_then (by exact blBy) hb1); replace d1 := cell_below d1 (bl_then (by exact blBy) hb1); replace d2 := cell_below d2 (bl_then (by exact blBy) hb1); clear hb1))
      by_cases hq : r < 0
      · have hq2 : ¬ (0 : Int) ≤ r := by omega
        have HQ : Hid (keysB k xs = keyS k xs (j + 1)) := hid (by rw [HA.out, HST.out, hkl.out]; simp [hq])
        go_wp2
        all_goals exact ⟨⟨j + 1, by simp, by omega, HQ, hid (by have := HB1.out; exact blBy)⟩, by simp [numAt]; omega⟩
      · have hq2 : (0 : Int) ≤ r := by omega
        have HQ : Hid (keysB k xs = false) := hid (by rw [HA.out, HST.out, hkl.out]; simp [hq])
        go_wp2
        go_ret
        exact ⟨ret_bool HQ.out.symm, by have := HB1.out; exact blBy⟩
    · have k2 : ¬ (j : Int) + 1 < (xs.length : Int) := by omega
      have HX : Hid (keysB k xs = true) := hid (by rw [HA.out, keyS_end k xs j (by omega)])
      go_wp2
      go_ret
      exact ⟨ret_bool HX.out.symm, hb.out⟩
/-- The cells of a field's type. -/
def cOW (o : FT) : Array Value := #[.string (strOfNums o.name), .int .i64 o.num, .int .i64 o.kind, .int .i64 o.ref, .int .i64 o.lab, .int .i64 o.one, .int .i64 o.key]
theorem valFn (w : World) (l : List TV) (ta : Option Addr) (tc : Nat) (h : TbR w (.slice ta l.length tc) l) (o : FT) (hr : 0 ≤ o.ref ∧ o.ref.toNat < l.length) (Z : Nat → Prop) (d : Nat) (cs : List Value) (v : CV CM) (hv : ValE w Z (MsgE w Z d) cs v) (p q : Nat) (hp : Blk w p 73 #[.slice ta l.length tc]) (hq : Blk w q 82 (cOW o)) : Calls Tryz.prog 152 #[.agg cs.toArray, .pointer (some ⟨p, 0, none⟩), .pointer (some ⟨q, 0, none⟩)] w fun e w' => e = .returned (.bool (valB l o v)) ∧ Below w.heap.size w w' := by
  have HV := hid fun W (hW : Below w.heap.size w W) => valIsTypedM W l ta tc (h.kept hW) o hr Z d cs v (hv.kept hW)
  obtain ⟨ba, bc, ma, mc, rfl, -⟩ := val_open hv
  clear h hr hv
  unfold cOW at hq
  have x1 := hp.cellF
  have z1 := hp.lt
  have x2 := hq.cellF
  have z2 := hq.lt
  go_enter Tryz.func152, Tryz.ntmps152
  go_wp2_with fail
  refine (HV.out _ (by exact blBy)).mono ?_
  rintro e w1 ⟨rfl, hb1⟩
  have hbz : Hid (Below w.heap.size w w1) := hid (bl_then (by exact blBy) hb1)
  clear hb1
  go_wp2
  go_ret
  exact ⟨rfl, hbz.out⟩
theorem keyFn (w : World) (o : FT) (Z : Nat → Prop) (d : Nat) (cs : List Value) (v : CV CM) (hv : ValE w Z (MsgE w Z d) cs v) (q : Nat) (hq : Blk w q 82 (cOW o)) : Calls Tryz.prog 154 #[.agg cs.toArray, .pointer (some ⟨q, 0, none⟩)] w fun e w' => e = .returned (.bool (scalarB o.key v)) ∧ Below w.heap.size w w' := by
  have HV := hid fun W (hW : Below w.heap.size w W) => isScalarM W Z d o.key cs v (hv.kept hW)
  obtain ⟨ba, bc, ma, mc, rfl, -⟩ := val_open hv
  clear hv
  unfold cOW at hq
  have x2 := hq.cellF
  have z2 := hq.lt
  go_enter Tryz.func154, Tryz.ntmps154
  go_wp2_with fail
  refine (HV.out _ (by exact blBy)).mono ?_
  rintro e w1 ⟨rfl, hb1⟩
  have hbz : Hid (Below w.heap.size w w1) := hid (bl_then (by exact blBy) hb1)
  clear hb1
  go_wp2
  go_ret
  exact ⟨rfl, hbz.out⟩
theorem cfVal (args : Array Value) (W : World) : (callFunc 152 args).run Tryz.prog W = .ok (.enter 152 args) W := cf_enter Tryz.func152 (by kernel_rfl) (by kernel_rfl) args W
theorem cfKey (args : Array Value) (W : World) : (callFunc 154 args).run Tryz.prog W = .ok (.enter 154 args) W := cf_enter Tryz.func154 (by kernel_rfl) (by kernel_rfl) args W
theorem idxFld (w : World) (Z : Nat → Prop) (d : Nat) (xs : List (CF CM)) (a : Option Addr) (c : Nat) (h : FlsR w Z d (.slice a xs.length c) xs) (fn : FuncId) (caps : Array Value) (hcf : ∀ (args : Array Value) (W : World), (callFunc fn args).run Tryz.prog W = .ok (.enter fn args) W) (P : CF CM → Bool)
    (hf : ∀ (W : World), Below w.heap.size w W → ∀ (cs : List Value) (x : CF CM), x ∈ xs → FmF d W Z cs x → Calls Tryz.prog fn (#[.agg cs.toArray] ++ caps) W fun e w' => e = .returned (.bool (P x)) ∧ Below W.heap.size W w') : Calls Tryz.prog 53 #[.slice a xs.length c, .func (.func fn) #[] caps] w fun e w' => e = .returned (.int .i64 (fnd P xs 0)) ∧ Below w.heap.size w w' := by
  obtain ⟨_, _, e1, l1⟩ := RowM.sl h
  clear e1
  have m1 : (xs.length : Int) ≤ 9223372036854775807 := by omega
  have H1 := hid h
  have HF := hid hf
  clear h hf
  go_enter Tryz.func53, Tryz.ntmps53
  go_wp2
  go_loopw [8] (fun r wr => ∃ j : Nat, r = .int .i64 j ∧ j ≤ xs.length ∧ Hid (fnd P xs 0 = fnd P (xs.drop j) j) ∧ Hid (Below w.heap.size w wr)) (fun r wr => xs.length - numAt wr r)
  case atStart => exact ⟨0, rfl, by omega, hid rfl, hid (Below.refl _ _)⟩
  case round =>
    obtain ⟨j, rfl, hj, hf, hb⟩ := hrel
    by_cases hlt : j < xs.length
    · have h2 : (j : Int) < (xs.length : Int) := by omega
      obtain ⟨b1, o1, ka1, kc1, va1, vc1, rfl, -, hb1, c0, c1, c2, he⟩ := fls_at (H1.out.kept hb.out) hlt
      have HE := hid he
      have HST := hid (fnd_at (p := P) hlt)
      have HME := hid (List.getElem_mem hlt)
      clear he
      generalize xs[j] = x at *
      go_wp2_with fail
      refine (HF.out _ (by have := hb.out; exact blBy) [.int .i64 x.num, .slice ka1 x.ks.length kc1, .slice va1 x.vs.length vc1] x HME.out (Fam.go (famF d) HE.out (keepT (by exact blBy)) (fun _ _ => trivial) (fun _ h => h))).mono ?_
      rintro e w1 ⟨rfl, hb1⟩
      have HB1 : Hid (Below w.heap.size w w1) := hid (bl_then (by have := hb.out; exact blBy) hb1)
      clear hb1
      cases hq : P x with
      | true =>
        go_wp2
        go_ret
        exact ⟨ret_int (by rw [hf.out, HST.out, hq]; simp), HB1.out⟩
      | false =>
        go_wp2
        exact ⟨⟨j + 1, by simp, by omega, hid (by rw [hf.out, HST.out, hq]; simp), HB1⟩, by simp [numAt]; omega⟩
    · have h2 : ¬ (j : Int) < (xs.length : Int) := by omega
      have HE : Hid (fnd P xs 0 = -1) := hid (by rw [hf.out, List.drop_of_length_le (by omega)]; rfl)
      go_wp2
      go_ret
      exact ⟨ret_int (by rw [HE.out]), hb.out⟩
def isN (n : Int) (x : CF CM) : Bool := decide (x.num = n)
def notN (n : Int) (x : CF CM) : Bool := decide (¬ x.num = n)
theorem getFn (w : World) (Z : Nat → Prop) (d : Nat) (cs : List Value) (x : CF CM) (h : FmF d w Z cs x) (p : Nat) (n : Int) (hp : Blk w p 3 #[.int .i64 n]) : Calls Tryz.prog 54 #[.agg cs.toArray, .pointer (some ⟨p, 0, none⟩)] w fun e w' => e = .returned (.bool (isN n x)) ∧ Below w.heap.size w w' := by
  obtain ⟨ka, kc, va, vc, rfl, -⟩ := fld_open h
  have xp := hp.cellF
  have zp := hp.lt
  clear h hp
  go_enter Tryz.func54, Tryz.ntmps54
  go_wp2
  go_ret
  exact ⟨ret_bool (by unfold isN; by_cases q : x.num = n <;> simp [q]), by exact blBy⟩
theorem clearFn (w : World) (Z : Nat → Prop) (d : Nat) (cs : List Value) (x : CF CM) (h : FmF d w Z cs x) (p : Nat) (n : Int) (hp : Blk w p 3 #[.int .i64 n]) : Calls Tryz.prog 65 #[.agg cs.toArray, .pointer (some ⟨p, 0, none⟩)] w fun e w' => e = .returned (.bool (notN n x)) ∧ Below w.heap.size w w' := by
  obtain ⟨ka, kc, va, vc, rfl, -⟩ := fld_open h
  have xp := hp.cellF
  have zp := hp.lt
  clear h hp
  go_enter Tryz.func65, Tryz.ntmps65
  go_wp2
  go_ret
  exact ⟨ret_bool (by unfold notN; by_cases q : x.num = n <;> simp [q]), by exact blBy⟩
theorem cfGet (args : Array Value) (W : World) : (callFunc 54 args).run Tryz.prog W = .ok (.enter 54 args) W := cf_enter Tryz.func54 (by kernel_rfl) (by kernel_rfl) args W
theorem cfClear (args : Array Value) (W : World) : (callFunc 65 args).run Tryz.prog W = .ok (.enter 65 args) W := cf_enter Tryz.func65 (by kernel_rfl) (by kernel_rfl) args W
theorem RowM.sub {α : Type} {w : World} {Z : Nat → Prop} {k : Nat} {E : List Value → α → Prop} {b o n c : Nat} {xs : List α} (h : RowM w Z k E (.slice (some ⟨b, o, none⟩) n c) xs) (hk : 0 < k) {i : Nat} (hi : i < xs.length) {c' : Nat} (h1 : 1 ≤ c') (h2 : c' ≤ 9223372036854775807) : RowM w Z k E (.slice (some ⟨b, o + i * k, none⟩) 1 c') [xs[i]] := by
  obtain ⟨b', o', cs, e, hz, -, hl, he, hc⟩ := RowM.at h hk hi
  cases e
  refine ⟨[⟨cs, hl⟩], ⟨_, _, rfl, by simp [hl], h1, h2, .inr ⟨b, o + i * k, rfl, hz, fun j u hu => hc j u (by simpa using hu)⟩⟩, rfl, by simp, fun j t x ht hx => ?_⟩
  have e0 : j = 0 := by
    have := (List.getElem?_eq_some_iff.1 ht).1
    simpa using this
  subst e0
  simp at ht hx
  subst ht hx
  exact he
theorem RowM.cap {α : Type} {w : World} {Z : Nat → Prop} {k : Nat} {E : List Value → α → Prop} {a : Option Addr} {n c : Nat} {xs : List α} (h : RowM w Z k E (.slice a n c) xs) : xs.length ≤ c ∧ c ≤ 9223372036854775807 := by
  obtain ⟨ts, ⟨a', c', e, hv⟩, _⟩ := h
  cases e
  exact ⟨hv.le, hv.max⟩
theorem fieldRun (s u : Value) (W : World) (hs : s.cells = #[s]) : (Instr.field 35 (.agg #[s, u]) 0).run Tryz.prog W = .ok s W := by
  simp [Instr.field, part, asAgg, go_sem]
def cfZ : CF CM := ⟨0, [], []⟩
/-- A field, and whether it is there. -/
def GetR (d : Nat) (w : World) (o : Option (CF CM)) (e : Ending) (w' : World) : Prop := ∃ cs : List Value, e = .returned (.tuple #[.agg cs.toArray, .bool o.isSome]) ∧ FmF d w' (w.heap.size ≤ ·) cs (o.getD cfZ) ∧ Below w.heap.size w w'
theorem getT (d : Nat) (w : World) (Z : Nat → Prop) (cs : List Value) (m : CM) (h : MsgE w Z (d + 1) cs m) (n : Int) : Calls Tryz.prog 24 #[.agg cs.toArray, .int .i64 n] w (GetR d w (m.fs.find? (isN n))) := by
  obtain ⟨ka, kc, va, vc, rfl, g, q, l1, -⟩ := msg_open h
  have HI := hid fun W (hW : Below w.heap.size w W) (p : Nat) (hp : Blk W p 3 #[.int .i64 n]) => idxFld W Z d m.fs ka kc (g.kept hW) 54 #[.pointer (some ⟨p, 0, none⟩)] cfGet (isN n) (fun W' hW' cs x _ hx => getFn W' Z d cs x hx p n (hp.kept hW'))
  have G := hid g
  have LC := RowM.cap g
  have LC1 : (m.fs.length : Int) ≤ (kc : Int) := by omega
  have LC2 : (kc : Int) ≤ 9223372036854775807 := by omega
  clear h g q
  go_enter Tryz.func24, Tryz.ntmps24
  go_wp2_with fail
  refine (HI.out _ (by exact blBy) _ ((Blk.newAt (by simp)).kept (below_alloc _))).mono ?_
  rintro e w1 ⟨rfl, hbx⟩
  have Bx : Blk w1 w.heap.size 35 #[.slice ka m.fs.length kc, .slice va m.us.length vc] := (((Blk.new _ _ _).kept (below_alloc _)).kept (below_alloc _)).kept hbx
  have Br : Blk w1 (w.heap.size + 1 + 1) 29 #[.int .i64 0, .slice none 0 0, .slice none 0 0] := (Blk.newAt (by simp)).kept hbx
  have hbz : Hid (Below w.heap.size w w1) := hid (bl_then (by exact blBy) hbx)
  clear hbx HI
  have xx := Bx.cellF
  have zx := Bx.lt
  have xr := Br.cellF
  have yr := Br.frz
  have zr := Br.lt
  rcases fnd_find (isN n) m.fs 0 with ⟨h1, h2⟩ | ⟨j, hj, h1, h2⟩
  · have H2 := hid h2
    generalize fnd (isN n) m.fs 0 = i at *
    have k0 : (i < 0) = True := eq_true h1
    clear h1 h2
    go_wp2
    exact bodyPost_ret (v := .tuple #[.agg #[.int .i64 0, .slice none 0 0, .slice none 0 0], .bool false]) (by simp [results, Tryz.results24, go_sem, xr, zr, yr]) rfl ⟨[.int .i64 0, .slice none 0 0, .slice none 0 0], by rw [H2.out]; rfl, by rw [H2.out]; exact ⟨_, _, rfl, RowM.nil _ _ _ _, RowM.nil _ _ _ _, by constructor <;> decide⟩, by have := hbz.out; exact blBy⟩
  · have H2 := hid h2
    rw [h1, Nat.zero_add]
    have k0 : ((j : Int) < 0) = False := eq_false (by omega)
    have k1 : (j : Int) < (m.fs.length : Int) := by omega
    have k2 : (j : Int) + 1 ≤ (m.fs.length : Int) := by omega
    clear h1 h2
    obtain ⟨b1, o1, _, _, _, _, rfl, -⟩ := fls_at G.out hj
    have HSB : Hid (∀ W, Below w.heap.size w W → MsgE W Z (d + 1) [.slice (some ⟨b1, o1 + j * 3, none⟩) 1 (kc - j), .slice none 0 0] (CM.mk [m.fs[j]] [])) := hid fun W hW => ⟨_, _, rfl, RowM.sub (G.out.kept hW) (by decide) hj (by omega) (by omega), RowM.nil _ _ _ _⟩
    generalize m.fs[j] = x at *
    go_wp2_with fail
    refine (copyT (d + 1) _ Z [.slice (some ⟨b1, o1 + j * 3, none⟩) 1 (kc - j), .slice none 0 0] (CM.mk [x] []) (HSB.out _ hbz.out)).mono ?_
    rintro e w2 ⟨ds, rfl, hn, hbx⟩
    obtain ⟨fa, fc, ua, uc, rfl, g1, -⟩ := msg_open hn
    obtain ⟨b2, o2, pa, pc, qa, qc, hfa, hz2, hb2, c0, c1, c2, he⟩ := fls_at g1 (i := 0) (by simp [CM.fs])
    subst hfa
    replace Br := Br.kept hbx
    have hne : b2 ≠ w.heap.size + 1 + 1 := by
      have hz3 : w1.heap.size ≤ b2 := hz2
      omega
    have d0 : w2.cell? ⟨b2, o2, none⟩ = some (.int .i64 x.num) := by simpa [CM.fs] using c0
    have d1 : w2.cell? ⟨b2, o2 + 1, none⟩ = some (.slice pa x.ks.length pc) := by simpa [CM.fs] using c1
    have d2 : w2.cell? ⟨b2, o2 + 2, none⟩ = some (.slice qa x.vs.length qc) := by simpa [CM.fs] using c2
    have HN : Hid (FmF d w2 (w.heap.size + 3 ≤ ·) [.int .i64 x.num, .slice pa x.ks.length pc, .slice qa x.vs.length qc] x) := hid ((famF d).go he (Keep.refl (fun _ => True) w2) (fun _ _ => trivial) (fun k hk => by have hk2 : w1.heap.size ≤ k := hk; omega))
    have hby : Hid (Below w.heap.size w w2) := hid (bl_then hbz.out hbx)
    clear c0 c1 c2 he hn g1 hz2 xx zx xr yr zr hbx hbz HSB
    have xr := Br.cellF
    have yr := Br.frz
    have zr := Br.lt
    have ef : (CM.mk [x] []).fs.length = 1 := rfl
    have eu : (CM.mk [x] []).us.length = 0 := rfl
    rw [ef, eu]
    have HFD := fieldRun (.slice (some ⟨b2, o2, none⟩) 1 fc) (.slice ua 0 uc) w2 rfl
    go_wp2
    exact bodyPost_ret (v := .tuple #[.agg #[.int .i64 x.num, .slice pa x.ks.length pc, .slice qa x.vs.length qc], .bool true]) (by simp [results, Tryz.results24, go_sem, xr, zr, yr]) rfl ⟨[.int .i64 x.num, .slice pa x.ks.length pc, .slice qa x.vs.length qc], by rw [H2.out]; rfl, by rw [H2.out]; exact (famF d).go HN.out (f := (w.heap.size + 3 ≤ ·)) (by with_reducible repeat (first | exact Keep.refl _ _ | refine kpS ?_ (by first | (simp; done) | (simp; omega) | omega) | refine kpA ?_ _ | refine kpD ?_ | refine kpN ?_ _)) (fun _ h => h) (fun k hk => by omega), by have := hby.out; exact blBy⟩
theorem clearT (d : Nat) (w : World) (Z : Nat → Prop) (cs : List Value) (m : CM) (h : MsgE w Z (d + 1) cs m) (n : Int) : Calls Tryz.prog 31 #[.agg cs.toArray, .int .i64 n] w (NewE (FmM (d + 1)) w (CM.mk (m.fs.filter (notN n)) m.us)) := by
  obtain ⟨ka, kc, va, vc, rfl, g, q, l1, -⟩ := msg_open h
  have HI : Hid (∀ W, Below w.heap.size w W → ∀ p, Blk W p 3 #[.int .i64 n] → Calls Tryz.prog 66 #[.slice ka m.fs.length kc, .func (.func 65) #[] #[.pointer (some ⟨p, 0, none⟩)]] W fun e w' => ∃ a' c', e = .returned (.slice a' (m.fs.filter (notN n)).length c') ∧ RowM w' AnyZ 3 (FmF d w' AnyZ) (.slice a' (m.fs.filter (notN n)).length c') (m.fs.filter (notN n)) ∧ Below W.heap.size W w') := hid fun W hW p hp => (chosenF W Z d m.fs ka kc (g.kept hW) 65 #[.pointer (some ⟨p, 0, none⟩)] cfClear (notN n) (fun W' hW' cs x _ hx => clearFn W' Z d cs x hx p n (hp.kept hW'))).mono (by rintro e w' ⟨a', c', he, hr, hb⟩; exact ⟨a', c', he, FlsR.go hr (Keep.refl (fun _ => True) w') (fun _ _ => trivial) (fun _ _ => (trivial : AnyZ _)), hb⟩)
  have HU := hid fun W (hW : Below w.heap.size w W) => EnsR.go q (keepT hW) (fun _ _ => trivial) (fun _ _ => (trivial : AnyZ _))
  clear h g q
  go_enter Tryz.func31, Tryz.ntmps31
  go_upto_region 2 with fail
  have Bx : Blk (((w.alloc (.cells #[.slice ka m.fs.length kc, .slice va m.us.length vc] 35)).alloc (.cells #[.int .i64 n] 3)).alloc (.cells #[.slice none 0 0, .slice none 0 0] 35)) w.heap.size 35 #[.slice ka m.fs.length kc, .slice va m.us.length vc] := ((Blk.new _ _ _).kept (below_alloc _)).kept (below_alloc _)
  have Bn : Blk (((w.alloc (.cells #[.slice ka m.fs.length kc, .slice va m.us.length vc] 35)).alloc (.cells #[.int .i64 n] 3)).alloc (.cells #[.slice none 0 0, .slice none 0 0] 35)) (w.heap.size + 1) 3 #[.int .i64 n] := (Blk.newAt (by simp)).kept (below_alloc _)
  have Br : Blk (((w.alloc (.cells #[.slice ka m.fs.length kc, .slice va m.us.length vc] 35)).alloc (.cells #[.int .i64 n] 3)).alloc (.cells #[.slice none 0 0, .slice none 0 0] 35)) (w.heap.size + 1 + 1) 35 #[.slice none 0 0, .slice none 0 0] := Blk.newAt (by simp)
  have HB : Hid (Below w.heap.size w (((w.alloc (.cells #[.slice ka m.fs.length kc, .slice va m.us.length vc] 35)).alloc (.cells #[.int .i64 n] 3)).alloc (.cells #[.slice none 0 0, .slice none 0 0] 35))) := hid (by exact blBy)
  have HS : Hid (w.heap.size + 3 ≤ (((w.alloc (.cells #[.slice ka m.fs.length kc, .slice va m.us.length vc] 35)).alloc (.cells #[.int .i64 n] 3)).alloc (.cells #[.slice none 0 0, .slice none 0 0] 35)).heap.size) := hid (by simp)
  generalize (((w.alloc (.cells #[.slice ka m.fs.length kc, .slice va m.us.length vc] 35)).alloc (.cells #[.int .i64 n] 3)).alloc (.cells #[.slice none 0 0, .slice none 0 0] 35)) = W at *
  have f0 : W.cell? ⟨w.heap.size, 0, none⟩ = some (.slice ka m.fs.length kc) := Bx.cell 0 _ rfl
  have f1 : W.cell? ⟨w.heap.size, 1, none⟩ = some (.slice va m.us.length vc) := Bx.cell 1 _ rfl
  have hp1 : w.heap.size ≠ w.heap.size + 1 + 1 := by omega
  have HBn := hid Bn
  have xr := Br.cellF
  have yr := Br.frz
  have zr := Br.lt
  clear Bx Bn
  go_region_held3 (fun W => W.cell? ⟨w.heap.size, 0, none⟩ = some (.slice ka m.fs.length kc) ∧ W.cell? ⟨w.heap.size, 1, none⟩ = some (.slice va m.us.length vc)) (first | exact ⟨f0, f1⟩ | exact ⟨cs2 f0 hp1, cs2 f1 hp1⟩) (first | (go_at_call 66; refine (HI.out _ (by have := HB.out; exact blBy) _ (HBn.out.kept (by first | exact Below.refl _ _ | exact below_drew1 _ | exact below_drewN _ _))).mono ?_; rintro e w2 ⟨a1, c1, rfl, hn, hbx⟩; replace f0 := cell_below f0 (below_trans (by first | exact Below.refl _ _ | exact below_drew1 _ | exact below_drewN _ _) hbx); replace f1 := cell_below f1 (below_trans (by first | exact Below.refl _ _ | exact below_drew1 _ | exact below_drewN _ _) hbx); replace Br := Br.kept (below_trans (by first | exact Below.refl _ _ | exact below_drew1 _ | exact below_drewN _ _) hbx); replace xr := Br.cellF; replace yr := Br.frz; replace zr := Br.lt; replace HB := hid (below_trans HB.out (below_trans (by first | exact Below.refl _ _ | exact below_drew1 _ | exact below_drewN _ _) hbx)); have H1 : Hid (FlsR w2 AnyZ d (.slice a1 (m.fs.filter (notN n)).length c1) (m.fs.filter (notN n))) := hid hn; replace HS := hid (Nat.le_trans HS.out (Below.size (below_trans (by first | exact Below.refl _ _ | exact below_drew1 _ | exact below_drewN _ _) hbx))); clear hn hbx) | (go_at_call 28; refine (copyT (d + 1) _ AnyZ [.slice a1 (m.fs.filter (notN n)).length c1, .slice va m.us.length vc] (CM.mk (m.fs.filter (notN n)) m.us) ⟨_, _, rfl, H1.out.kept (by first | exact Below.refl _ _ | exact below_drew1 _ | exact below_drewN _ _), HU.out _ (by have := HB.out; exact blBy)⟩).mono ?_; rintro e w3 ⟨ds, rfl, hn, hbx⟩; replace f0 := cell_below f0 (below_trans (by first | exact Below.refl _ _ | exact below_drew1 _ | exact below_drewN _ _) hbx); replace f1 := cell_below f1 (below_trans (by first | exact Below.refl _ _ | exact below_drew1 _ | exact below_drewN _ _) hbx); replace Br := Br.kept (below_trans (by first | exact Below.refl _ _ | exact below_drew1 _ | exact below_drewN _ _) hbx); replace xr := Br.cellF; replace yr := Br.frz; replace zr := Br.lt; replace HB := hid (below_trans HB.out (below_trans (by first | exact Below.refl _ _ | exact below_drew1 _ | exact below_drewN _ _) hbx)); have H2 : Hid (MsgE w3 (w.heap.size + 3 ≤ ·) (d + 1) ds (CM.mk (m.fs.filter (notN n)) m.us)) := hid (MsgE.go (Keep.refl (fun _ => True) w3) (fun _ _ => trivial) (fun k hk => Nat.le_trans HS.out hk) (d + 1) _ _ hn); obtain ⟨fa, fc, ua, uc, rfl, -⟩ := msg_openD H2.out; clear hn hbx))
  all_goals go_wp2
  all_goals exact bodyPost_ret (v := .agg #[.slice fa (m.fs.filter (notN n)).length fc, .slice ua m.us.length uc]) (by simp [results, Tryz.results31, go_sem, xr, zr, yr, CM.fs, CM.us]) rfl (NewE.mk [.slice fa (m.fs.filter (notN n)).length fc, .slice ua m.us.length uc] (MsgE.go (f := (w.heap.size + 3 ≤ ·)) (by with_reducible repeat (first | exact Keep.refl _ _ | refine kpS ?_ (by first | (simp; done) | (simp; omega) | omega) | refine kpA ?_ _ | refine kpD ?_ | refine kpN ?_ _)) (fun _ h => h) (fun k hk => by omega) (d + 1) _ _ H2.out) (by have := HB.out; exact blBy))
set_option maxHeartbeats 2000000
/-- The greatest of a list, and of a number. -/
def mxL {α : Type} (f : α → Nat) (a : Nat) (l : List α) : Nat := l.foldl (fun a x => max a (f x)) a
def depVs (dm : CM → Nat) (a : Nat) (l : List (CV CM)) : Nat := l.foldl (fun a v => mxL dm a v.ms) a
/-- How deep, so far down. -/
def depM : Nat → CM → Nat
  | 0, _ => 0
  | d + 1, m => m.fs.foldl (fun a f => max (max a (depVs (depM d) 0 f.ks)) (depVs (depM d) 0 f.vs)) 0 + 1
theorem mxL_le {α : Type} {f : α → Nat} {b : Nat} : ∀ {l : List α} {a : Nat}, a ≤ b → (∀ x ∈ l, f x ≤ b) → mxL f a l ≤ b
  | [], a, ha, _ => ha
  | x :: r, a, ha, h => by
    show mxL f (max a (f x)) r ≤ b
    exact mxL_le (Nat.max_le.2 ⟨ha, h x List.mem_cons_self⟩) (fun y hy => h y (List.mem_cons_of_mem _ hy))
theorem depVs_le {dm : CM → Nat} {b : Nat} (hd : ∀ m, dm m ≤ b) : ∀ {l : List (CV CM)} {a : Nat}, a ≤ b → depVs dm a l ≤ b
  | [], a, ha => ha
  | v :: r, a, ha => by
    show depVs dm (mxL dm a v.ms) r ≤ b
    exact depVs_le hd (mxL_le ha (fun m _ => hd m))
theorem depFs_le {dm : CM → Nat} {b : Nat} (hd : ∀ m, dm m ≤ b) : ∀ {l : List (CF CM)} {a : Nat}, a ≤ b → l.foldl (fun a f => max (max a (depVs dm 0 f.ks)) (depVs dm 0 f.vs)) a ≤ b
  | [], a, ha => ha
  | f :: r, a, ha => by
    rw [List.foldl_cons]
    exact depFs_le hd (Nat.max_le.2 ⟨Nat.max_le.2 ⟨ha, depVs_le hd (Nat.zero_le _)⟩, depVs_le hd (Nat.zero_le _)⟩)
theorem depM_le : ∀ (d : Nat) (m : CM), depM d m ≤ d
  | 0, _ => Nat.le_refl _
  | d + 1, m => by
    unfold depM
    exact Nat.succ_le_succ (depFs_le (depM_le d) (Nat.zero_le _))
def DpAt (d : Nat) : Prop := ∀ (w : World) (Z : Nat → Prop) (cs : List Value) (m : CM), MsgE w Z d cs m → Calls Tryz.prog 29 #[.agg cs.toArray] w fun e w' => e = .returned (.int .i64 (depM d m)) ∧ Below w.heap.size w w'
theorem depthsDR8 (d : Nat) (hd : d ≤ 4000000) (HD : DpAt d) (w : World) (Z : Nat → Prop) (xs : List (CV CM)) (a : Option Addr) (c : Nat) (h : VlsR w Z d (.slice a xs.length c) xs) : Calls Tryz.prog 63 #[.slice a xs.length c] w fun e w' => e = .returned (.int .i64 (depVs (depM d) 0 xs)) ∧ Below w.heap.size w w' := by
  obtain ⟨_, _, e1, l1⟩ := RowM.sl h
  clear e1
  have m1 : (xs.length : Int) ≤ 9223372036854775807 := by omega
  have H1 := hid h
  replace HD := hid HD
  clear h
  go_enter Tryz.func63, Tryz.ntmps63
  go_wp2
  go_loopw [3, 4] (fun s3 s4 wr => ∃ (j r : Nat), s3 = .int .i64 r ∧ s4 = .int .i64 j ∧ j ≤ xs.length ∧ r ≤ d ∧ Hid (depVs (depM d) 0 xs = depVs (depM d) r (xs.drop j)) ∧ Hid (Below w.heap.size w wr)) (fun s3 s4 wr => xs.length - numAt wr s4)
  case atStart => exact ⟨0, 0, rfl, rfl, by omega, by omega, hid rfl, hid (Below.refl _ _)⟩
  case round =>
    obtain ⟨j, r, rfl, rfl, hj, hr, HA, hb⟩ := hrel
    by_cases hlt : j < xs.length
    · have k2 : (j : Int) < (xs.length : Int) := by omega
      obtain ⟨b1, o1, ka1, kc1, va1, vc1, rfl, -, hb1, c0, c1, c2, he⟩ := vls_at H1.out hlt
      obtain ⟨_, _, _, _, e1, -, q1, -, ml1, -⟩ := val_open he
      simp only [List.cons.injEq, Value.slice.injEq, true_and, and_true] at e1
      obtain ⟨⟨rfl, rfl⟩, rfl, rfl⟩ := e1
      have Q := hid q1
      have C2 := hid c2
      have HST : Hid (depVs (depM d) r (xs.drop j) = depVs (depM d) (mxL (depM d) r xs[j].ms) (xs.drop (j + 1))) := hid (by rw [List.drop_eq_getElem_cons hlt]; rfl)
      clear c0 c1 c2 he q1
      generalize xs[j] = x at *
      have ml3 : (x.ms.length : Int) ≤ 9223372036854775807 := by omega
      go_wp2
      go_loopw [3, 5] (fun s3 s5 wr => ∃ (i q : Nat), s3 = .int .i64 q ∧ s5 = .int .i64 i ∧ i ≤ x.ms.length ∧ q ≤ d ∧ Hid (mxL (depM d) r x.ms = mxL (depM d) q (x.ms.drop i)) ∧ Hid (Below w.heap.size w wr)) (fun s3 s5 wr => x.ms.length - numAt wr s5)
      case atStart => exact ⟨0, r, rfl, rfl, by omega, hr, hid rfl, hb⟩
      case round =>
        clear hb
        obtain ⟨i, q, rfl, rfl, hi, hq, HQ, hb⟩ := hrel
        have c2 := cell_below C2.out hb.out
        have hb2 : b1 < wr.heap.size := World.block_lt_of_cell? _ _ c2
        by_cases hil : i < x.ms.length
        · have k3 : (i : Int) < (x.ms.length : Int) := by omega
          obtain ⟨p1, r1, fa1, fc1, ua1, uc1, rfl, -, hp1, m10, m11, hm1⟩ := mgs_at' (Q.out.kept hb.out) hil
          have HM := hid hm1
          have HSI : Hid (mxL (depM d) q (x.ms.drop i) = mxL (depM d) (max q (depM d x.ms[i])) (x.ms.drop (i + 1))) := hid (by rw [List.drop_eq_getElem_cons hil]; rfl)
          have HLE := hid (depM_le d x.ms[i])
          clear hm1
          generalize x.ms[i] = m at *
          go_wp2_with fail
          refine (HD.out _ Z [.slice fa1 m.fs.length fc1, .slice ua1 m.us.length uc1] m HM.out).mono ?_
          rintro e w1 ⟨rfl, hbx⟩
          have hbw : Hid (Below w.heap.size w w1) := hid (bl_then hb.out hbx)
          clear hbx
          generalize depM d m = dm at *
          go_wp2
          exact ⟨⟨i + 1, max q dm, by congr 1; omega, by simp, by omega, by have := HLE.out; omega, hid (by rw [HQ.out, HSI.out]), hbw⟩, by simp [numAt]; omega⟩
        · have k3 : ¬ (i : Int) < (x.ms.length : Int) := by omega
          have HE : Hid (mxL (depM d) r x.ms = q) := hid (by rw [HQ.out, List.drop_of_length_le (by omega)]; rfl)
          go_wp2
          exact ⟨⟨j + 1, q, rfl, by simp, by omega, hq, hid (by rw [HA.out, HST.out, HE.out]), hb⟩, by simp [numAt]; omega⟩
    · have k2 : ¬ (j : Int) < (xs.length : Int) := by omega
      have HE : Hid (depVs (depM d) 0 xs = r) := hid (by rw [HA.out, List.drop_of_length_le (by omega)]; rfl)
      go_wp2
      go_ret
      exact ⟨by rw [HE.out]; rfl, hb.out⟩
theorem depthDR : ∀ d, d ≤ 4000000 → DpAt d
  | 0, _ => fun _ _ _ _ h => h.elim
  | d + 1, hd => fun w Z cs m h => by
    have HD := depthDR d (by omega)
    obtain ⟨ka, kc, va, vc, rfl, g, q, l1, -⟩ := msg_open h
    have HV : Hid (∀ (W : World) (xs : List (CV CM)) (a : Option Addr) (c : Nat), VlsR W Z d (.slice a xs.length c) xs → Calls Tryz.prog 63 #[.slice a xs.length c] W fun e w' => e = .returned (.int .i64 (depVs (depM d) 0 xs)) ∧ Below W.heap.size W w') := hid fun W xs a c hx => depthsDR8 d (by omega) HD W Z xs a c hx
    have G := hid g
    have m1 : (m.fs.length : Int) ≤ 9223372036854775807 := by omega
    have HX : Hid (depM (d + 1) m = m.fs.foldl (fun a f => max (max a (depVs (depM d) 0 f.ks)) (depVs (depM d) 0 f.vs)) 0 + 1) := hid rfl
    have HDL := hid (fun (l : List (CV CM)) => depVs_le (l := l) (depM_le d) (Nat.zero_le d))
    generalize depM (d + 1) m = res at *
    clear h g q HD
    go_enter Tryz.func29, Tryz.ntmps29
    go_wp2
    go_loopw [3, 4] (fun s3 s4 wr => ∃ (j r : Nat), s3 = .int .i64 r ∧ s4 = .int .i64 j ∧ j ≤ m.fs.length ∧ r ≤ d ∧ Hid (res = (m.fs.drop j).foldl (fun a f => max (max a (depVs (depM d) 0 f.ks)) (depVs (depM d) 0 f.vs)) r + 1) ∧ Hid (Blk wr w.heap.size 35 #[.slice ka m.fs.length kc, .slice va m.us.length vc]) ∧ Hid (Below w.heap.size w wr)) (fun s3 s4 wr => m.fs.length - numAt wr s4)
    case atStart => exact ⟨0, 0, rfl, rfl, by omega, by omega, HX, hid (Blk.new _ _ _), hid (by exact blBy)⟩
    case round =>
      obtain ⟨j, r, rfl, rfl, hj, hr, HA, HBx, hb⟩ := hrel
      have xx := HBx.out.cellF
      have zx := HBx.out.lt
      by_cases hlt : j < m.fs.length
      · have k2 : (j : Int) < (m.fs.length : Int) := by omega
        obtain ⟨b1, o1, pa, pc, qa, qc, rfl, -, hb1, c0, c1, c2, he⟩ := fls_at (G.out.kept hb.out) hlt
        obtain ⟨_, _, _, _, e1, g1, g2, -⟩ := fld_open he
        simp only [List.cons.injEq, Value.slice.injEq, true_and, and_true] at e1
        obtain ⟨⟨rfl, rfl⟩, rfl, rfl⟩ := e1
        have G1 := hid g1
        have G2 := hid g2
        have HST : Hid ((m.fs.drop j).foldl (fun a f => max (max a (depVs (depM d) 0 f.ks)) (depVs (depM d) 0 f.vs)) r = (m.fs.drop (j + 1)).foldl (fun a f => max (max a (depVs (depM d) 0 f.ks)) (depVs (depM d) 0 f.vs)) (max (max r (depVs (depM d) 0 m.fs[j].ks)) (depVs (depM d) 0 m.fs[j].vs))) := hid (by rw [List.drop_eq_getElem_cons hlt, List.foldl_cons])
        have f0 : wr.cell? ⟨w.heap.size, 0, none⟩ = some (.slice (some ⟨b1, o1, none⟩) m.fs.length kc) := xx 0
        clear he g1 g2 c0
        generalize m.fs[j] = f at *
        have HL1 := hid (HDL.out f.ks)
        have HL2 := hid (HDL.out f.vs)
        have HV1 := hid (fun W (hW : Below wr.heap.size wr W) => HV.out W f.ks pa pc (G1.out.kept hW))
        have HV2 := hid (fun W (hW : Below wr.heap.size wr W) => HV.out W f.vs qa qc (G2.out.kept hW))
        generalize depVs (depM d) 0 f.ks = n1 at *
        generalize depVs (depM d) 0 f.vs = n2 at *
        have HB : Hid (Below wr.heap.size wr wr) := hid (Below.refl _ _)
        have HB0 := hb
        clear xx zx HV G1 G2
        go_wp2_with fail
        go_region_held3 (fun W => W.cell? ⟨w.heap.size, 0, none⟩ = some (.slice (some ⟨b1, o1, none⟩) m.fs.length kc) ∧ W.cell? ⟨b1, o1 + j * 3 + 1, none⟩ = some (.slice pa f.ks.length pc) ∧ W.cell? ⟨b1, o1 + j * 3 + 2, none⟩ = some (.slice qa f.vs.length qc)) (exact ⟨f0, c1, c2⟩) (first | (go_at_call_of 63 (Value.slice pa f.ks.length pc); refine (HV1.out _ (by have := HB.out; exact blBy)).mono ?_; rintro e w1 ⟨rfl, hbx⟩; replace f0 := cell_below f0 (below_trans (by first | exact Below.refl _ _ | exact below_drew1 _ | exact below_drewN _ _) hbx); replace c1 := cell_below c1 (below_trans (by first | exact Below.refl _ _ | exact below_drew1 _ | exact below_drewN _ _) hbx); replace c2 := cell_below c2 (below_trans (by first | exact Below.refl _ _ | exact below_drew1 _ | exact below_drewN _ _) hbx); replace HB := hid (below_trans HB.out (below_trans (by first | exact Below.refl _ _ | exact below_drew1 _ | exact below_drewN _ _) hbx)); clear hbx) | (go_at_call_of 63 (Value.slice qa f.vs.length qc); refine (HV2.out _ (by have := HB.out; exact blBy)).mono ?_; rintro e w2 ⟨rfl, hbx⟩; replace f0 := cell_below f0 (below_trans (by first | exact Below.refl _ _ | exact below_drew1 _ | exact below_drewN _ _) hbx); replace c1 := cell_below c1 (below_trans (by first | exact Below.refl _ _ | exact below_drew1 _ | exact below_drewN _ _) hbx); replace c2 := cell_below c2 (below_trans (by first | exact Below.refl _ _ | exact below_drew1 _ | exact below_drewN _ _) hbx); replace HB := hid (below_trans HB.out (below_trans (by first | exact Below.refl _ _ | exact below_drew1 _ | exact below_drewN _ _) hbx)); clear hbx))
        all_goals go_wp2
        all_goals exact ⟨⟨j + 1, max (max r n1) n2, by congr 1; omega, by simp, by omega, by have := HL1.out; have := HL2.out; omega, hid (by rw [HA.out, HST.out]), hid (HBx.out.kept (by have := HB.out; exact blBy)), hid (below_trans hb.out (by have := HB.out; exact blBy))⟩, by simp [numAt]; omega⟩
      · have k2 : ¬ (j : Int) < (m.fs.length : Int) := by omega
        have HE : Hid (res = r + 1) := hid (by rw [HA.out, List.drop_of_length_le (by omega)]; rfl)
        go_wp2
        go_ret
        exact ⟨by rw [HE.out]; rfl, hb.out⟩
/-- A field in old memory, and whether it is there. -/
def GetD (d : Nat) (w : World) (o : Option (CF CM)) (e : Ending) (w' : World) : Prop := ∃ cs : List Value, e = .returned (.tuple #[.agg cs.toArray, .bool o.isSome]) ∧ FmF d w' AnyZ cs (o.getD cfZ) ∧ Below w.heap.size w w'
theorem getDR (d : Nat) (w : World) (Z : Nat → Prop) (cs : List Value) (m : CM) (h : MsgE w Z (d + 1) cs m) (n : Int) : Calls Tryz.prog 25 #[.agg cs.toArray, .int .i64 n] w (GetD d w (m.fs.find? (isN n))) := by
  obtain ⟨ka, kc, va, vc, rfl, g, q, l1, -⟩ := msg_open h
  have G := hid g
  have m1 : (m.fs.length : Int) ≤ 9223372036854775807 := by omega
  clear h g q
  generalize hfv : m.fs.find? (isN n) = fv
  have HFV := hid hfv
  clear hfv
  go_enter Tryz.func25, Tryz.ntmps25
  go_wp2
  go_loopw [6] (fun s6 wr => ∃ j : Nat, s6 = .int .i64 j ∧ j ≤ m.fs.length ∧ Hid ((m.fs.drop j).find? (isN n) = fv) ∧ Hid (Blk wr w.heap.size 35 #[.slice ka m.fs.length kc, .slice va m.us.length vc]) ∧ Hid (Blk wr (w.heap.size + 1) 29 #[.int .i64 0, .slice none 0 0, .slice none 0 0]) ∧ Hid (Below w.heap.size w wr)) (fun s6 wr => m.fs.length - numAt wr s6)
  case atStart => exact ⟨0, rfl, by omega, HFV, hid ((Blk.new _ _ _).kept (below_alloc _)), hid (Blk.newAt (by simp)), hid (by exact blBy)⟩
  case round =>
    clear HFV
    obtain ⟨j, rfl, hj, HFV, HBx, HBr, hb⟩ := hrel
    have xx := HBx.out.cellF
    have zx := HBx.out.lt
    have xr := HBr.out.cellF
    have yr := HBr.out.frz
    have zr := HBr.out.lt
    by_cases hlt : j < m.fs.length
    · have k2 : (j : Int) < (m.fs.length : Int) := by omega
      obtain ⟨b1, o1, pa, pc, qa, qc, rfl, -, hb1, c0, c1, c2, he⟩ := fls_at G.out hlt
      have hne : b1 ≠ w.heap.size + 1 := by omega
      replace c0 := cell_below c0 hb.out
      replace c1 := cell_below c1 hb.out
      replace c2 := cell_below c2 hb.out
      replace hb1 : b1 < wr.heap.size := World.block_lt_of_cell? _ _ c0
      have HE := hid he
      have HST : Hid ((m.fs.drop j).find? (isN n) = match isN n m.fs[j] with | true => some m.fs[j] | false => (m.fs.drop (j + 1)).find? (isN n)) := hid (by rw [List.drop_eq_getElem_cons hlt, List.find?_cons]; first | rfl | (split <;> rfl) | (split <;> simp_all))
      rw [HST.out] at HFV
      clear he HST
      generalize m.fs[j] = x at *
      by_cases hq : x.num = n
      · have kq : (x.num == n) = true := by simpa using hq
        rw [show isN n x = true from decide_eq_true hq] at HFV
        have HX : Hid (fv = some x) := hid HFV.out.symm
        replace hq := hid hq
        go_wp2
        have HN : Hid (FmF d w (· < w.heap.size) [.int .i64 x.num, .slice pa x.ks.length pc, .slice qa x.vs.length qc] x) := hid ((famF d).go ((famF d).old HE.out) (Keep.refl (fun _ => True) w) (fun _ _ => trivial) (fun k hk => hk.2))
        have HK : Hid (Keep (· < w.heap.size) w wr) := hid (Keep.ofBelow hb.out)
        exact bodyPost_ret (v := .tuple #[.agg #[.int .i64 x.num, .slice pa x.ks.length pc, .slice qa x.vs.length qc], .bool true]) (by simp [results, Tryz.results25, go_sem, xr, zr, yr]) rfl ⟨[.int .i64 x.num, .slice pa x.ks.length pc, .slice qa x.vs.length qc], by rw [HX.out]; rfl, by rw [HX.out]; exact (famF d).go HN.out (f := (· < w.heap.size)) (HK.out.trans (by with_reducible repeat (first | exact Keep.refl _ _ | refine kpS ?_ (by first | (simp; done) | (simp; omega) | omega) | refine kpA ?_ _ | refine kpD ?_ | refine kpN ?_ _))) (fun _ h => h) (fun _ _ => trivial), by have := hb.out; exact blBy⟩
      · have kq : (x.num == n) = false := by simpa using hq
        rw [show isN n x = false from decide_eq_false hq] at HFV
        replace hq := hid hq
        go_wp2
        exact ⟨⟨j + 1, by simp, by omega, HFV, HBx, HBr, hb⟩, by simp [numAt]; omega⟩
    · have k2 : ¬ (j : Int) < (m.fs.length : Int) := by omega
      have HX : Hid (fv = none) := hid (by rw [← HFV.out, List.drop_of_length_le (by omega)]; rfl)
      go_wp2
      exact bodyPost_ret (v := .tuple #[.agg #[.int .i64 0, .slice none 0 0, .slice none 0 0], .bool false]) (by simp [results, Tryz.results25, go_sem, xr, zr, yr]) rfl ⟨[.int .i64 0, .slice none 0 0, .slice none 0 0], by rw [HX.out]; rfl, by rw [HX.out]; exact ⟨_, _, rfl, RowM.nil _ _ _ _, RowM.nil _ _ _ _, by constructor <;> decide⟩, by have := hb.out; exact blBy⟩
end Go.Proofs.YtpmpfcnmjdeoiaaGreatDoor
