/-
  Bytes in order: the mathematics; bytes.Compare and cmp.Compare.
-/
import Derived.Test.YtgcimeldofbgkaaSE
import Derived.Lib.Bytealg
import Derived.Lib.BytesEntry
namespace Go.Proofs.Ytgcimeldofbgkaa
open Go.RowKit
set_option maxRecDepth 1000000
set_option maxHeartbeats 2000000

def cmpX : List Int → List Int → Int
  | [], [] => 0
  | [], _ :: _ => -1
  | _ :: _, [] => 1
  | a :: l, b :: r => if a < b then -1 else if b < a then 1 else cmpX l r
def cmpI (a b : Int) : Int := if a < b then -1 else if b < a then 1 else 0

def u8s (xs : List Int) : List UInt8 := xs.map fun n => UInt8.ofNat n.toNat
theorem u8_lt {x y : Int} (hx : 0 ≤ x ∧ x ≤ 255) (hy : 0 ≤ y ∧ y ≤ 255) : (UInt8.ofNat x.toNat < UInt8.ofNat y.toNat) ↔ x < y := by
  rw [UInt8.lt_iff_toNat_lt]
  simp only [UInt8.toNat_ofNat']
  omega
theorem u8_eq {x y : Int} (hx : 0 ≤ x ∧ x ≤ 255) (hy : 0 ≤ y ∧ y ≤ 255) : (UInt8.ofNat x.toNat == UInt8.ofNat y.toNat) = decide (x = y) := by
  rw [Bool.eq_iff_iff]
  simp only [beq_iff_eq, decide_eq_true_eq]
  constructor
  · intro h
    have := congrArg UInt8.toNat h
    simp only [UInt8.toNat_ofNat'] at this
    omega
  · intro h; rw [h]
theorem cmp_u8 : ∀ (xs ys : List Int), (∀ x ∈ xs, 0 ≤ x ∧ x ≤ 255) → (∀ y ∈ ys, 0 ≤ y ∧ y ≤ 255) → Lib.compareBytes (u8s xs) (u8s ys) = cmpX xs ys
  | [], [], _, _ => rfl
  | [], _ :: _, _, _ => rfl
  | _ :: _, [], _, _ => rfl
  | x :: xs, y :: ys, hx, hy => by
    have h1 := u8_lt (hx x (by simp)) (hy y (by simp))
    have h2 := u8_lt (hy y (by simp)) (hx x (by simp))
    have ih := cmp_u8 xs ys (fun z hz => hx z (by simp [hz])) (fun z hz => hy z (by simp [hz]))
    unfold u8s at ih ⊢
    simp only [List.map_cons, Lib.compareBytes, cmpX, h1, h2, ih]
theorem less_u8 : ∀ (xs ys : List Int), (∀ x ∈ xs, 0 ≤ x ∧ x ≤ 255) → (∀ y ∈ ys, 0 ≤ y ∧ y ≤ 255) → Op.bytesLess (u8s xs) (u8s ys) = decide (cmpX xs ys = -1)
  | [], [], _, _ => by simp [u8s, Op.bytesLess, cmpX]
  | [], _ :: _, _, _ => by simp [u8s, Op.bytesLess, cmpX]
  | _ :: _, [], _, _ => by simp [u8s, Op.bytesLess, cmpX]
  | x :: xs, y :: ys, hx, hy => by
    have h1 := u8_lt (hx x (by simp)) (hy y (by simp))
    have h3 := u8_eq (hx x (by simp)) (hy y (by simp))
    have ih := less_u8 xs ys (fun z hz => hx z (by simp [hz])) (fun z hz => hy z (by simp [hz]))
    unfold u8s at ih ⊢
    simp only [List.map_cons, Op.bytesLess, cmpX, h1, h3, ih]
    by_cases a : x < y
    · simp [a]
    · by_cases b : y < x
      · have : ¬ x = y := by omega
        simp [a, b, this]
      · have : x = y := by omega
        simp [this]
theorem less_str {xs ys : List Int} (hx : ∀ x ∈ xs, 0 ≤ x ∧ x ≤ 255) (hy : ∀ y ∈ ys, 0 ≤ y ∧ y ≤ 255) : Op.bytesLess (strOfNums xs).toList (strOfNums ys).toList = decide (cmpX xs ys = -1) := by
  rw [str_list, str_list]; exact less_u8 xs ys hx hy
theorem cmpX_eq : ∀ (xs ys : List Int), cmpX xs ys = 0 ↔ xs = ys
  | [], [] => by simp [cmpX]
  | [], _ :: _ => by simp [cmpX]
  | _ :: _, [] => by simp [cmpX]
  | x :: xs, y :: ys => by
    have ih := cmpX_eq xs ys
    unfold cmpX
    by_cases a : x < y
    · simp [a]; omega
    · by_cases b : y < x
      · simp [a, b]; omega
      · have : x = y := by omega
        simp [this, ih]
theorem cmpX_val : ∀ (xs ys : List Int), cmpX xs ys = -1 ∨ cmpX xs ys = 0 ∨ cmpX xs ys = 1
  | [], [] => by simp [cmpX]
  | [], _ :: _ => by simp [cmpX]
  | _ :: _, [] => by simp [cmpX]
  | x :: xs, y :: ys => by
    have ih := cmpX_val xs ys
    unfold cmpX
    split
    · exact .inl rfl
    · split
      · exact .inr (.inr rfl)
      · exact ih
theorem cmpX_neg : ∀ (xs ys : List Int), cmpX ys xs = - cmpX xs ys
  | [], [] => by simp [cmpX]
  | [], _ :: _ => by simp [cmpX]
  | _ :: _, [] => by simp [cmpX]
  | x :: xs, y :: ys => by
    have ih := cmpX_neg xs ys
    unfold cmpX
    by_cases a : x < y
    · have b : ¬ y < x := by omega
      simp [a, b]
    · by_cases b : y < x
      · simp [a, b]
      · simp [a, b, ih]
theorem cmpX_trans : ∀ (xs ys zs : List Int), cmpX xs ys ≤ 0 → cmpX ys zs ≤ 0 → cmpX xs zs ≤ 0 ∧ (cmpX xs zs = 0 → cmpX xs ys = 0 ∧ cmpX ys zs = 0)
  | [], [], [], _, _ => by simp [cmpX]
  | [], [], _ :: _, _, _ => by simp [cmpX]
  | [], _ :: _, [], _, h => by simp [cmpX] at h
  | [], _ :: _, _ :: _, _, _ => by simp [cmpX]
  | _ :: _, [], _, h, _ => by simp [cmpX] at h
  | _ :: _, _ :: _, [], _, h => by simp [cmpX] at h
  | x :: xs, y :: ys, z :: zs, h1, h2 => by
    have ih := cmpX_trans xs ys zs
    unfold cmpX at h1 h2 ⊢
    by_cases a : x < y
    · by_cases c : y < z
      · have : x < z := by omega
        simp [this]
      · by_cases d : z < y
        · simp [c, d] at h2
        · have : x < z := by omega
          simp [this]
    · by_cases b : y < x
      · simp [a, b] at h1
      · have e : x = y := by omega
        subst e
        simp only [Int.lt_irrefl, if_false] at h1 ⊢
        by_cases c : x < z
        · simp [c]
        · by_cases d : z < x
          · simp [c, d] at h2
          · simp only [c, d, if_false] at h2 ⊢
            exact ih h1 h2
theorem cmpI_val (a b : Int) : cmpI a b = -1 ∨ cmpI a b = 0 ∨ cmpI a b = 1 := by unfold cmpI; split <;> (try split) <;> simp
theorem cmpI_eq (a b : Int) : cmpI a b = 0 ↔ a = b := by unfold cmpI; split <;> (try split) <;> simp <;> omega
theorem cmpI_neg (a b : Int) : cmpI b a = - cmpI a b := by
  unfold cmpI
  by_cases h : a < b
  · have : ¬ b < a := by omega
    simp [h, this]
  · by_cases h2 : b < a <;> simp [h, h2]
theorem cmpI_trans (a b c : Int) (h1 : cmpI a b ≤ 0) (h2 : cmpI b c ≤ 0) : cmpI a c ≤ 0 ∧ (cmpI a c = 0 → cmpI a b = 0 ∧ cmpI b c = 0) := by
  unfold cmpI at *
  split at h1 <;> split at h2 <;> (repeat' split) <;> (try split at h1) <;> (try split at h2) <;> simp_all <;> omega

theorem run_bytesOf {w : World} {a : Option Addr} {len cap : Nat} {xs : List Int} (h : Reads w a len cap xs) : (Extern.Bytes.bytesOf (.slice a len cap)).run Try.prog w = .ok ⟨(u8s xs).toArray⟩ w := by
  have hlen := h.length
  rcases h.cells with ⟨h0, _⟩ | ⟨b, off, rfl, hc⟩
  · subst h0
    have hx : xs = [] := List.eq_nil_of_length_eq_zero hlen
    subst hx
    cases a with
    | none => rfl
    | some x => rfl
  · have hl := Lib.run_loadBytesX (P := Try.prog) w xs ⟨b, off, none⟩ .empty (fun j x hj => by
      have hjl : j < xs.length := (List.getElem?_eq_some_iff.1 hj).1
      have e : (⟨b, off, none⟩ : Addr).add j = ⟨b, off + j, none⟩ := by unfold Addr.add; split <;> simp_all
      rw [e, hc j (by omega), List.getD_eq_getElem?_getD, hj]
      rfl)
    rw [hlen] at hl
    show Sem.run Try.prog (Extern.Bytes.loadBytes ⟨b, off, none⟩ len .empty) w = _
    rw [hl]
    have e : (ByteArray.empty.data ++ (Lib.bytesOf xs).toArray) = (u8s xs).toArray := by simp [ByteArray.empty, ByteArray.emptyWithCapacity, Lib.bytesOf, u8s]; rfl
    rw [e]
theorem bytesCmpW (a1 a2 : Option Addr) (l1 c1 l2 c2 : Nat) (xs ys : List Int) (w : World) (h1 : Reads w a1 l1 c1 xs) (h2 : Reads w a2 l2 c2 ys) :
    Calls Try.prog 49 #[.slice a1 l1 c1, .slice a2 l2 c2] w fun e w' => e = .returned (.int .i64 (cmpX xs ys)) ∧ w = w' := by
  have HR : Hid ((Extern.BytealgCompare.compare #[.slice a1 l1 c1, .slice a2 l2 c2]).run Try.prog w = .ok (.int .i64 (cmpX xs ys)) w) := by
    show _ = _
    change Sem.run Try.prog (do pure (goInt (Extern.BytealgCompare.cmp (← Extern.Bytes.bytesOf (.slice a1 l1 c1)) (← Extern.Bytes.bytesOf (.slice a2 l2 c2))))) w = _
    simp only [Sem.run_bind, run_bytesOf h1, run_bytesOf h2, Sem.run_pure, Result.andThen]
    rw [Lib.cmp_eq]
    show Result.ok (Value.int .i64 (Lib.compareBytes (u8s xs) (u8s ys))) w = _
    rw [cmp_u8 xs ys (bd_mem h1.bd) (bd_mem h2.bd)]
  clear h1 h2
  go_enter Try.func49, Try.ntmps49
  go_wp2
  rw [run_callFunc_extern Try.func65 (by kernel_rfl) (by kernel_rfl) (by kernel_rfl) (e := Extern.BytealgCompare.compare) (by kernel_rfl), HR.out]
  simp only [Result.andThen]
  rw [Oper.upon_value]
  go_wp2
  go_ret
  exact ⟨rfl, rfl⟩
theorem cmpSW (x y : Int) (w : World) : Calls Try.prog 51 #[.int .i64 x, .int .i64 y] w fun e w' => e = .returned (.int .i64 (cmpI x y)) ∧ w = w' := by
  have hx : (x != x) = false := by simp
  have hy : (y != y) = false := by simp
  unfold cmpI
  by_cases h1 : x < y
  · rw [if_pos h1]
    go_enter Try.func51, Try.ntmps51
    go_wp2
    go_ret
    exact ⟨rfl, rfl⟩
  · rw [if_neg h1]
    by_cases h2 : y < x
    · rw [if_pos h2]
      go_enter Try.func51, Try.ntmps51
      go_wp2
      go_ret
      exact ⟨rfl, rfl⟩
    · rw [if_neg h2]
      go_enter Try.func51, Try.ntmps51
      go_wp2
      go_ret
      exact ⟨rfl, rfl⟩
theorem cmpUW (x y : Int) (w : World) : Calls Try.prog 52 #[.int .u64 x, .int .u64 y] w fun e w' => e = .returned (.int .i64 (cmpI x y)) ∧ w = w' := by
  have hx : (x != x) = false := by simp
  have hy : (y != y) = false := by simp
  unfold cmpI
  by_cases h1 : x < y
  · rw [if_pos h1]
    go_enter Try.func52, Try.ntmps52
    go_wp2
    go_ret
    exact ⟨rfl, rfl⟩
  · rw [if_neg h1]
    by_cases h2 : y < x
    · rw [if_pos h2]
      go_enter Try.func52, Try.ntmps52
      go_wp2
      go_ret
      exact ⟨rfl, rfl⟩
    · rw [if_neg h2]
      go_enter Try.func52, Try.ntmps52
      go_wp2
      go_ret
      exact ⟨rfl, rfl⟩
end Go.Proofs.Ytgcimeldofbgkaa
