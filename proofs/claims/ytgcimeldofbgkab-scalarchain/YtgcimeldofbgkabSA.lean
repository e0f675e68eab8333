/-
  The kinds of values: numbers alone, nothing of the program.
-/
import Derived.Test.YtgcimeldofbgkabM7
import Derived.Test.YtgcimeldofbgkabQA
namespace Go.Proofs.Ytgcimeldofbgkab
open Go.RowKit
set_option maxRecDepth 1000000

/-- A number that is no kind: what the walks ask of it. -/
def NoKind (k : Int) : Prop := (k == 1) = false ∧ (k == 2) = false ∧ (k == 3) = false ∧ (k == 4) = false ∧ (k == 5) = false ∧ (k == 6) = false ∧ (k == 7) = false ∧ (k == 8) = false ∧ (k == 9) = false ∧ (k == 10) = false ∧ (k == 11) = false ∧ (k == 12) = false ∧ (k == 13) = false ∧ (k == 14) = false ∧ (k == 15) = false ∧ (k == 16) = false ∧ (k == 17) = false
theorem noKind {k : Int} (h : k < 1 ∨ 17 < k) : NoKind k := by
  unfold NoKind
  simp only [beq_eq_false_iff_ne]
  omega
theorem kinds (k : Int) : k = 1 ∨ k = 2 ∨ k = 3 ∨ k = 4 ∨ k = 5 ∨ k = 6 ∨ k = 7 ∨ k = 8 ∨ k = 9 ∨ k = 10 ∨ k = 11 ∨ k = 12 ∨ k = 13 ∨ k = 14 ∨ k = 15 ∨ k = 16 ∨ k = 17 ∨ k < 1 ∨ 17 < k := by omega

/-- The wire kind; -1: no kind. -/
def kwire (k : Int) : Int := if k = 8 ∨ k = 10 ∨ k = 12 then 5 else if k = 9 ∨ k = 11 ∨ k = 13 then 1 else if k = 14 ∨ k = 15 ∨ k = 17 then 2 else if (1 ≤ k ∧ k ≤ 7) ∨ k = 16 then 0 else -1
def kwireE (k : Int) : Int := if 1 ≤ k ∧ k ≤ 17 then 0 else 18
def knum (k : Int) : Bool := decide ((1 ≤ k ∧ k ≤ 13) ∨ k = 16)
def kkey (k : Int) : Bool := decide ((1 ≤ k ∧ k ≤ 11) ∨ k = 14)
def kneg (k : Int) : Bool := decide (k = 2 ∨ k = 3 ∨ k = 6 ∨ k = 7 ∨ k = 10 ∨ k = 11)
def kone (k : Int) : Bool := decide (1 ≤ k ∧ k ≤ 16)
/-- 64 bits in two's complement. -/
def sgn (n : Int) : Int := if n < 9223372036854775808 then n else n - 18446744073709551616
/-- Back. -/
def uns (n : Int) : Int := n % 18446744073709551616
/-- 32 bits, with their sign, in 64. -/
def wid (n : Int) : Int := if n < 2147483648 then n else n + 18446744069414584320
def khold (k n : Int) : Bool := if k = 1 then decide (n ≤ 1) else if k = 2 ∨ k = 6 ∨ k = 10 then decide (n < 2147483648 ∨ 18446744071562067968 ≤ n) else if k = 4 ∨ k = 8 ∨ k = 12 then decide (n ≤ 4294967295) else if k = 16 then decide (n ≤ 2147483647) else true
def nfit (k n : Int) : Bool := knum k && khold k n
def vfit (k n : Int) (lb lm : Nat) : Bool := decide (lm = 0) && (if k = 14 ∨ k = 15 then decide (n = 0) else decide (lb = 0) && nfit k n)
/-- Why a value can't be written; 0: it can. -/
def flt (k n : Int) (xs : List Int) (lm : Nat) : Int := if kone k = false then 18 else if vfit k n xs.length lm = false then 7 else if k = 14 ∧ rn xs < 0 then 8 else 0
def putV (k n : Int) (xs : List Int) : List Int := if k = 6 ∨ k = 7 then pv (zigF (sgn n)) else if k = 8 ∨ k = 10 ∨ k = 12 then pw 4 n else if k = 9 ∨ k = 11 ∨ k = 13 then pw 8 n else if k = 14 ∨ k = 15 then pc xs else pv n
def putE (k n : Int) (xs : List Int) (lm : Nat) : List Int × Int := if flt k n xs lm = 0 then (putV k n xs, 0) else ([], flt k n xs lm)
/-- What is read of a number: it, the place behind, the error. -/
def getN (k : Int) (xs : List Int) (p : Nat) : Int × Int × Int :=
  if k = 6 ∨ k = 7 then (uns (zagF (gv xs p).1), (gv xs p).2.1, (gv xs p).2.2) else if k = 10 then (wid (gw xs p 4).1, (gw xs p 4).2.1, (gw xs p 4).2.2) else if k = 8 ∨ k = 12 then gw xs p 4 else if k = 9 ∨ k = 11 ∨ k = 13 then gw xs p 8 else gv xs p
/-- A value that was read: N, B, the place behind, the error. -/
structure GotV where
  n : Int
  b : List Int
  next : Int
  err : Int
def GotV.none (e : Int) : GotV := ⟨0, [], 0, e⟩
def getV (k : Int) (xs : List Int) (p : Nat) : GotV :=
  if k = 14 ∨ k = 15 then (if (gc xs p).2.2 ≠ 0 then .none (gc xs p).2.2 else if k = 14 ∧ rn (gc xs p).1 < 0 then .none 8 else ⟨0, (gc xs p).1, (gc xs p).2.1, 0⟩)
  else if (getN k xs p).2.2 ≠ 0 then .none (getN k xs p).2.2 else if khold k (getN k xs p).1 = false then .none 7 else ⟨(getN k xs p).1, [], (getN k xs p).2.1, 0⟩

/-- The names. -/
def kname (k : Int) : ByteArray := if k = 1 then ⟨#[98, 111, 111, 108]⟩ else if k = 2 then ⟨#[105, 110, 116, 51, 50]⟩ else if k = 3 then ⟨#[105, 110, 116, 54, 52]⟩ else if k = 4 then ⟨#[117, 105, 110, 116, 51, 50]⟩ else if k = 5 then ⟨#[117, 105, 110, 116, 54, 52]⟩ else if k = 6 then ⟨#[115, 105, 110, 116, 51, 50]⟩ else if k = 7 then ⟨#[115, 105, 110, 116, 54, 52]⟩ else if k = 8 then ⟨#[102, 105, 120, 101, 100, 51, 50]⟩ else if k = 9 then ⟨#[102, 105, 120, 101, 100, 54, 52]⟩ else if k = 10 then ⟨#[115, 102, 105, 120, 101, 100, 51, 50]⟩ else if k = 11 then ⟨#[115, 102, 105, 120, 101, 100, 54, 52]⟩ else if k = 12 then ⟨#[102, 108, 111, 97, 116]⟩ else if k = 13 then ⟨#[100, 111, 117, 98, 108, 101]⟩ else if k = 14 then ⟨#[115, 116, 114, 105, 110, 103]⟩ else if k = 15 then ⟨#[98, 121, 116, 101, 115]⟩ else ⟨#[]⟩
def knameE (k : Int) : Int := if 1 ≤ k ∧ k ≤ 15 then 0 else 18

theorem wrap64_sgn (n : Int) (h0 : 0 ≤ n) (h1 : n < 18446744073709551616) : wrap64 n = sgn n := by
  unfold sgn wrap64
  split <;> omega
end Go.Proofs.Ytgcimeldofbgkab
