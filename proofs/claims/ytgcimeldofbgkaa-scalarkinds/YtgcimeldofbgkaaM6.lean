/-
  Plain mathematics for lists of entries; nothing of the program.
-/
import Derived.Test.YtgcimeldofbgkaaM5
namespace Go.Proofs.Ytgcimeldofbgkaa
open Go.RowKit
set_option maxRecDepth 1000000

structure Ent where
  num : Int
  kind : Int
  n : Int
  b : List Int

def Got.ent (g : Got) : Ent := ⟨g.num, g.kind, g.n, g.b⟩

/-- All entries from a place on, behind those that were read. -/
def spF : Nat → List Int → Nat → List Ent → List Ent × Int
  | 0, _, _, acc => (acc, 0)
  | f + 1, xs, p, acc => if xs.length ≤ p then (acc, 0) else if (ge xs p).err ≠ 0 then ([], (ge xs p).err) else spF f xs (ge xs p).next.toNat (acc ++ [(ge xs p).ent])
def sp (xs : List Int) : List Ent × Int := spF (xs.length + 1) xs 0 []

theorem spF_end {f p : Nat} {xs : List Int} {acc : List Ent} (h : xs.length ≤ p) : spF f xs p acc = (acc, 0) := by
  cases f with
  | zero => rfl
  | succ f => rw [spF, if_pos h]
theorem spF_err {f p : Nat} {xs : List Int} {acc : List Ent} (h : p < xs.length) (hf : xs.length < p + f) (he : ((ge xs p).err != 0) = true) : spF f xs p acc = ([], (ge xs p).err) := by
  cases f with
  | zero => omega
  | succ f => rw [spF, if_neg (by omega), if_pos (by simpa using he)]
theorem spF_more {f p : Nat} {xs : List Int} {acc : List Ent} (h : p < xs.length) (hf : xs.length < p + f) (he : ((ge xs p).err != 0) = false) : spF f xs p acc = spF (f - 1) xs (ge xs p).next.toNat (acc ++ [(ge xs p).ent]) := by
  cases f with
  | zero => omega
  | succ f => rw [spF, if_neg (by omega), if_neg (by simpa using he)]; rfl

/-- All entries' bytes, behind those that were written. -/
def jnF : List Ent → List Int → List Int × Int
  | [], acc => (acc, 0)
  | x :: r, acc => if ef x.num x.kind x.n x.b.length ≠ 0 then ([], ef x.num x.kind x.n x.b.length) else jnF r (acc ++ pe x.num x.kind x.n x.b)
def jn (l : List Ent) : List Int × Int := jnF l []
theorem jnF_err {x : Ent} {r : List Ent} {acc : List Int} (h : (ef x.num x.kind x.n x.b.length != 0) = true) : jnF (x :: r) acc = ([], ef x.num x.kind x.n x.b.length) := by rw [jnF, if_pos (by simpa using h)]
theorem jnF_more {x : Ent} {r : List Ent} {acc : List Int} (h : (ef x.num x.kind x.n x.b.length != 0) = false) : jnF (x :: r) acc = jnF r (acc ++ pe x.num x.kind x.n x.b) := by rw [jnF, if_neg (by simpa using h)]

/-- How many bytes all entries' own bytes are. -/
def bulk : List Ent → Nat
  | [] => 0
  | x :: r => 20 + x.b.length + bulk r
theorem jnF_len : ∀ (l : List Ent) (acc : List Int), (jnF l acc).1.length ≤ acc.length + bulk l
  | [], acc => by simp [jnF]
  | x :: r, acc => by
    cases h : (ef x.num x.kind x.n x.b.length != 0) with
    | true => rw [jnF_err h]; simp
    | false =>
      rw [jnF_more h]
      have := jnF_len r (acc ++ pe x.num x.kind x.n x.b)
      have := pe_len (num := x.num) (kind := x.kind) (n := x.n) (ys := x.b)
      simp [bulk] at *
      omega
theorem bulk_drop (l : List Ent) (k : Nat) : bulk (l.drop k) ≤ bulk l := by
  induction l generalizing k with
  | nil => simp [bulk]
  | cons x r ih =>
    cases k with
    | zero => simp
    | succ k => simp [bulk]; have := ih k; omega
end Go.Proofs.Ytgcimeldofbgkaa
