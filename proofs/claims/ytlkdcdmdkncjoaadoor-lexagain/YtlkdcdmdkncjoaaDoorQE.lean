/-
  Walks over quoting, the program's.
-/
import Derived.Test.YtlkdcdmdkncjoaaDoorQC
import Derived.Deep.RegionLaw
namespace Go.Proofs.YtlkdcdmdkncjoaaDoor
open Go.RowKit
set_option maxRecDepth 1000000

/-- An append whose run is known, as one step of a region that draws its order. -/
theorem step_append_ran {P : Program} {ops : Array Oper} {o : Oper} {a : Act} {w : World} {K : Act → World → Prop} {Q : Exit → Act → World → Prop} {E : Prop}
    (hg : o.guard = none) (s x : Operand) (t ty : TypeId) (hop : o.op = Op.call { callee := Callee.builtin Builtin.append, args := #[s, x], argTypes := #[t, t] }) (hty : o.type = ty)
    (v xv v' : Value) (w' : World) (hs : a.eval s = v) (hx : a.eval x = xv) (hr : (Builtin.append_ #[t, t] ty #[v, xv]).run P w = .ok v' w') (hK : K (a.put o.dst v') w') :
    if Region.wanted o (yielded ops a.tmps) = true then Oper.wp P o a w K Q else E := by
  have hw : Region.wanted o (yielded ops a.tmps) = true := by simp [Region.wanted, hg]
  rw [if_pos hw]
  subst hty
  unfold Oper.wp
  simp [execOp, hop, resolve, invoke, builtin, hs, hx, hr, Result.andThen]
  exact hK

/-- Bytes that have just been laid in a block of their own, appended. -/
theorem own_kept_drew {w : World} {base e size n : Nat} {v : Value} {xs : List Value} (h : w.ownsRow base e size v n xs) : w.drew.ownsRow base e size v n xs := own_kept h ⟨rfl, rfl, rfl, Nat.le_refl _, fun _ _ => rfl⟩
theorem append_row (ys : List Int) (base : Nat) (v : Value) (n : Nat) (xs : List Value) (w : World) (hb : ∀ x ∈ ys, 0 ≤ x ∧ x ≤ 255) (hown : w.ownsRow base 5 1 v n xs) (hbase : base ≤ w.heap.size) (hn : n + ys.length ≤ 140737488355328) :
    ∃ v' w', (Builtin.append_ #[30, 30] 30 #[v, .slice (some ⟨w.heap.size, 0, none⟩) ys.length ys.length]).run Tryd.prog (w.alloc (.cells (ys.map (Value.int .u8)).toArray 5)) = .ok v' w' ∧ w'.ownsRow base 5 1 v' (n + ys.length) (xs ++ ys.map (Value.int .u8)) ∧ Grow w w' v v' := by
  obtain ⟨v', w', h1, h2, h3⟩ := append_bytes base v n xs (w.alloc (.cells (ys.map (Value.int .u8)).toArray 5)) _ _ _ ys (hown.alloc _) (by simp; omega) (reads_new w ys hb (by omega)) hn
  exact ⟨v', w', h1, h2, ((Grow.refl w v).alloc _).trans h3⟩

/-- The signs of the digits. -/
theorem sign_at (i : Int) (h0 : 0 ≤ i) (h1 : i < 16) (W : World) : (Instr.index 9 (.string ⟨#[48, 49, 50, 51, 52, 53, 54, 55, 56, 57, 97, 98, 99, 100, 101, 102]⟩) (.int .u8 i)).run Tryd.prog W = .ok (.int .u8 (dg i)) W := by
  rw [run_index_string W 9 _ .u8 i Tryd.underlying9, dif_pos ⟨h0, h1⟩]
  obtain ⟨k, rfl⟩ := Int.eq_ofNat_of_zero_le h0
  have hk : k < 16 := by omega
  have key : ∀ k : Fin 16, (((⟨#[48, 49, 50, 51, 52, 53, 54, 55, 56, 57, 97, 98, 99, 100, 101, 102]⟩ : ByteArray)[k.val]'k.isLt).toNat : Int) = dg k.val := by decide
  have := key ⟨k, hk⟩
  simp only at this
  simp only [Int.toNat_natCast]
  rw [this]
theorem and15 (c : Int) (h0 : 0 ≤ c) (h1 : c ≤ 255) : bits .and .u8 c 15 = c % 16 := bits_mask .u8 8 (by decide) wraps_u8 4 (by decide) c h0 (by omega)

/-- What addPart is told, and what it answers. -/
def Added (base : Nat) (v : Value) (n : Nat) (xs : List Value) (w : World) (ys : List Int) (e : Ending) (w' : World) : Prop :=
  ∃ v', e = .returned v' ∧ w'.ownsRow base 5 1 v' (n + ys.length) (xs ++ ys.map (Value.int .u8)) ∧ Grow w w' v v'

end Go.Proofs.YtlkdcdmdkncjoaaDoor
