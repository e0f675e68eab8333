/-
  Walks over quoting, the program's.
-/
import Derived.Test.YtiipbamckbeheaaQC
import Derived.Deep.RegionLaw
namespace Go.Proofs.Ytiipbamckbeheaa
open Go.RowKit

/-- An append whose run is known, as one step of a region that draws its order. -/
theorem step_append_ran {P : Program} {ops : Array Oper} {o : Oper} {a : Act} {w : World} {K : Act → World → Prop} {Q : Exit → Act → World → Prop} {E : Prop}
    (hg : o.guard = none) (s x : Operand) (t ty : TypeId) (hop : o.op = Op.call { callee := Callee.builtin Builtin.append, args := #[s, x], argTypes := #[t, t] }) (hty : o.type = ty)
    (v xv v' : Value) (w' : World) (hs : a.eval s = v) (hx : a.eval x = xv) (hr : (Builtin.append_ #[t, t] ty #[v, xv]).run P w = .ok v' w') (hK : K (a.put o.dst v') w') :
    if Region.wanted o (yielded ops a.tmps) = true then Oper.wp P o a w K Q else E := by
  have hw : Region.wanted o (yielded ops a.tmps) = true := by simp [Region.wanted, hg]
  rw [if_pos hw]
  subst hty
  unfold Oper.wp
  simp [execOp, hop, resolve, invoke, builtin, hs, hx, hr, Result.andThen]
  exact hK

/-- Bytes that have just been laid in a block of their own, appended. -/
theorem own_kept_drew {w : World} {base e size n : Nat} {v : Value} {xs : List Value} (h : w.ownsRow base e size v n xs) : w.drew.ownsRow base e size v n xs := own_kept h ⟨rfl, rfl, rfl, Nat.le_refl _, fun _ _ => rfl⟩
theorem append_row (ys : List Int) (base : Nat) (v : Value) (n : Nat) (xs : List Value) (w : World) (hb : ∀ x ∈ ys, 0 ≤ x ∧ x ≤ 255) (hown : w.ownsRow base 5 1 v n xs) (hbase : base ≤ w.heap.size) (hn : n + ys.length ≤ 140737488355328) :
    ∃ v' w', (Builtin.append_ #[22, 22] 22 #[v, .slice (some ⟨w.heap.size, 0, none⟩) ys.length ys.length]).run Try.prog (w.alloc (.cells (ys.map (Value.int .u8)).toArray 5)) = .ok v' w' ∧ w'.ownsRow base 5 1 v' (n + ys.length) (xs ++ ys.map (Value.int .u8)) ∧ Grow w w' v v' := by
  obtain ⟨v', w', h1, h2, h3⟩ := append_bytes base v n xs (w.alloc (.cells (ys.map (Value.int .u8)).toArray 5)) _ _ _ ys (hown.alloc _) (by simp; omega) (reads_new w ys hb (by omega)) hn
  exact ⟨v', w', h1, h2, ((Grow.refl w v).alloc _).trans h3⟩

/-- The signs of the digits. -/
theorem sign_at (i : Int) (h0 : 0 ≤ i) (h1 : i < 16) (W : World) : (Instr.index 9 (.string ⟨#[48, 49, 50, 51, 52, 53, 54, 55, 56, 57, 97, 98, 99, 100, 101, 102]⟩) (.int .u8 i)).run Try.prog W = .ok (.int .u8 (dg i)) W := by
  rw [run_index_string W 9 _ .u8 i Try.underlying9, dif_pos ⟨h0, h1⟩]
  obtain ⟨k, rfl⟩ := Int.eq_ofNat_of_zero_le h0
  have hk : k < 16 := by omega
  have key : ∀ k : Fin 16, (((⟨#[48, 49, 50, 51, 52, 53, 54, 55, 56, 57, 97, 98, 99, 100, 101, 102]⟩ : ByteArray)[k.val]'k.isLt).toNat : Int) = dg k.val := by decide
  have := key ⟨k, hk⟩
  simp only at this
  simp only [Int.toNat_natCast]
  rw [this]
theorem and15 (c : Int) (h0 : 0 ≤ c) (h1 : c ≤ 255) : bits .and .u8 c 15 = c % 16 := bits_mask .u8 8 (by decide) wraps_u8 4 (by decide) c h0 (by omega)

/-- What addPart is told, and what it answers. -/
def Added (base : Nat) (v : Value) (n : Nat) (xs : List Value) (w : World) (ys : List Int) (e : Ending) (w' : World) : Prop :=
  ∃ v', e = .returned v' ∧ w'.ownsRow base 5 1 v' (n + ys.length) (xs ++ ys.map (Value.int .u8)) ∧ Grow w w' v v'

set_option maxHeartbeats 1000000 in
theorem addPartW (base : Nat) (v : Value) (n : Nat) (xs : List Value) (c : Int) (w : World) (hown : w.ownsRow base 5 1 v n xs) (hbase : base ≤ w.heap.size) (hn : n + 4 ≤ 140737488355328) (h0 : 0 ≤ c) (h1 : c ≤ 255) :
    Calls Try.prog 18 #[v, .int .u8 c] w fun e w' => Added base v n xs w (qp c) e w' := by
  by_cases hq : c = 34 ∨ c = 92
  · have e : qp c = [92, c] := by unfold qp; rw [if_pos hq]
    rw [e]
    obtain ⟨v', w3, hr, ho, hg⟩ := append_row [92, c] base v n xs w (by simp; omega) hown hbase (by simp; omega)
    have HR := hid hr
    clear hr hown
    rcases hq with rfl | rfl
    all_goals
      go_enter Try.func18, Try.ntmps18
      go_wp2_with (first | (at_builtin; refine wpList_append_ran rfl _ _ 22 22 rfl rfl _ _ v' w3 rfl rfl HR.out ?_))
      go_ret
      exact ⟨v', rfl, ho, hg⟩
  by_cases hnl : c = 10
  · subst hnl
    obtain ⟨v', w3, hr, ho, hg⟩ := append_row [92, 110] base v n xs w (by simp) hown hbase (by simp; omega)
    have HR := hid hr
    clear hr hown hq
    go_enter Try.func18, Try.ntmps18
    go_wp2_with (first | (at_builtin; refine wpList_append_ran rfl _ _ 22 22 rfl rfl _ _ v' w3 rfl rfl HR.out ?_))
    go_ret
    exact ⟨v', rfl, ho, hg⟩
  by_cases htb : c = 9
  · subst htb
    obtain ⟨v', w3, hr, ho, hg⟩ := append_row [92, 116] base v n xs w (by simp) hown hbase (by simp; omega)
    have HR := hid hr
    clear hr hown hq
    go_enter Try.func18, Try.ntmps18
    go_wp2_with (first | (at_builtin; refine wpList_append_ran rfl _ _ 22 22 rfl rfl _ _ v' w3 rfl rfl HR.out ?_))
    go_ret
    exact ⟨v', rfl, ho, hg⟩
  by_cases hcr : c = 13
  · subst hcr
    obtain ⟨v', w3, hr, ho, hg⟩ := append_row [92, 114] base v n xs w (by simp) hown hbase (by simp; omega)
    have HR := hid hr
    clear hr hown hq
    go_enter Try.func18, Try.ntmps18
    go_wp2_with (first | (at_builtin; refine wpList_append_ran rfl _ _ 22 22 rfl rfl _ _ v' w3 rfl rfl HR.out ?_))
    go_ret
    exact ⟨v', rfl, ho, hg⟩
  have b1 : (c == 34) = false := by simp at hq ⊢; omega
  have b2 : (c == 92) = false := by simp at hq ⊢; omega
  have b3 : (c == 10) = false := by simpa using hnl
  have b4 : (c == 9) = false := by simpa using htb
  have b5 : (c == 13) = false := by simpa using hcr
  by_cases hx : c < 32 ∨ 126 < c
  · have e : qp c = [92, 120, dg (c / 16), dg (c % 16)] := by unfold qp; rw [if_neg hq, if_neg hnl, if_neg htb, if_neg hcr, if_pos hx]
    rw [e]
    have hdr : Below w.heap.size w w.drew := ⟨rfl, rfl, rfl, Nat.le_refl _, fun _ _ => rfl⟩
    obtain ⟨v', w3, hr, ho, hg⟩ := append_row [92, 120, dg (c / 16), dg (c % 16)] base v n xs w.drew (by simp [dg]; repeat' split <;> omega) (own_kept hown hdr) hbase (by simp; omega)
    have HR := hid hr
    have a1 := and15 c h0 h1
    have i1 := sign_at (c / 16) (by omega) (by omega)
    have i2 := sign_at (c % 16) (by omega) (by omega)
    have hg' := (Grow.ofBelow (v := v) hdr).trans hg
    clear hr hown hq e hnl htb hcr hg hdr
    rcases hx with hx | hx
    all_goals
      go_enter Try.func18, Try.ntmps18
      go_wp2_with fail
      go_region_law (refine step_append_ran rfl _ _ 22 22 rfl rfl _ _ v' w3 rfl rfl HR.out ?_)
      all_goals (try go_wp2)
      all_goals
        go_ret
        exact ⟨v', rfl, ho, hg'⟩
  · have e : qp c = [c] := by unfold qp; rw [if_neg hq, if_neg hnl, if_neg htb, if_neg hcr, if_neg hx]
    rw [e]
    obtain ⟨v', w3, hr, ho, hg⟩ := append_row [c] base v n xs w (by simp; omega) hown hbase (by simp; omega)
    have HR := hid hr
    have x1 : ¬ c < 32 := fun h => hx (.inl h)
    have x2 : ¬ 126 < c := fun h => hx (.inr h)
    clear hr hown hq e hnl htb hcr hx
    go_enter Try.func18, Try.ntmps18
    go_wp2_with (first | (at_builtin; refine wpList_append_ran rfl _ _ 22 22 rfl rfl _ _ v' w3 rfl rfl HR.out ?_))
    go_ret
    exact ⟨v', rfl, ho, hg⟩
end Go.Proofs.Ytiipbamckbeheaa
