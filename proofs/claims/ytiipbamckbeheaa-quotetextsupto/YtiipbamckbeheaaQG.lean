/-
  Walks over the document's Quote.
-/
import Derived.Test.YtiipbamckbeheaaQF
namespace Go.Proofs.Ytiipbamckbeheaa
open Go.RowKit

theorem digitR (n : Int) (w : World) (h0 : 0 ≤ n) (h1 : n < 16) : Calls Try.prog 19 #[.int .i64 n] w fun e w' => e = .returned (.int .u8 (dg n)) ∧ w = w' := by
  by_cases h : n < 10
  · have H : Hid (48 + n = dg n) := hid (by unfold dg; rw [if_pos h])
    have hm : (48 + n) % 256 = 48 + n := by omega
    go_enter Try.func19, Try.ntmps19
    go_wp2
    go_ret
    exact ⟨ret_int H.out, rfl⟩
  · have H : Hid (87 + n = dg n) := hid (by unfold dg; rw [if_neg h])
    have hm : (87 + n) % 256 = 87 + n := by omega
    go_enter Try.func19, Try.ntmps19
    go_wp2
    go_ret
    exact ⟨ret_int H.out, rfl⟩

theorem own_one (W : World) (x : Int) : (W.alloc (.cells #[.int .u8 x] 5)).ownsRow W.heap.size 5 1 (.slice (some ⟨W.heap.size, 0, none⟩) 1 1) 1 (([x] : List Int).map (Value.int .u8)) :=
  ⟨rfl, .inr ⟨W.heap.size, 1, #[.int .u8 x], rfl, Nat.le_refl _, heap_alloc_new W _, Nat.le_refl _, by unfold maxLen; omega, rfl, rfl⟩⟩

/-- How far the loop is. -/
def Quoting (w : World) (xs : List Int) (len : Nat) (o r : Value) (wr : World) : Prop := ∃ (k n : Nat) (ps : List Int), k ≤ len ∧ r = .int .i64 k ∧ n ≤ 1 + 4 * k ∧ Hid (ps.length = n) ∧ Hid (wr.ownsRow w.heap.size 5 1 o n (ps.map (Value.int .u8))) ∧ Hid (ps = 34 :: (xs.take k).flatMap qp) ∧ Hid (Below w.heap.size w wr)
theorem quote_next {w wr w' : World} {xs ps : List Int} {len k n : Nat} {o o' : Value} {c : Int} (_hk : k ≤ len) (hn : n ≤ 1 + 4 * k) (HN : ps.length = n) (HO : wr.ownsRow w.heap.size 5 1 o n (ps.map (Value.int .u8))) (HP : ps = 34 :: (xs.take k).flatMap qp) (HB : Below w.heap.size w wr)
    (hx : k < xs.length) (hlt : k < len) (hcc : xs[k]?.getD 0 = c) (ho' : w'.ownsRow w.heap.size 5 1 o' (n + (qp c).length) (ps.map (Value.int .u8) ++ (qp c).map (Value.int .u8))) (hg' : Grow wr w' o o') : Quoting w xs len o' (.int .i64 ((k : Int) + 1)) w' := by
  have hq := qp_len c
  refine ⟨k + 1, n + (qp c).length, ps ++ qp c, by omega, rfl, by omega, hid (by rw [List.length_append, HN]), hid (by rw [List.map_append]; exact ho'), hid ?_, hid (HB.trans (hg'.below HB.size (fun j hj => (HO.lt j hj).1)))⟩
  rw [flat_snoc hx, hcc, HP]
  rfl

set_option maxRecDepth 1000000 in
set_option maxHeartbeats 4000000 in
theorem refQuoteR (a : Option Addr) (len cap : Nat) (xs : List Int) (w : World) (h : Reads w a len cap xs) (hm : len ≤ 1048576) :
    Calls Try.prog 14 #[.slice a len cap] w fun e w' => e = .returned (.string (strOfNums (qt xs))) ∧ Below w.heap.size w w' := by
  have HX := hid h
  have Hl := hid h.length
  have Hb := hid (bd_mem h.bd)
  clear h
  go_enter Try.func14, Try.ntmps14
  go_wp2
  go_loopw [3, 4] (fun o r wr => Quoting w xs len o r wr) (fun _ r _ => len - (intOf r).toNat)
  case atStart => exact ⟨0, 1, [34], by omega, rfl, by omega, hid rfl, hid (own_one w 34), hid rfl, hid (below_alloc _)⟩
  case round =>
    obtain ⟨k, n, ps, hk, rfl, hn, HN, HO, HP, HB⟩ := hrel
    by_cases hlt : k < len
    · rcases HX.out.cells with ⟨h0, _⟩ | ⟨b, off, rfl, hc⟩
      · omega
      obtain ⟨c, hcc⟩ : ∃ c, xs[k]?.getD 0 = c := ⟨_, rfl⟩
      have hcb : 0 ≤ c ∧ c ≤ 255 := by have := HX.out.bd k; rw [List.getD_eq_getElem?_getD, hcc] at this; exact this
      have hck : wr.cell? ⟨b, off + k, none⟩ = some (.int .u8 c) := by
        have h1 := hc k hlt
        rw [List.getD_eq_getElem?_getD, hcc] at h1
        rw [HB.out.cell (p := ⟨b, off + k, none⟩) (World.block_lt_of_cell? _ _ h1)]; exact h1
      have hb0 := hcb.1
      have hb1 := hcb.2
      have Hcc := hid hcc
      clear hcc hcb hc
      have HStep : Hid (∀ (o' : Value) (w' : World), w'.ownsRow w.heap.size 5 1 o' (n + (qp c).length) (ps.map (Value.int .u8) ++ (qp c).map (Value.int .u8)) → Grow wr w' u3 o' → Quoting w xs len o' (.int .i64 ((k : Int) + 1)) w') := hid fun o' w' ho' hg' => quote_next hk hn HN.out HO.out HP.out HB.out (by rw [Hl.out]; exact hlt) hlt Hcc.out ho' hg'
      have hsz := HB.out.size
      by_cases hq : c = 34 ∨ c = 92
      · have e : qp c = [92, c] := by unfold qp; rw [if_pos hq]
        rw [e] at HStep
        obtain ⟨v', w3, hr, ho, hg⟩ := append_row [92, c] w.heap.size u3 n _ wr (by simp; omega) HO.out hsz (by simp; omega)
        have HR := hid hr
        have HS := hid (HStep.out v' w3 ho hg)
        clear hr ho hg HStep e
        rcases hq with rfl | rfl
        all_goals
          go_wp2_with (first | (at_builtin; refine wpList_append_ran rfl _ _ 22 22 rfl rfl _ _ v' w3 rfl rfl HR.out ?_))
          exact ⟨HS.out, by simp [intOf]; omega⟩
      by_cases h10 : c = 10
      · subst h10
        obtain ⟨v', w3, hr, ho, hg⟩ := append_row [92, 110] w.heap.size u3 n _ wr (by simp) HO.out hsz (by simp; omega)
        have HR := hid hr
        have HS := hid (HStep.out v' w3 ho hg)
        clear hr ho hg HStep hq
        go_wp2_with (first | (at_builtin; refine wpList_append_ran rfl _ _ 22 22 rfl rfl _ _ v' w3 rfl rfl HR.out ?_))
        exact ⟨HS.out, by simp [intOf]; omega⟩
      by_cases h9 : c = 9
      · subst h9
        obtain ⟨v', w3, hr, ho, hg⟩ := append_row [92, 116] w.heap.size u3 n _ wr (by simp) HO.out hsz (by simp; omega)
        have HR := hid hr
        have HS := hid (HStep.out v' w3 ho hg)
        clear hr ho hg HStep hq
        go_wp2_with (first | (at_builtin; refine wpList_append_ran rfl _ _ 22 22 rfl rfl _ _ v' w3 rfl rfl HR.out ?_))
        exact ⟨HS.out, by simp [intOf]; omega⟩
      by_cases h13 : c = 13
      · subst h13
        obtain ⟨v', w3, hr, ho, hg⟩ := append_row [92, 114] w.heap.size u3 n _ wr (by simp) HO.out hsz (by simp; omega)
        have HR := hid hr
        have HS := hid (HStep.out v' w3 ho hg)
        clear hr ho hg HStep hq
        go_wp2_with (first | (at_builtin; refine wpList_append_ran rfl _ _ 22 22 rfl rfl _ _ v' w3 rfl rfl HR.out ?_))
        exact ⟨HS.out, by simp [intOf]; omega⟩
      have b1 : (c == 34) = false := by simp at hq ⊢; omega
      have b2 : (c == 92) = false := by simp at hq ⊢; omega
      have b3 : (c == 10) = false := by simpa using h10
      have b4 : (c == 9) = false := by simpa using h9
      have b5 : (c == 13) = false := by simpa using h13
      by_cases hx : c < 32 ∨ 126 < c
      · have e : qp c = [92, 120, dg (c / 16), dg (c % 16)] := by unfold qp; rw [if_neg hq, if_neg h10, if_neg h9, if_neg h13, if_pos hx]
        rw [e] at HStep
        obtain ⟨v', w3, hr, ho, hg⟩ := append_row [92, 120, dg (c / 16), dg (c % 16)] w.heap.size u3 n _ wr (by simp [dg]; repeat' split <;> omega) HO.out hsz (by simp; omega)
        have HR := hid hr
        have HS := hid (HStep.out v' w3 ho hg)
        clear hr ho hg HStep e hq h10 h9 h13
        rcases hx with hx | hx
        all_goals
          go_wp2_with (first
            | (go_at_call 19; refine (digitR _ _ (by omega) (by omega)).mono ?_; rintro e w' ⟨rfl, rfl⟩)
            | (at_builtin; refine wpList_append_ran rfl _ _ 22 22 rfl rfl _ _ v' w3 rfl rfl HR.out ?_))
          exact ⟨HS.out, by simp [intOf]; omega⟩
      · have e : qp c = [c] := by unfold qp; rw [if_neg hq, if_neg h10, if_neg h9, if_neg h13, if_neg hx]
        rw [e] at HStep
        obtain ⟨v', w3, hr, ho, hg⟩ := append_row [c] w.heap.size u3 n _ wr (by simp; omega) HO.out hsz (by simp; omega)
        have HR := hid hr
        have HS := hid (HStep.out v' w3 ho hg)
        have x1 : ¬ c < 32 := fun h => hx (.inl h)
        have x2 : ¬ 126 < c := fun h => hx (.inr h)
        clear hr ho hg HStep e hq h10 h9 h13 hx
        go_wp2_with (first | (at_builtin; refine wpList_append_ran rfl _ _ 22 22 rfl rfl _ _ v' w3 rfl rfl HR.out ?_))
        exact ⟨HS.out, by simp [intOf]; omega⟩
    · obtain rfl : k = len := by omega
      obtain ⟨v3, w3, hr3, ho3, hg3⟩ := append_byte w.heap.size _ n _ wr 34 HO.out HB.out.size (by omega)
      have hb3 : Below w.heap.size w w3 := HB.out.trans (hg3.below HB.out.size (fun j hj => (HO.out.lt j hj).1))
      have hqt : ps ++ [34] = qt xs := by rw [HP.out, ← Hl.out, List.take_length]; rfl
      rw [show ps.map (Value.int .u8) ++ [.int .u8 34] = (qt xs).map (Value.int .u8) by rw [← hqt, List.map_append]; rfl] at ho3
      obtain ⟨a3, c3, rfl, hrd⟩ := own_reads ho3 (qt_bytes Hb.out)
      have hcv := conv hrd
      have HR3 := hid hr3
      have HB3 := hid hb3
      clear hr3 ho3 hg3 hb3 hqt hrd HB
      go_wp2_with (first | (at_builtin; refine wpList_append_ran rfl _ _ 22 22 rfl rfl _ _ _ w3 rfl rfl HR3.out ?_))
      go_ret
      exact ⟨rfl, HB3.out⟩
end Go.Proofs.Ytiipbamckbeheaa
