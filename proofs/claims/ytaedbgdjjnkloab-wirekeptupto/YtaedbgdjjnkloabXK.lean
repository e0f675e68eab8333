/-
  Lists of entries whose bytes lie apart; writing into them.
-/
import Derived.Test.YtaedbgdjjnkloabXJ
import Derived.OneCell
namespace Go.Proofs.Ytaedbgdjjnkloab
open Go.RowKit

/-- No two entries' bytes share a block. -/
def Apart (es : List (Ent × Value)) : Prop := ∀ (i j : Nat) (x y : Ent × Value) (k : Nat), i ≠ j → es[i]? = some x → es[j]? = some y → x.2.ownBlock = some k → y.2.ownBlock ≠ some k
theorem apart_nil : Apart [] := fun i j x y k _ h => by simp at h
theorem apart_snoc {es : List (Ent × Value)} {B : Nat} (h : Apart es) (hlt : ∀ x ∈ es, ∀ k, x.2.ownBlock = some k → k < B) (y : Ent × Value) (hy : ∀ k, y.2.ownBlock = some k → B ≤ k) : Apart (es ++ [y]) := by
  intro i j u v k hij hu hv hk hk'
  have last : ∀ i u, (es ++ [y])[i]? = some u → (i < es.length ∧ es[i]? = some u) ∨ (i = es.length ∧ u = y) := by
    intro i u hu
    by_cases hi : i < es.length
    · rw [List.getElem?_append_left hi] at hu; exact .inl ⟨hi, hu⟩
    · rw [List.getElem?_append_right (by omega)] at hu
      have : i - es.length = 0 := by
        rcases Nat.eq_zero_or_pos (i - es.length) with h | h
        · exact h
        · rw [List.getElem?_eq_none (by simp; omega)] at hu; cases hu
      rw [this] at hu
      simp at hu
      exact .inr ⟨by omega, hu.symm⟩
  rcases last i u hu with ⟨hi, hu2⟩ | ⟨hi, rfl⟩
  · rcases last j v hv with ⟨hj, hv⟩ | ⟨hj, rfl⟩
    · exact h i j u v k hij hu2 hv hk hk'
    · have := hlt u (List.mem_of_getElem? hu2) k hk
      have := hy k hk'
      omega
  · rcases last j v hv with ⟨hj, hv⟩ | ⟨hj, rfl⟩
    · have := hlt v (List.mem_of_getElem? hv) k hk'
      have := hy k hk
      omega
    · omega

set_option maxHeartbeats 400000 in
theorem splitA (a : Option Addr) (len cap : Nat) (xs : List Int) (w : World) (h : Reads w a len cap xs) (hreach : len * 48 ≤ 140737488355280) :
    Calls Try.prog 7 #[.slice a len cap] w fun e w' => ∃ v es, e = .returned (.tuple #[v, .int .i64 (sp xs).2]) ∧ es.map Prod.fst = (sp xs).1 ∧ OwnL w' w.heap.size v es ∧ Apart es ∧ Below w.heap.size w w' := by
  have HR := hid h
  have hlen := hid h.length
  have HBD := hid (bd_mem h.bd)
  clear h
  go_enter Try.func7, Try.ntmps7
  go_wp2
  go_loopw [4, 5] (fun l r wr => ∃ (p f : Nat) (es : List (Ent × Value)), p ≤ len ∧ len < p + f ∧ es.length ≤ p ∧ r = .int .i64 p ∧ OwnL wr w.heap.size l es ∧ Hid (Apart es) ∧ Below w.heap.size w wr ∧ Hid (sp xs = spF f xs p (es.map Prod.fst))) (fun _ r _ => len - (intOf r).toNat)
  case atStart => exact ⟨0, len + 1, [], by omega, by omega, by simp, rfl, OwnL.nil _ _, hid apart_nil, Below.refl _ _, by show _ = _; rw [sp, hlen.out]; rfl⟩
  case round =>
    obtain ⟨p, f, es, hp, hpf, hel, rfl, ho, HAP, hbw, HS⟩ := hrel
    by_cases hlt : p < len
    · have hE := getEntryW a len cap p xs wr (reads_kept HR.out hbw) hp (by omega)
      have hnx := ge_next HBD.out (p := p) (by rw [hlen.out]; exact hp)
      have HM := hid (spF_more (f := f) (p := p) (xs := xs) (acc := es.map Prod.fst) (by rw [hlen.out]; exact hlt) (by rw [hlen.out]; exact hpf))
      have HN := hid (spF_err (f := f) (p := p) (xs := xs) (acc := es.map Prod.fst) (by rw [hlen.out]; exact hlt) (by rw [hlen.out]; exact hpf))
      have HO := hid ho
      have HBW := hid hbw
      have hsz := hbw.size
      clear ho hbw
      generalize ge xs p = g at hE hnx HM HN
      obtain ⟨gnum, gkind, gn, gb, gnx, ger⟩ := g
      have HE := hid hE
      have HX := hid hnx
      clear hE hnx
      cases he : (ger != 0) with
      | true =>
        go_wp2_with fail
        refine HE.out.mono ?_
        rintro e w1 ⟨v1, rfl, ho1, hb1⟩
        obtain ⟨b1, c1, rfl⟩ := own_shape ho1
        have HB1 := hid hb1
        clear hb1 ho1
        go_wp2
        go_ret2
        have e1 : sp xs = ([], ger) := by rw [HS.out]; exact HN.out he
        exact ⟨_, [], by rw [e1]; rfl, by rw [e1]; rfl, OwnL.nil _ _, apart_nil, below_trans (below_trans HBW.out HB1.out) (below_alloc _)⟩
      | false =>
        have he0 : ger = 0 := by simpa using he
        subst he0
        clear he
        obtain ⟨hx1, hx2⟩ := HX.out rfl
        simp only [] at hx1 hx2
        obtain ⟨q, rfl⟩ := Int.eq_ofNat_of_zero_le (show 0 ≤ gnx by omega)
        have hx2' : q ≤ len := by have := hlen.out; omega
        go_wp2_with fail
        refine HE.out.mono ?_
        rintro e w1 ⟨v1, rfl, ho1, hb1⟩
        obtain ⟨b1, c1, rfl⟩ := own_shape ho1
        have hs1 := hb1.size
        obtain ⟨l', w3, hrun, hown', hg'⟩ := append_entry w.heap.size _ es (w1.alloc (.cells #[.int .i64 gnum, .int .i64 gkind, .int .u64 gn, .slice b1 gb.length c1] 37)) ⟨gnum, gkind, gn, gb⟩ b1 c1 ((HO.out.kept hb1).kept (below_alloc _)) (by simp; omega) (by omega) ((own_mono ho1 (by omega)).alloc _)
        dsimp only at hrun
        simp only [World.size_alloc] at hrun
        have HRUN := hid hrun
        have HB1 := hid (below_trans (below_trans HBW.out hb1) (below_alloc (.cells #[.int .i64 gnum, .int .i64 gkind, .int .u64 gn, .slice b1 gb.length c1] 37)))
        have HLT := hid (fun k hk => ((HO.out.kept hb1).kept (below_alloc (.cells #[.int .i64 gnum, .int .i64 gkind, .int .u64 gn, .slice b1 gb.length c1] 37))).row.lt k hk)
        have HAP2 := hid (apart_snoc HAP.out (fun x hx k hk => (HO.out.each x hx).lt k hk |>.2) (⟨gnum, gkind, gn, gb⟩, .slice b1 gb.length c1) (fun k hk => (ho1.lt k hk).1))
        clear hrun hb1 ho1
        go_wp2_with (first | (at_builtin; refine wpList_append_ran rfl _ _ 22 22 rfl rfl _ _ l' w3 rfl rfl HRUN.out ?_))
        refine ⟨⟨q, f - 1, es ++ [(⟨gnum, gkind, gn, gb⟩, .slice b1 gb.length c1)], hx2', by omega, by simp; omega, rfl, hown', HAP2, HB1.out.trans (hg'.below (by simp; omega) (fun k hk => (HLT.out k hk).1)), ?_⟩, by simp [intOf]; omega⟩
        show _ = _
        rw [HS.out, HM.out rfl]
        simp [Got.ent]
    · obtain rfl : p = len := by omega
      go_wp2
      go_ret2
      have e1 : sp xs = (es.map Prod.fst, 0) := by rw [HS.out]; exact spF_end (by rw [hlen.out]; exact Nat.le_refl _)
      exact ⟨_, es, by rw [e1]; rfl, by rw [e1], ho, HAP.out, hbw⟩


theorem flat_same : ∀ (es : List (Ent × Value)) (i : Nat) (x : Ent) (v : Value) (b : List Int), es[i]? = some (x, v) → flat (es.set i (⟨x.num, x.kind, x.n, b⟩, v)) = flat es
  | [], i, x, v, b, h => by simp at h
  | y :: r, 0, x, v, b, h => by simp at h; subst h; simp [flat]
  | y :: r, i + 1, x, v, b, h => by
    have h' : r[i]? = some (x, v) := by simpa using h
    simp [flat, flat_same r i x v b h']
theorem flat_set : ∀ (es : List (Ent × Value)) (i : Nat) (x : Ent) (v v' : Value) (b : List Int), es[i]? = some (x, v) → flat (es.set i (⟨x.num, x.kind, x.n, b⟩, v')) = (flat es).set (i * 4 + 3) v'
  | [], i, x, v, v', b, h => by simp at h
  | y :: r, 0, x, v, v', b, h => by simp at h; subst h; simp [flat]
  | y :: r, i + 1, x, v, v', b, h => by
    have h' : r[i]? = some (x, v) := by simpa using h
    rw [show (i + 1) * 4 + 3 = i * 4 + 3 + 4 by omega]
    simp [flat, flat_set r i x v v' b h']

/-- A byte of one entry is written. -/
theorem ownL_byte {w : World} {B : Nat} {lv : Value} {es : List (Ent × Value)} (h : OwnL w B lv es) (ha : Apart es) {i g n c j : Nat} {x : Ent} (hx : es[i]? = some (x, .slice (some ⟨g, 0, none⟩) n c)) (hn : n = x.b.length) (hj : j < n) (u : Int) :
    OwnL (w.setCell ⟨g, j, none⟩ (.int .u8 u)) B lv (es.set i (⟨x.num, x.kind, x.n, x.b.set j u⟩, .slice (some ⟨g, 0, none⟩) n c)) := by
  have hil : i < es.length := (List.getElem?_eq_some_iff.1 hx).1
  have hi := h.each _ (List.mem_of_getElem? hx)
  simp only [] at hi
  have hrb : lv.ownBlock ≠ some g := by
    intro e
    rcases h.row.2 with ⟨rfl, _⟩ | ⟨k, cap, cur, rfl, _, hk, _⟩
    · cases e
    · simp [Value.ownBlock] at e
      subst e
      rcases hi.2 with ⟨e1, _⟩ | ⟨k2, cap2, cur2, e1, _, hk2, _⟩
      · cases e1
      · simp at e1
        obtain ⟨⟨rfl⟩, _⟩ := e1
        rw [hk] at hk2
        simp at hk2
  refine ⟨?_, fun y hy => ?_⟩
  · rw [flat_same es i x _ _ hx, List.length_set]
    exact ownsRow_setCell_other h.row (a := ⟨g, j, none⟩) hrb _
  · obtain ⟨k, hk⟩ := List.getElem?_of_mem hy
    rw [List.getElem?_set] at hk
    split at hk
    · simp at hk
      subst hk
      subst hn
      have := hi.stored j (.int .u8 u)
      simpa [List.map_set] using this.1
    · exact ownsRow_setCell_other (h.each y (List.mem_of_getElem? hk)) (a := ⟨g, j, none⟩) (fun e => ha i k _ y g (by omega) hx hk rfl e) _
theorem apart_set {es : List (Ent × Value)} (ha : Apart es) {i : Nat} {x : Ent} {v v' : Value} (x' : Ent) (hx : es[i]? = some (x, v)) (hv : v'.ownBlock = v.ownBlock ∨ ∀ k, v'.ownBlock = some k → ∀ y ∈ es, y.2.ownBlock ≠ some k) : Apart (es.set i (x', v')) := by
  have hil : i < es.length := (List.getElem?_eq_some_iff.1 hx).1
  have cases2 : ∀ j u, (es.set i (x', v'))[j]? = some u → (j = i ∧ u = (x', v')) ∨ (j ≠ i ∧ es[j]? = some u) := by
    intro j u hu
    rw [List.getElem?_set] at hu
    split at hu
    · simp at hu; exact .inl ⟨by omega, hu.symm⟩
    · exact .inr ⟨by omega, hu⟩
  intro a b u y k hab hu hy hk hk'
  rcases cases2 a u hu with ⟨rfl, rfl⟩ | ⟨h1, hu2⟩
  · rcases cases2 b y hy with ⟨rfl, rfl⟩ | ⟨h2, hy⟩
    · omega
    · rcases hv with hv | hv
      · simp only [] at hk; rw [hv] at hk; exact ha a b _ y k hab hx hy hk hk'
      · exact hv k hk y (List.mem_of_getElem? hy) hk'
  · rcases cases2 b y hy with ⟨rfl, rfl⟩ | ⟨h2, hy⟩
    · rcases hv with hv | hv
      · simp only [] at hk'; rw [hv] at hk'; exact ha a b u _ k hab hu2 hx hk hk'
      · exact hv k hk' u (List.mem_of_getElem? hu2) hk
    · exact ha a b u y k hab hu2 hy hk hk'
end Go.Proofs.Ytaedbgdjjnkloab
