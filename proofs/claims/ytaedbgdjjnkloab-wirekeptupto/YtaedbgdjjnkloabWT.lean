/-
  Lists of entries that a call has built; the walks over Split, the program's and the document's.
-/
import Derived.Test.YtaedbgdjjnkloabWS
namespace Go.Proofs.Ytaedbgdjjnkloab
open Go.RowKit

/-- The cells of a row of entries, each with the value of its bytes. -/
def flat : List (Ent × Value) → List Value
  | [] => []
  | x :: r => .int .i64 x.1.num :: .int .i64 x.1.kind :: .int .u64 x.1.n :: x.2 :: flat r
theorem flat_append : ∀ (l r : List (Ent × Value)), flat (l ++ r) = flat l ++ flat r
  | [], r => rfl
  | x :: l, r => by simp [flat, flat_append l r]
theorem flat_length : ∀ (l : List (Ent × Value)), (flat l).length = l.length * 4
  | [] => rfl
  | x :: l => by simp [flat, flat_length l]; omega
theorem flat_get : ∀ (l : List (Ent × Value)) (i : Nat) (x : Ent) (v : Value), l[i]? = some (x, v) → (flat l)[i * 4]? = some (.int .i64 x.num) ∧ (flat l)[i * 4 + 1]? = some (.int .i64 x.kind) ∧ (flat l)[i * 4 + 2]? = some (.int .u64 x.n) ∧ (flat l)[i * 4 + 3]? = some v
  | [], i, x, v, h => by simp at h
  | y :: l, 0, x, v, h => by simp at h; subst h; simp [flat]
  | y :: l, i + 1, x, v, h => by
    have h' : l[i]? = some (x, v) := by simpa using h
    have := flat_get l i x v h'
    simp only [flat]
    rw [show (i + 1) * 4 = i * 4 + 4 by omega, show i * 4 + 4 + 1 = i * 4 + 1 + 4 by omega, show i * 4 + 4 + 2 = i * 4 + 2 + 4 by omega, show i * 4 + 4 + 3 = i * 4 + 3 + 4 by omega]
    simpa using this

/-- A list of entries that a call has built: the row, and each entry's bytes. -/
structure OwnL (w : World) (base : Nat) (v : Value) (es : List (Ent × Value)) : Prop where
  row : w.ownsRow base 37 4 v es.length (flat es)
  each : ∀ x ∈ es, w.ownsRow base 5 1 x.2 x.1.b.length (x.1.b.map (Value.int .u8))

theorem own_other {w w' : World} {base base' e e' size size' n n' : Nat} {u l l' : Value} {xs ys : List Value} (h : w.ownsRow base e size u n xs) (hl : w.ownsRow base' e' size' l n' ys) (hne : e ≠ e') (g : Grow w w' l l') : w'.ownsRow base e size u n xs := by
  refine ⟨h.1, ?_⟩
  rcases h.2 with hn | ⟨k, cap, cur, rfl, hb, hk, rest⟩
  · exact .inl hn
  · refine .inr ⟨k, cap, cur, rfl, hb, ?_, rest⟩
    rw [g.block k (Array.getElem?_eq_some_iff.1 hk).1 ?_]
    · exact hk
    · intro e1
      rcases hl.2 with ⟨rfl, _⟩ | ⟨k', cap', cur', rfl, _, hk', _⟩
      · simp [Value.ownBlock] at e1
      · simp [Value.ownBlock] at e1
        subst e1
        rw [hk] at hk'
        simp at hk'
        exact hne hk'.2
theorem OwnL.kept {w w' : World} {base : Nat} {v : Value} {es : List (Ent × Value)} (h : OwnL w base v es) (hb : Below w.heap.size w w') : OwnL w' base v es :=
  ⟨own_kept h.row hb, fun x hx => own_kept (h.each x hx) hb⟩
theorem OwnL.nil (w : World) (base : Nat) : OwnL w base (.slice none 0 0) [] := ⟨World.ownsRow_nil _ _ _ _, by simp⟩

theorem Try.info37 : (Try.prog.info? 37).map (fun i => (i.zero, i.size, i.bytes)) = some (some (.agg #[.int .i64 0, .int .i64 0, .int .u64 0, .slice none 0 0]), 4, 48) := by kernel_rfl

theorem cell_four_new (w : World) (x0 x1 x2 x3 : Value) (t : TypeId) : ∀ j u, [x0, x1, x2, x3][j]? = some u → (w.alloc (.cells #[x0, x1, x2, x3] t)).cell? ((⟨w.heap.size, 0, none⟩ : Addr).add j) = some u := by
  intro j u h
  have hadd : (⟨w.heap.size, 0, none⟩ : Addr).add j = ⟨w.heap.size, j, none⟩ := by unfold Addr.add; split <;> simp_all
  rw [hadd, World.cell?_alloc_at _ _ _ _ rfl]
  simpa using h

/-- One entry more, laid in a block of its own first. -/
theorem append_entry (base : Nat) (l : Value) (es : List (Ent × Value)) (w : World) (x : Ent) (a : Option Addr) (c : Nat) (h : OwnL w base l es) (hb : base ≤ w.heap.size) (hn : (es.length + 1) * 48 ≤ 140737488355328) (ho : w.ownsRow base 5 1 (.slice a x.b.length c) x.b.length (x.b.map (Value.int .u8))) :
    ∃ l' w', (Builtin.append_ #[22, 22] 22 #[l, .slice (some ⟨w.heap.size, 0, none⟩) 1 1]).run Try.prog (w.alloc (.cells #[.int .i64 x.num, .int .i64 x.kind, .int .u64 x.n, .slice a x.b.length c] 37)) = .ok l' w' ∧ OwnL w' base l' (es ++ [(x, .slice a x.b.length c)]) ∧ Grow w w' l l' := by
  obtain ⟨i0, hi, hz0, hz1, hz2⟩ := info_parts Try.info37
  obtain ⟨l', w', hr, hol, hg⟩ := run_append_mine (P := Try.prog) (w.alloc (.cells #[.int .i64 x.num, .int .i64 x.kind, .int .u64 x.n, .slice a x.b.length c] 37)) base 22 22 37 i0 (.agg #[.int .i64 0, .int .i64 0, .int .u64 0, .slice none 0 0]) 4 48 Try.underlying22 hi hz0 hz1 hz2 rfl (by decide) l es.length (flat es) (h.row.alloc _) ⟨w.heap.size, 0, none⟩ 1 1 [.int .i64 x.num, .int .i64 x.kind, .int .u64 x.n, .slice a x.b.length c] rfl (cell_four_new _ _ _ _ _ _) (fun u hu => by simp at hu; rcases hu with rfl | rfl | rfl | rfl <;> rfl) (by unfold maxLen; omega) hn (by simp; omega)
  refine ⟨l', w', hr, ⟨?_, fun y hy => ?_⟩, ((Grow.refl w l).alloc _).trans hg⟩
  · rw [flat_append, List.length_append]; exact hol
  · have hy' : w.ownsRow base 5 1 y.2 y.1.b.length (y.1.b.map (Value.int .u8)) := by
      rcases List.mem_append.1 hy with h1 | h1
      · exact h.each y h1
      · simp at h1; subst h1; exact ho
    exact own_other (hy'.alloc _) (h.row.alloc _) (by decide) hg

set_option maxHeartbeats 400000 in
theorem splitW (a : Option Addr) (len cap : Nat) (xs : List Int) (w : World) (h : Reads w a len cap xs) (hreach : len * 48 ≤ 140737488355280) :
    Calls Try.prog 7 #[.slice a len cap] w fun e w' => ∃ v es, e = .returned (.tuple #[v, .int .i64 (sp xs).2]) ∧ es.map Prod.fst = (sp xs).1 ∧ OwnL w' w.heap.size v es ∧ Below w.heap.size w w' := by
  have HR := hid h
  have hlen := hid h.length
  have HBD := hid (bd_mem h.bd)
  clear h
  go_enter Try.func7, Try.ntmps7
  go_wp2
  go_loopw [4, 5] (fun l r wr => ∃ (p f : Nat) (es : List (Ent × Value)), p ≤ len ∧ len < p + f ∧ es.length ≤ p ∧ r = .int .i64 p ∧ OwnL wr w.heap.size l es ∧ Below w.heap.size w wr ∧ Hid (sp xs = spF f xs p (es.map Prod.fst))) (fun _ r _ => len - (intOf r).toNat)
  case atStart => exact ⟨0, len + 1, [], by omega, by omega, by simp, rfl, OwnL.nil _ _, Below.refl _ _, by show _ = _; rw [sp, hlen.out]; rfl⟩
  case round =>
    obtain ⟨p, f, es, hp, hpf, hel, rfl, ho, hbw, HS⟩ := hrel
    by_cases hlt : p < len
    · have hE := getEntryW a len cap p xs wr (reads_kept HR.out hbw) hp (by omega)
      have hnx := ge_next HBD.out (p := p) (by rw [hlen.out]; exact hp)
      have HM := hid (spF_more (f := f) (p := p) (xs := xs) (acc := es.map Prod.fst) (by rw [hlen.out]; exact hlt) (by rw [hlen.out]; exact hpf))
      have HN := hid (spF_err (f := f) (p := p) (xs := xs) (acc := es.map Prod.fst) (by rw [hlen.out]; exact hlt) (by rw [hlen.out]; exact hpf))
      have HO := hid ho
      have HBW := hid hbw
      have hsz := hbw.size
      clear ho hbw
      generalize ge xs p = g at hE hnx HM HN
      obtain ⟨gnum, gkind, gn, gb, gnx, ger⟩ := g
      have HE := hid hE
      have HX := hid hnx
      clear hE hnx
      cases he : (ger != 0) with
      | true =>
        go_wp2_with fail
        refine HE.out.mono ?_
        rintro e w1 ⟨v1, rfl, ho1, hb1⟩
        obtain ⟨b1, c1, rfl⟩ := own_shape ho1
        have HB1 := hid hb1
        clear hb1 ho1
        go_wp2
        go_ret2
        have e1 : sp xs = ([], ger) := by rw [HS.out]; exact HN.out he
        exact ⟨_, [], by rw [e1]; rfl, by rw [e1]; rfl, OwnL.nil _ _, below_trans (below_trans HBW.out HB1.out) (below_alloc _)⟩
      | false =>
        have he0 : ger = 0 := by simpa using he
        subst he0
        clear he
        obtain ⟨hx1, hx2⟩ := HX.out rfl
        simp only [] at hx1 hx2
        obtain ⟨q, rfl⟩ := Int.eq_ofNat_of_zero_le (show 0 ≤ gnx by omega)
        have hx2' : q ≤ len := by have := hlen.out; omega
        go_wp2_with fail
        refine HE.out.mono ?_
        rintro e w1 ⟨v1, rfl, ho1, hb1⟩
        obtain ⟨b1, c1, rfl⟩ := own_shape ho1
        have hs1 := hb1.size
        obtain ⟨l', w3, hrun, hown', hg'⟩ := append_entry w.heap.size _ es (w1.alloc (.cells #[.int .i64 gnum, .int .i64 gkind, .int .u64 gn, .slice b1 gb.length c1] 37)) ⟨gnum, gkind, gn, gb⟩ b1 c1 ((HO.out.kept hb1).kept (below_alloc _)) (by simp; omega) (by omega) ((own_mono ho1 (by omega)).alloc _)
        dsimp only at hrun
        simp only [World.size_alloc] at hrun
        have HRUN := hid hrun
        have HB1 := hid (below_trans (below_trans HBW.out hb1) (below_alloc (.cells #[.int .i64 gnum, .int .i64 gkind, .int .u64 gn, .slice b1 gb.length c1] 37)))
        have HLT := hid (fun k hk => ((HO.out.kept hb1).kept (below_alloc (.cells #[.int .i64 gnum, .int .i64 gkind, .int .u64 gn, .slice b1 gb.length c1] 37))).row.lt k hk)
        clear hrun hb1 ho1
        go_wp2_with (first | (at_builtin; refine wpList_append_ran rfl _ _ 22 22 rfl rfl _ _ l' w3 rfl rfl HRUN.out ?_))
        refine ⟨⟨q, f - 1, es ++ [(⟨gnum, gkind, gn, gb⟩, .slice b1 gb.length c1)], hx2', by omega, by simp; omega, rfl, hown', HB1.out.trans (hg'.below (by simp; omega) (fun k hk => (HLT.out k hk).1)), ?_⟩, by simp [intOf]; omega⟩
        show _ = _
        rw [HS.out, HM.out rfl]
        simp [Got.ent]
    · obtain rfl : p = len := by omega
      go_wp2
      go_ret2
      have e1 : sp xs = (es.map Prod.fst, 0) := by rw [HS.out]; exact spF_end (by rw [hlen.out]; exact Nat.le_refl _)
      exact ⟨_, es, by rw [e1]; rfl, by rw [e1], ho, hbw⟩

end Go.Proofs.Ytaedbgdjjnkloab
