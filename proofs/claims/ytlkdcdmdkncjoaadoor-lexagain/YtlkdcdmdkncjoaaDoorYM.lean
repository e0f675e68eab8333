/-
  The program's Split.
-/
import Derived.Test.YtlkdcdmdkncjoaaDoorYL
namespace Go.Proofs.YtlkdcdmdkncjoaaDoor
open Go.RowKit
set_option maxRecDepth 1000000
set_option maxHeartbeats 4000000
set_option linter.unusedVariables false

/-- A slice of words that can be read. -/
structure ReadsW (w : World) (a : Option Addr) (len cap : Nat) (ms : List Mw) : Prop where
  length : ms.length = len
  le : len ≤ cap
  max : cap ≤ 9223372036854775807
  cells : (len = 0 ∧ (a = none → cap = 0)) ∨ ∃ b off, a = some ⟨b, off, none⟩ ∧ ∀ i x, ms[i]? = some x → ∃ sa sc,
    w.cell? ⟨b, off + i * 6, none⟩ = some (.int .i64 x.kind) ∧ w.cell? ⟨b, off + i * 6 + 1, none⟩ = some (.string (strOfNums x.s)) ∧ w.cell? ⟨b, off + i * 6 + 2, none⟩ = some (.int .u64 x.n) ∧ w.cell? ⟨b, off + i * 6 + 3, none⟩ = some (.slice sa x.b.length sc) ∧
    w.cell? ⟨b, off + i * 6 + 4, none⟩ = some (.int .i64 x.line) ∧ w.cell? ⟨b, off + i * 6 + 5, none⟩ = some (.int .i64 x.col) ∧ Reads w sa x.b.length sc x.b
theorem readsW_kept {w w' : World} {a : Option Addr} {len cap : Nat} {ms : List Mw} (h : ReadsW w a len cap ms) (hb : Below w.heap.size w w') : ReadsW w' a len cap ms := by
  refine ⟨h.length, h.le, h.max, ?_⟩
  rcases h.cells with h0 | ⟨b, off, rfl, hc⟩
  · exact .inl h0
  · refine .inr ⟨b, off, rfl, fun i x hx => ?_⟩
    obtain ⟨sa, sc, c0, c1, c2, c3, c4, c5, hr⟩ := hc i x hx
    have hk : ∀ o, w'.cell? ⟨b, o, none⟩ = w.cell? ⟨b, o, none⟩ := fun o => hb.cell (p := ⟨b, o, none⟩) (World.block_lt_of_cell? _ ⟨b, off + i * 6, none⟩ c0)
    exact ⟨sa, sc, (hk _).trans c0, (hk _).trans c1, (hk _).trans c2, (hk _).trans c3, (hk _).trans c4, (hk _).trans c5, reads_kept hr hb⟩
theorem readsW_nil (w : World) : ReadsW w none 0 0 [] := ⟨rfl, Nat.le_refl _, by omega, .inl ⟨rfl, fun _ => rfl⟩⟩
theorem kp_reads {w : World} {base p : Nat} {t : TypeId} {v : Value} {ws : List (Mw × Value)} (h : Kp w base p t v ws) : ∃ a c, v = .slice a ws.length c ∧ ReadsW w a ws.length c (ws.map Prod.fst) := by
  rcases h.row.2 with ⟨rfl, h0⟩ | ⟨g, cap, cur, rfl, hbg, hgg, hnc, hcm, hcs, htake⟩
  · rw [h0]
    exact ⟨none, 0, rfl, by simp [h0], Nat.le_refl _, by omega, .inl ⟨rfl, fun _ => rfl⟩⟩
  · refine ⟨_, cap, rfl, by simp, hnc, by unfold maxLen at hcm; omega, .inr ⟨g, 0, rfl, fun i x hx => ?_⟩⟩
    rw [List.getElem?_map] at hx
    cases hy : ws[i]? with
    | none => rw [hy] at hx; cases hx
    | some y =>
      rw [hy] at hx
      simp at hx
      obtain ⟨x', u⟩ := y
      simp at hx
      subst hx
      obtain ⟨f0, f1, f2, f3, f4, f5⟩ := flatW_get ws i x' u hy
      obtain ⟨sa, sc, hu, hr, _⟩ := h.each _ (List.mem_of_getElem? hy)
      simp only [] at hu hr
      subst hu
      have hadd : ∀ j, (⟨g, 0, none⟩ : Addr).add j = ⟨g, 0 + j, none⟩ := fun j => by unfold Addr.add; split <;> simp_all
      have hcell : ∀ j u, (flatW ws)[j]? = some u → w.cell? ⟨g, 0 + j, none⟩ = some u := fun j u hu => by rw [← hadd]; exact h.row.cells (g := g) rfl j u hu
      refine ⟨sa, sc, hcell _ _ f0, ?_, ?_, ?_, ?_, ?_, hr⟩
      · have := hcell _ _ f1; rwa [← Nat.add_assoc] at this
      · have := hcell _ _ f2; rwa [← Nat.add_assoc] at this
      · have := hcell _ _ f3; rwa [← Nat.add_assoc] at this
      · have := hcell _ _ f4; rwa [← Nat.add_assoc] at this
      · have := hcell _ _ f5; rwa [← Nat.add_assoc] at this
theorem set_same {w : World} {p : Nat} {t : TypeId} {cs : Array Value} (h : Blk w p t cs) (i : Nat) {v : Value} (hv : cs[i]? = some v) : w.setCell ⟨p, i, none⟩ v = w := by
  obtain ⟨hlt, hk⟩ := Array.getElem?_eq_some_iff.1 h
  have e : cs.setIfInBounds i v = cs := by
    apply Array.ext
    · simp
    · intro j h1 h2
      rw [Array.getElem_setIfInBounds h2]
      split
      · rename_i hij
        subst hij
        obtain ⟨_, h3⟩ := Array.getElem?_eq_some_iff.1 hv
        exact h3.symm
      · rfl
  have e2 : ∀ f : Obj → Obj, f (.cells cs t (0, 0)) = .cells cs t (0, 0) → w.heap.modify p f = w.heap := by
    intro f hf
    apply Array.ext
    · simp
    · intro j h1 h2
      rw [Array.getElem_modify]
      split
      · rename_i hij
        subst hij
        rw [hk, hf]
      · rfl
  have e3 : (w.setCell ⟨p, i, none⟩ v).heap = w.heap := by
    unfold World.setCell
    dsimp only
    apply e2
    simp [e]
  show ({ w with heap := (w.setCell ⟨p, i, none⟩ v).heap } : World) = w
  rw [e3]
/-- What Split answers: the words, the fault. -/
def outE (xs : List Int) : List Mw × Int × Int × Int :=
  if 65536 < xs.length then ([], 1, 0, 0) else if (lx xs).code = 0 then ((lx xs).ws.map (mw xs), 0, 0, 0) else ([], (lx xs).code, lnA xs (lx xs).pos, clA xs (lx xs).pos)
/-- What the callers of Split are told. -/
def SplitG (w : World) (g : List Mw × Int × Int × Int) (e : Ending) (w' : World) : Prop := ∃ a c, e = .returned (.tuple #[.slice a g.1.length c, .agg #[.int .i64 g.2.1, .int .i64 0, .int .i64 g.2.2.1, .int .i64 g.2.2.2]]) ∧ ReadsW w' a g.1.length c g.1 ∧ Below w.heap.size w w'
theorem splitBig (xs : List Int) (w : World) (h : 65536 < xs.length) (hm : xs.length ≤ 9223372036854775807) : Calls Tryd.prog 7 #[.string (strOfNums xs)] w fun e w' => SplitG w (outE xs) e w' := by
  have HE : Hid (outE xs = ([], 1, 0, 0)) := hid (by unfold outE; rw [if_pos h])
  have hs : (strOfNums xs).size = xs.length := strOfNums_size xs
  have h1 : (65536 : Int) < (xs.length : Int) := by omega
  have h2 : (xs.length : Int) ≤ 9223372036854775807 := by omega
  clear h hm
  generalize xs.length = n at *
  go_enter Tryd.func7, Tryd.ntmps7
  go_wp2
  exact bodyPost_ret (v := .tuple #[.slice none 0 0, .agg #[.int .i64 1, .int .i64 0, .int .i64 0, .int .i64 0]]) (by simp [results, Tryd.results7, go_sem]) rfl ⟨none, 0, by rw [HE.out]; rfl, by rw [HE.out]; exact readsW_nil _, below_alloc _⟩
theorem splitIn (xs : List Int) (w : World) (hb : ∀ x ∈ xs, 0 ≤ x ∧ x ≤ 255) (h : xs.length ≤ 65536) (hs : Sentinel w 2) : Calls Tryd.prog 7 #[.string (strOfNums xs)] w fun e w' => SplitG w (outE xs) e w' := by
  have hz : (strOfNums xs).size = xs.length := strOfNums_size xs
  have h1 : (xs.length : Int) ≤ 65536 := by omega
  have HWD := hid (fun W p (h1 : Rd W p xs 0 0 0 0 (.slice none 0 0)) h2 h3 => wordsW p xs W hb h h1 h2 h3)
  have HSN := hid hs
  clear hb hs
  go_enter Tryd.func7, Tryd.ntmps7
  go_wp2_with fail
  obtain ⟨w1, hw1⟩ : ∃ w1, ((w.alloc (.cells #[.int .i64 0, .int .i64 0, .int .i64 0, .int .i64 0] 25)).alloc (.cells #[.string (strOfNums xs), .int .i64 0, .int .i64 0, .int .i64 0, .int .i64 0, .int .i64 1, .int .i64 1, .slice none 0 0] 46)) = w1 := ⟨_, rfl⟩
  have B1 : Below w.heap.size w w1 := by rw [← hw1]; exact below_trans (below_alloc _) (below_alloc _)
  have F1 : Blk w1 w.heap.size 25 #[.int .i64 0, .int .i64 0, .int .i64 0, .int .i64 0] := by rw [← hw1]; exact (Blk.new w _ _).kept (below_alloc _)
  have R1 : Rd w1 (w.heap.size + 1) xs 0 0 0 0 (.slice none 0 0) := by
    rw [← hw1]
    have := Blk.new (w.alloc (.cells #[.int .i64 0, .int .i64 0, .int .i64 0, .int .i64 0] 25)) 46 #[.string (strOfNums xs), .int .i64 0, .int .i64 0, .int .i64 0, .int .i64 0, .int .i64 1, .int .i64 1, .slice none 0 0]
    rw [World.size_alloc] at this
    exact ⟨this⟩
  rw [hw1]
  clear hw1
  have hg : 2 < w.heap.size := by obtain ⟨te, pe, h⟩ := HSN.out; exact World.block_lt_of_cell? _ _ h
  refine (HWD.out _ _ R1 (HSN.out.kept B1) (by omega)).mono ?_
  rintro e w2 ⟨rfl, K2, hor⟩
  have HF : Hid (Blk w2 w.heap.size 25 #[.int .i64 0, .int .i64 0, .int .i64 0, .int .i64 0]) := hid (F1.keep K2 (by omega))
  have HB2 : Hid (Below w.heap.size w w2) := hid (B1.trans (K2.below B1.size (fun k hk => by omega)))
  clear K2 R1 F1 B1 hg
  have q0 : w2.cell? ⟨w.heap.size, 0, none⟩ = some (.int .i64 0) := HF.out.cell 0 _ rfl
  have q1 : w2.cell? ⟨w.heap.size, 1, none⟩ = some (.int .i64 0) := HF.out.cell 1 _ rfl
  have q2 : w2.cell? ⟨w.heap.size, 2, none⟩ = some (.int .i64 0) := HF.out.cell 2 _ rfl
  have q3 : w2.cell? ⟨w.heap.size, 3, none⟩ = some (.int .i64 0) := HF.out.cell 3 _ rfl
  have f0 := HF.out.frozen 0
  have f1 := HF.out.frozen 1
  have f2 := HF.out.frozen 2
  have f3 := HF.out.frozen 3
  rcases hor with ⟨hc, fr, bl, bc, i, kept, ws, hR, hK, hws⟩ | ⟨hc, fr, i, kept, hR⟩
  · have HE : Hid (outE xs = (ws.map Prod.fst, 0, 0, 0)) := hid (by unfold outE; rw [if_neg (by omega), if_pos hc, hws])
    rw [hc]
    obtain ⟨a, c, rfl, hrd⟩ := kp_reads hK
    obtain ⟨c0, c1, c2, c3, c4, c5, c6, c7⟩ := hR.cells
    have HRD := hid hrd
    have HLN : Hid ((ws.map Prod.fst).length = ws.length) := hid (by simp)
    clear hR hK hws hc hrd
    generalize ws.length = ln at *
    go_wp2
    rw [set_same (v := .int .i64 0) HF.out 0 rfl, set_same (v := .int .i64 0) HF.out 1 rfl, set_same (v := .int .i64 0) HF.out 2 rfl, set_same (v := .int .i64 0) HF.out 3 rfl]
    exact bodyPost_ret (v := .tuple #[.slice a ln c, .agg #[.int .i64 0, .int .i64 0, .int .i64 0, .int .i64 0]]) (by simp [results, Tryd.results7, go_sem, q0, q1, q2, q3]) rfl ⟨a, c, by rw [HE.out, HLN.out], by rw [HE.out, HLN.out]; exact HRD.out, HB2.out⟩
  · have hne : (lx xs).code ≠ 0 := by rcases hc with h | h <;> rw [h] <;> decide
    have HE : Hid (outE xs = ([], (lx xs).code, lnA xs (lx xs).pos, clA xs (lx xs).pos)) := hid (by unfold outE; rw [if_neg (by omega), if_neg hne])
    have hnb : ((lx xs).code != 0) = true := by simpa using hne
    obtain ⟨c0, c1, c2, c3, c4, c5, c6, c7⟩ := hR.cells
    clear hR hc hne
    generalize (lx xs).code = cd at *
    generalize lnA xs (lx xs).pos = L at *
    generalize clA xs (lx xs).pos = C at *
    go_wp2
    go_region
    go_wp2
    exact bodyPost_ret (v := .tuple #[.slice none 0 0, .agg #[.int .i64 cd, .int .i64 0, .int .i64 L, .int .i64 C]]) (by simp [results, Tryd.results7, go_sem, q0, q1, q2, q3]) rfl ⟨none, 0, by rw [HE.out]; rfl, by rw [HE.out]; exact readsW_nil _, ((((HB2.out.setCell (by simp) _).setCell (by simp) _).setCell (by simp) _).setCell (by simp) _).drew⟩
end Go.Proofs.YtlkdcdmdkncjoaaDoor
