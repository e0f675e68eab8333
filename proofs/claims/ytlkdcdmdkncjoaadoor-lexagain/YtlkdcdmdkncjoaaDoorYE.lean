/-
  Rows of words: what the program keeps, what the document keeps.
-/
import Derived.Test.YtlkdcdmdkncjoaaDoorYD
import Derived.Deep.RegionLaw
import Derived.Test.YtlkdcdmdkncjoaaDoorQE
namespace Go.Proofs.YtlkdcdmdkncjoaaDoor
open Go.RowKit
set_option maxRecDepth 1000000
set_option maxHeartbeats 1000000
set_option linter.unusedVariables false

/-- A word as it lies in memory. -/
structure Mw where
  kind : Int
  s : List Int
  n : Int
  b : List Int
  line : Int
  col : Int
def mw (xs : List Int) (x : Wd) : Mw := ⟨x.kind, cut xs x.st x.en, x.n, x.b, lnA xs x.st, clA xs x.st⟩
/-- The cells of a row of words, each with the value of its bytes. -/
def flatW : List (Mw × Value) → List Value
  | [] => []
  | x :: r => .int .i64 x.1.kind :: .string (strOfNums x.1.s) :: .int .u64 x.1.n :: x.2 :: .int .i64 x.1.line :: .int .i64 x.1.col :: flatW r
theorem flatW_append : ∀ (l r : List (Mw × Value)), flatW (l ++ r) = flatW l ++ flatW r
  | [], r => rfl
  | x :: l, r => by simp [flatW, flatW_append l r]
theorem flatW_length : ∀ (l : List (Mw × Value)), (flatW l).length = l.length * 6
  | [] => rfl
  | x :: l => by simp [flatW, flatW_length l]; omega
theorem flatW_get : ∀ (l : List (Mw × Value)) (i : Nat) (x : Mw) (v : Value), l[i]? = some (x, v) → (flatW l)[i * 6]? = some (.int .i64 x.kind) ∧ (flatW l)[i * 6 + 1]? = some (.string (strOfNums x.s)) ∧ (flatW l)[i * 6 + 2]? = some (.int .u64 x.n) ∧ (flatW l)[i * 6 + 3]? = some v ∧ (flatW l)[i * 6 + 4]? = some (.int .i64 x.line) ∧ (flatW l)[i * 6 + 5]? = some (.int .i64 x.col)
  | [], i, x, v, h => by simp at h
  | y :: l, 0, x, v, h => by simp at h; subst h; simp [flatW]
  | y :: l, i + 1, x, v, h => by
    have h' : l[i]? = some (x, v) := by simpa using h
    have := flatW_get l i x v h'
    simp only [flatW]
    rw [show (i + 1) * 6 = i * 6 + 6 by omega, show i * 6 + 6 + 1 = i * 6 + 1 + 6 by omega, show i * 6 + 6 + 2 = i * 6 + 2 + 6 by omega, show i * 6 + 6 + 3 = i * 6 + 3 + 6 by omega, show i * 6 + 6 + 4 = i * 6 + 4 + 6 by omega, show i * 6 + 6 + 5 = i * 6 + 5 + 6 by omega]
    simpa using this

/-- Bytes that lie neither in block p nor in v's own. -/
def Off (p : Nat) (v : Value) (len : Nat) (a : Option Addr) : Prop := ∀ y, a = some y → len = 0 ∨ (y.block ≠ p ∧ v.ownBlock ≠ some y.block)
/-- A row of words that a call builds, beside a block p that it writes. -/
structure Kp (w : World) (base p : Nat) (t : TypeId) (v : Value) (ws : List (Mw × Value)) : Prop where
  row : w.ownsRow base t 6 v ws.length (flatW ws)
  np : v.ownBlock ≠ some p
  each : ∀ x ∈ ws, ∃ a c, x.2 = .slice a x.1.b.length c ∧ Reads w a x.1.b.length c x.1.b ∧ Off p v x.1.b.length a
theorem reads_keep {f : Nat → Prop} {w w' : World} {a : Option Addr} {len cap : Nat} {ys : List Int} (h : Reads w a len cap ys) (hf : ∀ y, a = some y → len = 0 ∨ f y.block) (g : Keep f w w') : Reads w' a len cap ys := by
  refine ⟨h.length, h.le, h.max, h.bd, ?_⟩
  rcases h.cells with h0 | ⟨b, off, rfl, hc⟩
  · exact .inl h0
  · rcases hf _ rfl with h0 | hb
    · subst h0
      exact .inl ⟨rfl, fun e => by cases e⟩
    · refine .inr ⟨b, off, rfl, fun i hi => ?_⟩
      have hlt := World.block_lt_of_cell? _ _ (hc i hi)
      have := hc i hi
      have e : w'.cell? ⟨b, off + i, none⟩ = w.cell? ⟨b, off + i, none⟩ := by
        simp only [World.cell?]
        rw [g.block b hlt hb]
      rw [e]
      exact this
theorem own_keep {f : Nat → Prop} {w w' : World} {base e size n : Nat} {v : Value} {xs : List Value} (h : w.ownsRow base e size v n xs) (hv : ∀ k, v.ownBlock = some k → f k) (g : Keep f w w') : w'.ownsRow base e size v n xs := by
  refine ⟨h.1, ?_⟩
  rcases h.2 with hn | ⟨k, cap, cur, rfl, hb, hk, rest⟩
  · exact .inl hn
  · exact .inr ⟨k, cap, cur, rfl, hb, by rw [g.block k (Array.getElem?_eq_some_iff.1 hk).1 (hv k rfl)]; exact hk, rest⟩
section
variable {w w' : World} {base p : Nat} {t : TypeId} {v : Value} {ws : List (Mw × Value)}
theorem Kp.keep (h : Kp w base p t v ws) (g : Keep (· ≠ p) w w') : Kp w' base p t v ws :=
  ⟨own_keep (f := (· ≠ p)) h.row (fun k hk (e : k = p) => h.np (hk.trans (congrArg some e))) g, h.np, fun x hx => by
    obtain ⟨a, c, e, hr, ho⟩ := h.each x hx
    exact ⟨a, c, e, reads_keep hr (fun y hy => (ho y hy).imp id (·.1)) g, ho⟩⟩
theorem Kp.kept (h : Kp w base p t v ws) (hb : Below w.heap.size w w') : Kp w' base p t v ws := h.keep (Keep.ofBelow hb)
theorem Kp.nil (w : World) (base p : Nat) (t : TypeId) : Kp w base p t (.slice none 0 0) [] := ⟨World.ownsRow_nil _ _ _ _, by simp [Value.ownBlock], by simp⟩
end
theorem cell_six_new (w : World) (x0 x1 x2 x3 x4 x5 : Value) (t : TypeId) : ∀ j u, [x0, x1, x2, x3, x4, x5][j]? = some u → (w.alloc (.cells #[x0, x1, x2, x3, x4, x5] t)).cell? ((⟨w.heap.size, 0, none⟩ : Addr).add j) = some u := by
  intro j u h
  have hadd : (⟨w.heap.size, 0, none⟩ : Addr).add j = ⟨w.heap.size, j, none⟩ := by unfold Addr.add; split <;> simp_all
  rw [hadd, World.cell?_alloc_at _ _ _ _ rfl]
  simpa using h
def zw : Value := .agg #[.int .i64 0, .string ⟨#[]⟩, .int .u64 0, .slice none 0 0, .int .i64 0, .int .i64 0]
theorem Tryd.info39 : (Tryd.prog.info? 39).map (fun i => (i.zero, i.size, i.bytes)) = some (some zw, 6, 72) := by kernel_rfl
theorem Tryd.info33 : (Tryd.prog.info? 33).map (fun i => (i.zero, i.size, i.bytes)) = some (some zw, 6, 72) := by kernel_rfl
/-- One word more, laid in a block of its own first. -/
theorem append_word (t ts : TypeId) (hts : Tryd.prog.underlying ts = some (.slice t)) (hinfo : (Tryd.prog.info? t).map (fun i => (i.zero, i.size, i.bytes)) = some (some zw, 6, 72))
    (base p : Nat) (l : Value) (ws : List (Mw × Value)) (w : World) (x : Mw) (a : Option Addr) (c : Nat) (h : Kp w base p t l ws) (hb : base ≤ w.heap.size) (hn : ws.length ≤ 70000) (hp : p < w.heap.size) (hr : Reads w a x.b.length c x.b) (ho : Off p l x.b.length a) :
    ∃ l' w', (Builtin.append_ #[ts, ts] ts #[l, .slice (some ⟨w.heap.size, 0, none⟩) 1 1]).run Tryd.prog (w.alloc (.cells #[.int .i64 x.kind, .string (strOfNums x.s), .int .u64 x.n, .slice a x.b.length c, .int .i64 x.line, .int .i64 x.col] t)) = .ok l' w' ∧ Kp w' base p t l' (ws ++ [(x, .slice a x.b.length c)]) ∧ Grow w w' l l' := by
  obtain ⟨i0, hi, hz0, hz1, hz2⟩ := info_parts hinfo
  obtain ⟨l', w', hr2, hol, hg⟩ := run_append_mine (P := Tryd.prog) (w.alloc (.cells #[.int .i64 x.kind, .string (strOfNums x.s), .int .u64 x.n, .slice a x.b.length c, .int .i64 x.line, .int .i64 x.col] t)) base ts ts t i0 zw 6 72 hts hi hz0 hz1 hz2 rfl (by decide) l ws.length (flatW ws) (h.row.alloc _) ⟨w.heap.size, 0, none⟩ 1 1 [.int .i64 x.kind, .string (strOfNums x.s), .int .u64 x.n, .slice a x.b.length c, .int .i64 x.line, .int .i64 x.col] rfl (cell_six_new _ _ _ _ _ _ _ _) (fun u hu => by simp at hu; rcases hu with rfl | rfl | rfl | rfl | rfl | rfl <;> rfl) (by unfold maxLen; omega) (by omega) (by simp; omega)
  have hG : Grow w w' l l' := ((Grow.refl w l).alloc _).trans hg
  have hK : Keep (fun k => l.ownBlock ≠ some k) w w' := Keep.ofGrow hG (fun k hk => hk)
  refine ⟨l', w', hr2, ⟨?_, ?_, fun y hy => ?_⟩, hG⟩
  · rw [flatW_append, List.length_append]; exact hol
  · intro e
    rcases hG.own with h1 | h1
    · exact h.np (h1.symm.trans e)
    · have := h1 p e; omega
  · have hy' : ∃ a c, y.2 = .slice a y.1.b.length c ∧ Reads w a y.1.b.length c y.1.b ∧ Off p l y.1.b.length a := by
      rcases List.mem_append.1 hy with h1 | h1
      · exact h.each y h1
      · simp at h1; subst h1; exact ⟨a, c, rfl, hr, ho⟩
    obtain ⟨a', c', e, hr', ho'⟩ := hy'
    refine ⟨a', c', e, reads_keep hr' (fun z hz => (ho' z hz).imp id (·.2)) hK, fun z hz => ?_⟩
    rcases ho' z hz with h0 | ⟨h1, h2⟩
    · exact .inl h0
    · by_cases h0 : y.1.b.length = 0
      · exact .inl h0
      · refine .inr ⟨h1, fun e => ?_⟩
        rcases hG.own with h3 | h3
        · exact h2 (h3.symm.trans e)
        · have h4 := h3 _ e
          rcases hr'.cells with ⟨h5, _⟩ | ⟨b, off, e2, hc⟩
          · exact h0 h5
          · subst hz
            cases e2
            have := World.block_lt_of_cell? _ _ (hc 0 (by omega))
            simp at h4 this
            omega
end Go.Proofs.YtlkdcdmdkncjoaaDoor
