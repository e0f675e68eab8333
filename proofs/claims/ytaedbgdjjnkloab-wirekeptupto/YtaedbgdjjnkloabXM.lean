/-
  The calls of the law WireKept, with what they build.
-/
import Derived.Test.YtaedbgdjjnkloabXL
namespace Go.Proofs.Ytaedbgdjjnkloab
open Go.RowKit

theorem gc_len (xs : List Int) (p : Nat) : (gc xs p).1.length ≤ xs.length := by
  unfold gc gcF
  split
  · simp
  · split
    · simp
    · simp; omega
theorem getChunkO (a : Option Addr) (len cap : Nat) (p : Int) (xs : List Int) (w : World) (h : Reads w a len cap xs) (hreach : len ≤ 1048576) :
    Calls Try.prog 9 #[.slice a len cap, .int .i64 p] w fun e w' => ∃ b n c ys nx er, e = .returned (.tuple #[.slice b n c, .int .i64 nx, .int .i64 er]) ∧ n ≤ 1048576 ∧ w'.ownsRow w.heap.size 5 1 (.slice b n c) n ys ∧ Below w.heap.size w w' := by
  by_cases hp : p < 0 ∨ (len : Int) < p
  · refine (getChunkOut a len cap p w (by omega) hp).mono ?_
    rintro e w' ⟨rfl, rfl⟩
    exact ⟨none, 0, 0, [], 0, 18, rfl, by omega, World.ownsRow_nil _ _ _ _, Below.refl _ _⟩
  · obtain ⟨q, rfl⟩ := Int.eq_ofNat_of_zero_le (show 0 ≤ p by omega)
    refine (getChunkW a len cap q xs w h (by omega) (by omega)).mono ?_
    rintro e w' ⟨v, rfl, ho, hb⟩
    obtain ⟨b, c, rfl⟩ := own_shape ho
    refine ⟨b, _, c, _, _, _, rfl, ?_, ho, hb⟩
    have := gc_len xs q
    have := h.length
    omega

set_option maxHeartbeats 400000 in
theorem putChunkO (a : Option Addr) (len cap : Nat) (ys : List Int) (w : World) (hr : Reads w a len cap ys) (hm : 10 + len ≤ 140737488355328) :
    Calls Try.prog 10 #[.slice a len cap] w fun e w' => ∃ b c, e = .returned (.slice b (pc ys).length c) ∧ w'.ownsRow w.heap.size 5 1 (.slice b (pc ys).length c) (pc ys).length ((pc ys).map (Value.int .u8)) ∧ Below w.heap.size w w' := by
  obtain ⟨i0, hi, hz0, hz1, hz2⟩ := info_parts Try.info5
  have hpl := (pv_len (len : Int)).2
  obtain ⟨w1, hrun, hown, hgr⟩ := run_make_own (P := Try.prog) w w.heap.size 23 5 i0 (.int .u8 0) 1 Try.underlying23 hi hz0 hz1 .i64 .i64 ((pv (len : Int)).length + len) (by rw [hz2]; omega) (by unfold maxLen; omega) (Nat.le_refl _)
  have hsz := hgr.size
  have hbw : Below w.heap.size w w1 := Below.grown (Below.refl _ _) hgr (Nat.le_refl _) (fun k hk => by cases hk)
  rw [Int.natCast_add] at hrun
  have HR := hid hr
  clear hr
  go_enter Try.func10, Try.ntmps10
  go_wp2_with fail
  refine (sizeW _ _ (by omega) (by omega)).mono ?_
  rintro e w' ⟨rfl, rfl⟩
  go_wp2_with fail
  refine (addChunkW w.heap.size _ 0 [] a len cap ys _ hown (by omega) (fun w' h => reads_kept HR.out (hbw.trans h)) (by omega)).mono ?_
  rintro e w2 ⟨v', rfl, ho', hb'⟩
  go_wp2
  go_ret
  rw [List.nil_append, Nat.zero_add] at ho'
  obtain ⟨b, c, rfl⟩ := own_shape ho'
  exact ⟨b, c, rfl, ho', hbw.trans hb'⟩

theorem cell_two_new (w : World) (x0 x1 : Value) (t : TypeId) : ∀ j u, [x0, x1][j]? = some u → (w.alloc (.cells #[x0, x1] t)).cell? ((⟨w.heap.size, 0, none⟩ : Addr).add j) = some u := by
  intro j u h
  have hadd : (⟨w.heap.size, 0, none⟩ : Addr).add j = ⟨w.heap.size, j, none⟩ := by unfold Addr.add; split <;> simp_all
  rw [hadd, World.cell?_alloc_at _ _ _ _ rfl]
  simpa using h
theorem append_two (base : Nat) (v : Value) (n : Nat) (xs : List Value) (w : World) (x y : Int) (hown : w.ownsRow base 5 1 v n xs) (hb : base ≤ w.heap.size) (hn : n + 2 ≤ 140737488355328) :
    ∃ v' w', (Builtin.append_ #[23, 23] 23 #[v, .slice (some ⟨w.heap.size, 0, none⟩) 2 2]).run Try.prog (w.alloc (.cells #[.int .u8 x, .int .u8 y] 5)) = .ok v' w' ∧ Grow w w' v v' := by
  obtain ⟨i0, hi, hz0, hz1, hz2⟩ := info_parts Try.info5
  obtain ⟨v', w', hr, ho, hg⟩ := run_append_mine (P := Try.prog) (w.alloc (.cells #[.int .u8 x, .int .u8 y] 5)) base 23 23 5 i0 (.int .u8 0) 1 1 Try.underlying23 hi hz0 hz1 hz2 rfl (by decide) v n xs (hown.alloc _) ⟨w.heap.size, 0, none⟩ 2 2 [.int .u8 x, .int .u8 y] rfl (cell_two_new _ _ _ _) (fun u hu => by simp at hu; rcases hu with rfl | rfl <;> rfl) (by unfold maxLen; omega) (by omega) (by simp; omega)
  exact ⟨v', w', hr, ((Grow.refl w v).alloc _).trans hg⟩

/-- The bytes written twice over: the copy with a byte behind it. -/
theorem copy201 (w : World) (a : Option Addr) (len cap : Nat) (xs : List Int) (h : Reads w a len cap xs) (hm : len ≤ 1048576) :
    ∃ v3 w3 g c w4, (Builtin.append_ #[23, 23] 23 #[.slice (some ⟨w.heap.size, 0, none⟩) 0 0, .slice a len cap]).run Try.prog (w.alloc (.cells #[] 5)) = .ok v3 w3 ∧
      (Builtin.append_ #[23, 23] 23 #[v3, .slice (some ⟨w3.heap.size, 0, none⟩) 1 1]).run Try.prog (w3.alloc (.cells #[.int .u8 201] 5)) = .ok (.slice (some ⟨g, 0, none⟩) (len + 1) c) w4 ∧ len + 1 ≤ c ∧ c ≤ 9223372036854775807 ∧
      Reads w4 (some ⟨g, 0, none⟩) len c xs ∧ w4.cell? ⟨g, len, none⟩ = some (.int .u8 201) ∧ Below w.heap.size w w4 ∧ g < w4.heap.size := by
  obtain ⟨v3, w3, r3, o3, b3⟩ := cat w _ 0 [] (w.alloc (.cells #[] 5)) a len cap xs (own_empty w) (below_alloc _) h (by omega)
  obtain ⟨v4, w4, r4, o4, g4⟩ := append_byte w.heap.size v3 (0 + len) _ w3 201 o3 b3.size (by omega)
  have hl := h.length
  rw [Nat.zero_add] at o4
  rcases o4.2 with ⟨rfl, e⟩ | ⟨g, c, cur, rfl, hbg, hg, hnc, hcm, hcs, htake⟩
  · omega
  · have hlt : g < w4.heap.size := (Array.getElem?_eq_some_iff.1 hg).1
    have hcm' : c ≤ 9223372036854775807 := by simpa [maxLen] using hcm
    have hc : ∀ j, j < len + 1 → w4.cell? ⟨g, j, none⟩ = ((List.map (Value.int .u8) ([] ++ xs)) ++ [Value.int .u8 201])[j]? := fun j hj => o4.cellAt j (by omega)
    refine ⟨v3, w3, g, c, w4, r3, r4, hnc, hcm', ⟨hl, by omega, hcm', h.bd, .inr ⟨g, 0, rfl, fun i hi => ?_⟩⟩, ?_, b3.trans (g4.below b3.size (fun k hk => (o3.lt k hk).1)), hlt⟩
    · rw [Nat.zero_add, hc i (by omega), List.getElem?_append_left (by simp; omega)]
      simp [show i < xs.length by omega]
    · rw [hc len (by omega), List.getElem?_append_right (by simp; omega)]
      simp [hl]

/-- What the third loop has done to the entries before i. -/
def Done (i : Nat) (es : List (Ent × Value)) : Prop := ∀ (j : Nat) (x : Ent × Value), es[j]? = some x → (j < i → ∀ t, t + 1 < x.1.b.length → x.1.b[t]? = some ((j : Int) % 256)) ∧ x.1.b.length ≤ 41943041 ∧ (i ≤ j → x.1.b.length ≤ 41943040)
theorem set_cases {es : List (Ent × Value)} {i j : Nat} {y u : Ent × Value} (h : (es.set i y)[j]? = some u) : (j = i ∧ u = y) ∨ (j ≠ i ∧ es[j]? = some u) := by
  rw [List.getElem?_set] at h
  split at h
  · split at h
    · simp at h; exact .inl ⟨by omega, h.symm⟩
    · cases h
  · exact .inr ⟨by omega, h⟩
theorem set_self {es : List (Ent × Value)} {i : Nat} {y : Ent × Value} (h : es[i]? = some y) : es.set i y = es := by
  apply List.ext_getElem?
  intro j
  rw [List.getElem?_set]
  split
  · split
    · subst i; exact h.symm
    · rw [List.getElem?_eq_none (by omega)]
  · rfl
theorem mem_set {es : List (Ent × Value)} {i : Nat} {y u : Ent × Value} (h : u ∈ es.set i y) : u = y ∨ u ∈ es := by
  obtain ⟨j, hj⟩ := List.getElem?_of_mem h
  rcases set_cases hj with ⟨_, e⟩ | ⟨_, e⟩
  · exact .inl e
  · exact .inr (List.mem_of_getElem? e)
theorem done_step {i : Nat} {es : List (Ent × Value)} {x : Ent} {v : Value} (h : Done i es) (hx : es[i]? = some (x, v)) (ys : List Int) (hl : ys.length = x.b.length) (hys : ∀ t, t < ys.length → ys[t]? = some ((i : Int) % 256)) (v' : Value) (num kind n : Int) :
    Done (i + 1) (es.set i (⟨num, kind, n, ys ++ [93]⟩, v')) := by
  intro j y hy
  rcases set_cases hy with ⟨rfl, rfl⟩ | ⟨h1, h2⟩
  · have := (h j _ hx).2.2 (Nat.le_refl _)
    refine ⟨fun _ t ht => ?_, by simp at this ⊢; omega, fun h => by omega⟩
    simp at ht ⊢
    rw [List.getElem?_append_left ht]
    exact hys t ht
  · obtain ⟨a, b, c⟩ := h j y h2
    exact ⟨fun hj => a (by omega), b, fun hj => c (by omega)⟩
theorem sp_short {xs : List Int} (hb : ∀ x ∈ xs, 0 ≤ x ∧ x ≤ 255) (hl : xs.length ≤ 1048576) : ∀ x ∈ (sp xs).1, x.b.length ≤ 41943040 := by
  intro x hx
  by_cases he : (sp xs).2 = 0
  · have h1 := run_fit hb (by omega) _ 0 (by omega) (run_sp hb he)
    have h2 : ∀ l : List Ent, x ∈ l → x.b.length ≤ bulk l := fun l => by
      induction l with
      | nil => simp
      | cons y r ih =>
        intro hm
        rcases List.mem_cons.1 hm with e | hm
        · subst e; simp [bulk]; omega
        · have := ih hm; simp [bulk]; omega
    have := h2 _ hx
    have := h1.2
    omega
  · rw [sp_none he] at hx; cases hx
theorem sp_count {xs : List Int} (hb : ∀ x ∈ xs, 0 ≤ x ∧ x ≤ 255) (hl : xs.length ≤ 1048576) : (sp xs).1.length ≤ 20971520 := by
  by_cases he : (sp xs).2 = 0
  · have h1 := run_fit hb (by omega) _ 0 (by omega) (run_sp hb he)
    have hcl : ∀ l : List Ent, l.length ≤ bulk l := fun l => by induction l with | nil => simp | cons x r ih => simp [bulk]; omega
    have := hcl (sp xs).1
    have := h1.2
    omega
  · rw [sp_none he]; simp
theorem done_zero {es : List (Ent × Value)} {l : List Ent} (h : es.map Prod.fst = l) (hs : ∀ x ∈ l, x.b.length ≤ 41943040) : Done 0 es := by
  intro j x hx
  have : x.1.b.length ≤ 41943040 := hs _ (by rw [← h]; exact List.mem_map_of_mem (List.mem_of_getElem? hx))
  exact ⟨fun h => by omega, by omega, fun _ => this⟩
end Go.Proofs.Ytaedbgdjjnkloab
