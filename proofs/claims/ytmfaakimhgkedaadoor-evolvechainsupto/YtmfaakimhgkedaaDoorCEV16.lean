/-
  The layer is awake.
  What changes mean: at most additive, by each type; the other way; twice.
  EvolveChains: a table and itself; the other way; twice at once.
  What comes in, opened: strings; and what the bound on it says.
  A table that comes in, opened.
  A table that comes in, opened: fields, symbols, ranges, types.
-/
import Derived.Test.YtmfaakimhgkedaaDoorCEV11
import Derived.Test.YtmfaakimhgkedaaDoorCTY
import Derived.ProofKit
import Derived.OpenShut
import Derived.ShutString
import Derived.Lib.SmallJoins
import Derived.Deep.Slices
import Derived.Deep.Fields
namespace Go.Proofs.YtmfaakimhgkedaaDoor
open Go.RowKit
set_option maxRecDepth 1000000
set_option linter.unusedVariables false
set_option linter.unusedSimpArgs false
set_option maxHeartbeats 1000000
def mor1 : List CH := [⟨2, 6, [77], 4⟩]
theorem awake18 (w : World) (m : Int) (hm : w.cell? ⟨0, 0, none⟩ = some (.int .i64 m)) : Calls Tryd.prog 6 #[] w fun e w' => e = .returned (.bool true) ∧ Below w.heap.size w w' := by
  have HM := hid hm
  clear hm
  have HD : Hid (∀ (W : World) (h g : Nat) (fa ta tb : Option Addr) (fc : Nat), Below w.heap.size w W → TbR W (.slice ta 2 2) (simL h) → TbR W (.slice tb 2 2) (morL g fa fc) → Calls Tryd.prog 10 #[.agg #[.slice ta 2 2], .agg #[.slice tb 2 2]] W fun e w' => ∃ va vc, e = .returned (.tuple #[.slice va 1 vc, .int .i64 2, .int .i64 0]) ∧ RowS w' AnyZ 4 (.slice va mor1.length vc) mor1.length (mor1.flatMap cCH) ∧ Below W.heap.size W w') := hid fun W h g fa ta tb fc hW hA hB => by
    refine (diffT W (simL h) (morL g fa fc) ta tb 2 2 hA hB (simOk h) (morOk g fa fc) (fun x hx => by simp [simL] at hx; rcases hx with rfl | rfl <;> simp [simE, simM]) (fun x hx => by simp [morL] at hx; rcases hx with rfl | rfl <;> simp [simE]) m (cell_below HM.out hW)).mono ?_
    rintro e w' ⟨h1, h2, -⟩
    obtain ⟨va, vc, rfl, h3⟩ := h2 ⟨simGood h, morGood g fa fc⟩
    rw [simMore] at h3 ⊢
    exact ⟨va, vc, rfl, own_row h3 (fun _ _ => trivial), h1⟩
  have HS := hid (fun (W : World) (aa ba : Option Addr) (ac bc : Nat) (hA : RowS W AnyZ 4 (.slice aa mor1.length ac) mor1.length (mor1.flatMap cCH)) (hB : RowS W AnyZ 4 (.slice ba mor1.length bc) mor1.length (mor1.flatMap cCH)) => sameCT W mor1 mor1 aa ba ac bc hA hB (fun x hx => by simp [mor1] at hx; subst hx; exact ⟨by decide, by decide⟩) (fun x hx => by simp [mor1] at hx; subst hx; exact ⟨by decide, by decide⟩))
  go_enter Tryd.func6, Tryd.ntmps6
  go_wp2_with fail
  refine (simpleW _).mono ?_
  rintro e w1 ⟨rfl, ht1, hb1⟩
  have HT1 : Hid (TbR w1 (.slice (some ⟨w.heap.size + 1 + 1 + 1, 0, none⟩) 2 2) (simL w.heap.size)) := hid ht1
  have HB1 : Hid (Below w.heap.size w w1) := hid (bl_then (by exact blBy) hb1)
  clear ht1 hb1
  go_wp2_with fail
  refine (moreW _).mono ?_
  rintro e w2 ⟨h, fa, fc, ta, rfl, ht2, hb2⟩
  replace HT1 := hid (HT1.out.kept hb2)
  have HT2 := hid ht2
  replace HB1 := hid (below_trans HB1.out hb2)
  clear ht2 hb2
  go_wp2_with fail
  refine (HD.out _ _ _ _ _ _ _ HB1.out HT1.out HT2.out).mono ?_
  rintro e w3 ⟨va, vc, rfl, hr, hb3⟩
  have HR := hid hr
  have HB3 := hid (below_trans HB1.out hb3)
  clear hr hb3 HT1 HT2 HB1 HD
  go_wp2_with fail
  refine (HS.out _ _ _ _ _ (HR.out.kept (below_alloc _)) (rowOf (Blk.new _ _ _) 4 1 _ rfl rfl (by decide))).mono ?_
  rintro e w4 ⟨r, rfl, hr, hb4⟩
  have er : r = true := by simpa using hr
  subst er
  have HB4 : Hid (Below w.heap.size w w4) := hid (bl_then (by have := HB3.out; exact blBy) hb4)
  clear hb4
  go_wp2
  go_ret
  exact ⟨rfl, HB4.out⟩
end Go.Proofs.YtmfaakimhgkedaaDoor
namespace Go.Proofs.YtmfaakimhgkedaaDoor
open Go.RowKit
set_option maxRecDepth 1000000
set_option linter.unusedVariables false
set_option linter.unusedSimpArgs false
set_option maxHeartbeats 1000000
theorem ws_ge (cs : List CH) : ∀ (m : Int), m ≤ cs.foldl (fun m c => max m c.cls) m := by
  induction cs with
  | nil => intro m; simp
  | cons c r ih => intro m; rw [List.foldl_cons]; have := ih (max m c.cls); omega
theorem ws_le_iff (cs : List CH) (k : Int) : ∀ (m : Int), cs.foldl (fun m c => max m c.cls) m ≤ k ↔ m ≤ k ∧ ∀ c ∈ cs, c.cls ≤ k := by
  induction cs with
  | nil => intro m; simp
  | cons c r ih =>
    intro m
    rw [List.foldl_cons, ih]
    simp only [List.mem_cons, forall_eq_or_imp]
    constructor
    · rintro ⟨h1, h2⟩; exact ⟨by omega, by omega, h2⟩
    · rintro ⟨h1, h2, h3⟩; exact ⟨by omega, h3⟩
theorem wsC_le (cs : List CH) (k : Int) (hk : 1 ≤ k) : wsC cs ≤ k ↔ ∀ c ∈ cs, c.cls ≤ k := by
  unfold wsC
  rw [ws_le_iff]
  exact ⟨fun h => h.2, fun h => ⟨hk, h⟩⟩
theorem wsC_ge (cs : List CH) : 1 ≤ wsC cs := ws_ge cs 1
theorem wsC_mem {cs : List CH} {c : CH} (h : c ∈ cs) : c.cls ≤ wsC cs := (wsC_le cs (wsC cs) (wsC_ge cs)).1 (Int.le_refl _) c h
theorem widI_34 (b : Bool) : widI b = 3 ∨ widI b = 4 := by cases b <;> simp [widI]
theorem find_df1 (a b : List TV) (x : TV) : df1 a b x = match b.find? (nameP x.t.name) with | none => [⟨4, 1, x.t.name, 0⟩] | some y => tyL x.t.name a b x.t y.t := by
  unfold df1
  cases h : b.findIdx? (nameP x.t.name) with
  | none =>
    rw [List.findIdx?_eq_none_iff] at h
    rw [List.find?_eq_none.2 (fun y hy => by simpa using h y hy)]
  | some k =>
    rw [List.findIdx?_eq_some_iff_getElem] at h
    obtain ⟨hk, h1, h2⟩ := h
    have : b.find? (nameP x.t.name) = some b[k] := by
      rw [List.find?_eq_some_iff_getElem]
      exact ⟨h1, k, hk, rfl, fun j hj => by simpa using h2 j hj⟩
    rw [this]
    simp [hk]
theorem find_df2 (a : List TV) (y : TV) : df2 a y = match a.find? (nameP y.t.name) with | none => [⟨2, 11, y.t.name, 0⟩] | some _ => [] := by
  unfold df2
  cases h : a.findIdx? (nameP y.t.name) with
  | none =>
    rw [List.findIdx?_eq_none_iff] at h
    rw [List.find?_eq_none.2 (fun y hy => by simpa using h y hy)]
  | some k =>
    rw [List.findIdx?_eq_some_iff_getElem] at h
    obtain ⟨hk, h1, h2⟩ := h
    have : a.find? (nameP y.t.name) = some a[k] := by
      rw [List.find?_eq_some_iff_getElem]
      exact ⟨h1, k, hk, rfl, fun j hj => by simpa using h2 j hj⟩
    rw [this]
/-- Enums of the same symbols. -/
def SyE (xs ys : List SY) : Prop := (∀ s ∈ xs, ∃ y, ys.find? (syI s.num) = some y ∧ y.name = s.name) ∧ (∀ s ∈ ys, ∃ x, xs.find? (syI s.num) = some x)
def FdE (a b : List TV) (s t : TT) (f g : FT) : Prop := f.name = g.name ∧ f.kind = g.kind ∧ refN a f = refN b g ∧ f.lab = g.lab ∧ oneN s f = oneN t g ∧ f.key = g.key
def MbE (a b : List TV) (s t : TT) : Prop := ∀ f ∈ s.fs, ∃ g, t.fs.find? (fdI f.num) = some g ∧ FdE a b s t f g
def TyE (a b : List TV) (s t : TT) : Prop := s.enum = t.enum ∧ (s.enum = true → SyE s.ss t.ss) ∧ (s.enum = false → MbE a b s t ∧ jnL s.rs = jnL t.rs)
/-- Each old type stands in the new table as it was, but for fresh fields. -/
def AdE (a b : List TV) : Prop := ∀ x ∈ a, ∃ y, b.find? (nameP x.t.name) = some y ∧ TyE a b x.t y.t
theorem fdL_nil {nm : List Int} {f g : FT} {fr gr fo go : List Int} : (∀ c ∈ fdL nm f g fr gr fo go, c.cls ≤ 2) ↔ f.name = g.name ∧ f.kind = g.kind ∧ fr = gr ∧ f.lab = g.lab ∧ fo = go ∧ f.key = g.key := by
  have w1 := widI_34 (widB f.kind g.kind)
  have w2 := widI_34 (relB f g)
  unfold fdL fd1 fd2 fd3
  constructor
  · intro h
    by_cases h1 : f.name = g.name
    · by_cases h2 : f.kind = g.kind
      · by_cases h3 : fr = gr
        · by_cases h4 : f.lab = g.lab
          · by_cases h5 : fo = go
            · by_cases h6 : f.key = g.key
              · exact ⟨h1, h2, h3, h4, h5, h6⟩
              · simp [h1, h2, h3, h4, h5, h6] at h
            · simp [h1, h2, h3, h4, h5] at h
          · simp [h1, h2, h3, h4] at h; omega
        · simp [h1, h2, h3] at h
      · simp only [List.mem_append] at h
        have := h ⟨widI (widB f.kind g.kind), 8, nm, f.num⟩ (.inl (.inr (by simp [h2])))
        simp at this; omega
    · simp [h1] at h
  · rintro ⟨h1, h2, h3, h4, h5, h6⟩
    simp [h1, h2, h3, h4, h5, h6]
theorem syL_nil {nm : List Int} {xs ys : List SY} : (∀ c ∈ syL nm xs ys, c.cls ≤ 2) ↔ SyE xs ys := by
  unfold syL SyE
  simp only [List.mem_append, List.mem_flatMap]
  constructor
  · intro h
    refine ⟨fun s hs => ?_, fun s hs => ?_⟩
    · cases q : ys.find? (syI s.num) with
      | none => have := h ⟨4, 3, nm, s.num⟩ (.inl ⟨s, hs, by simp [sy1, q]⟩); simp at this
      | some y =>
        refine ⟨y, rfl, ?_⟩
        by_cases e : y.name = s.name
        · exact e
        · have := h ⟨3, 7, nm, s.num⟩ (.inl ⟨s, hs, by simp [sy1, q, e]⟩); simp at this
    · cases q : xs.find? (syI s.num) with
      | none => have := h ⟨3, 4, nm, s.num⟩ (.inr ⟨s, hs, by simp [sy2, q]⟩); simp at this
      | some y => exact ⟨y, rfl⟩
  · rintro ⟨h1, h2⟩ c (⟨s, hs, hc⟩ | ⟨s, hs, hc⟩)
    · obtain ⟨y, hy, e⟩ := h1 s hs
      simp [sy1, hy, e] at hc
    · obtain ⟨y, hy⟩ := h2 s hs
      simp [sy2, hy] at hc
theorem mbL_nil {nm : List Int} {a b : List TV} {s t : TT} : (∀ c ∈ mbL nm a b s t, c.cls ≤ 2) ↔ MbE a b s t := by
  unfold mbL MbE
  simp only [List.mem_append, List.mem_flatMap, List.mem_map]
  constructor
  · intro h f hf
    cases q : t.fs.find? (fdI f.num) with
    | none => have := h ⟨4, 5, nm, f.num⟩ (.inl ⟨f, hf, by simp [mb1, q]⟩); simp at this
    | some g =>
      refine ⟨g, rfl, (fdL_nil (nm := nm)).1 (fun c hc => h c (.inl ⟨f, hf, ?_⟩))⟩
      simp only [mb1, q]; exact hc
  · rintro h c (⟨f, hf, hc⟩ | ⟨n, hn, rfl⟩)
    · obtain ⟨g, hg, e⟩ := h f hf
      simp only [mb1, hg] at hc
      exact fdL_nil.2 e c hc
    · simp
theorem rsL_nil {nm : List Int} {a b : List RG} : (∀ c ∈ rsL nm a b, c.cls ≤ 2) ↔ jnL a = jnL b := by
  unfold rsL
  rw [← rgsB_iff]
  have w1 := widI_34 (covB (jnL b) (jnL a))
  split
  · simp_all
  · rename_i h
    simp [h]; omega
theorem tyL_nil {nm : List Int} {a b : List TV} {s t : TT} : (∀ c ∈ tyL nm a b s t, c.cls ≤ 2) ↔ TyE a b s t := by
  unfold tyL TyE
  by_cases h : s.enum = t.enum
  · rw [if_pos h]
    by_cases h2 : s.enum = true
    · rw [if_pos h2, syL_nil]
      exact ⟨fun q => ⟨h, fun _ => q, fun e => by rw [h2] at e; cases e⟩, fun q => q.2.1 h2⟩
    · rw [if_neg h2]
      have h3 : s.enum = false := by simpa using h2
      simp only [List.mem_append]
      constructor
      · intro q
        exact ⟨h, fun e => absurd e h2, fun _ => ⟨mbL_nil.1 (fun c hc => q c (.inl hc)), rsL_nil.1 (fun c hc => q c (.inr hc))⟩⟩
      · rintro ⟨_, _, q⟩ c (hc | hc)
        · exact mbL_nil.2 (q h3).1 c hc
        · exact rsL_nil.2 (q h3).2 c hc
  · rw [if_neg h]
    simp [h]
theorem ad_iff (a b : List TV) : wsC (difL a b) ≤ 2 ↔ AdE a b := by
  rw [wsC_le _ _ (by decide)]
  unfold difL AdE
  simp only [List.mem_append, List.mem_flatMap]
  constructor
  · intro h x hx
    have h1 : ∀ c ∈ df1 a b x, c.cls ≤ 2 := fun c hc => h c (.inl ⟨x, hx, hc⟩)
    rw [find_df1] at h1
    cases q : b.find? (nameP x.t.name) with
    | none => rw [q] at h1; simp at h1
    | some y => rw [q] at h1; exact ⟨y, rfl, tyL_nil.1 h1⟩
  · rintro h c (⟨x, hx, hc⟩ | ⟨y, hy, hc⟩)
    · obtain ⟨y, q, e⟩ := h x hx
      rw [find_df1, q] at hc
      exact tyL_nil.2 e c hc
    · rw [find_df2] at hc
      split at hc
      · simp at hc; subst hc; simp
      · simp at hc
theorem fdI_eq {fs : List FT} {n : Int} {g : FT} (h : fs.find? (fdI n) = some g) : g ∈ fs ∧ g.num = n := by
  refine ⟨List.mem_of_find?_eq_some h, ?_⟩
  have := List.find?_some h
  unfold fdI at this
  simpa using this
theorem syI_eq {fs : List SY} {n : Int} {g : SY} (h : fs.find? (syI n) = some g) : g ∈ fs ∧ g.num = n := by
  refine ⟨List.mem_of_find?_eq_some h, ?_⟩
  have := List.find?_some h
  unfold syI at this
  simpa using this
theorem nmP_eq {a : List TV} {n : List Int} {x : TV} (h : a.find? (nameP n) = some x) : x ∈ a ∧ x.t.name = n := by
  refine ⟨List.mem_of_find?_eq_some h, ?_⟩
  have := List.find?_some h
  unfold nameP at this
  simpa using this
/-- What is at most additive twice is so at once. -/
theorem ad_trans {a b c : List TV} (h : AdE a b) (g : AdE b c) : AdE a c := by
  intro x hx
  obtain ⟨y, hy, e1, s1, m1⟩ := h x hx
  obtain ⟨hyb, ny⟩ := nmP_eq hy
  obtain ⟨z, hz, e2, s2, m2⟩ := g y hyb
  refine ⟨z, ny ▸ hz, e1.trans e2, fun he => ?_, fun he => ?_⟩
  · obtain ⟨p1, p2⟩ := s1 he
    obtain ⟨q1, q2⟩ := s2 (e1 ▸ he)
    refine ⟨fun s hs => ?_, fun s hs => ?_⟩
    · obtain ⟨r, hr, nr⟩ := p1 s hs
      obtain ⟨hr1, hr2⟩ := syI_eq hr
      obtain ⟨v, hv, nv⟩ := q1 r hr1
      exact ⟨v, hr2 ▸ hv, nv.trans nr⟩
    · obtain ⟨r, hr⟩ := q2 s hs
      obtain ⟨hr1, hr2⟩ := syI_eq hr
      obtain ⟨v, hv⟩ := p2 r hr1
      exact ⟨v, hr2 ▸ hv⟩
  · obtain ⟨p1, p2⟩ := m1 he
    obtain ⟨q1, q2⟩ := m2 (e1 ▸ he)
    refine ⟨fun f hf => ?_, p2.trans q2⟩
    obtain ⟨g, hg, a1, a2, a3, a4, a5, a6⟩ := p1 f hf
    obtain ⟨hg1, hg2⟩ := fdI_eq hg
    obtain ⟨k, hk, b1, b2, b3, b4, b5, b6⟩ := q1 g hg1
    exact ⟨k, hg2 ▸ hk, a1.trans b1, a2.trans b2, a3.trans b3, a4.trans b4, a5.trans b5, a6.trans b6⟩
structure GdT (a : List TV) : Prop where
  nm : ∀ x ∈ a, ∀ y ∈ a, x.t.name = y.t.name → x = y
  ri : ∀ x ∈ a, x.t.enum = false → ∀ f ∈ x.t.fs, ∀ g ∈ x.t.fs, f.num = g.num → f = g
  sy : ∀ x ∈ a, x.t.enum = true → ∀ s ∈ x.t.ss, ∀ r ∈ x.t.ss, s.num = r.num → s = r
theorem GdT.find {a : List TV} (h : GdT a) {x : TV} (hx : x ∈ a) : a.find? (nameP x.t.name) = some x := by
  cases q : a.find? (nameP x.t.name) with
  | none =>
    rw [List.find?_eq_none] at q
    exact absurd (by simp [nameP]) (q x hx)
  | some y =>
    obtain ⟨h1, h2⟩ := nmP_eq q
    rw [h.nm y h1 x hx h2]
theorem fd_find {fs : List FT} (h : ∀ f ∈ fs, ∀ g ∈ fs, f.num = g.num → f = g) {f : FT} (hf : f ∈ fs) : fs.find? (fdI f.num) = some f := by
  cases q : fs.find? (fdI f.num) with
  | none =>
    rw [List.find?_eq_none] at q
    exact absurd (by simp [fdI]) (q f hf)
  | some y =>
    obtain ⟨h1, h2⟩ := fdI_eq q
    rw [h y h1 f hf h2]
theorem sy_find {fs : List SY} (h : ∀ f ∈ fs, ∀ g ∈ fs, f.num = g.num → f = g) {f : SY} (hf : f ∈ fs) : fs.find? (syI f.num) = some f := by
  cases q : fs.find? (syI f.num) with
  | none =>
    rw [List.find?_eq_none] at q
    exact absurd (by simp [syI]) (q f hf)
  | some y =>
    obtain ⟨h1, h2⟩ := syI_eq q
    rw [h y h1 f hf h2]
theorem ad_refl {a : List TV} (h : GdT a) : AdE a a := by
  intro x hx
  refine ⟨x, h.find hx, rfl, fun he => ⟨fun s hs => ⟨s, sy_find (h.sy x hx he) hs, rfl⟩, fun s hs => ⟨s, sy_find (h.sy x hx he) hs⟩⟩, fun he => ⟨fun f hf => ⟨f, fd_find (h.ri x hx he) hf, rfl, rfl, rfl, rfl, rfl, rfl⟩, rfl⟩⟩
/-- Nothing is fresh. -/
def NoF (a b : List TV) : Prop := (∀ x ∈ a, ∀ y, b.find? (nameP x.t.name) = some y → x.t.enum = false → ∀ g ∈ y.t.fs, ∃ f, x.t.fs.find? (fdI g.num) = some f) ∧ ∀ y ∈ b, ∃ x, a.find? (nameP y.t.name) = some x
theorem frsh_nil {xs ys : List FT} : frshL xs ys = [] ↔ ∀ g ∈ ys, ∃ f, xs.find? (fdI g.num) = some f := by
  unfold frshL
  rw [List.map_eq_nil_iff, List.filter_eq_nil_iff]
  constructor
  · intro h g hg
    have := h g hg
    cases q : xs.find? (fdI g.num) with
    | none => rw [q] at this; simp at this
    | some f => exact ⟨f, rfl⟩
  · intro h g hg
    obtain ⟨f, hf⟩ := h g hg
    rw [hf]
    simp
theorem fdL_ge {nm : List Int} {f g : FT} {fr gr fo go : List Int} : ∀ c ∈ fdL nm f g fr gr fo go, 3 ≤ c.cls ∧ c.cls ≤ 4 := by
  have w1 := widI_34 (widB f.kind g.kind)
  have w2 := widI_34 (relB f g)
  intro c hc
  unfold fdL fd1 fd2 fd3 at hc
  simp only [List.mem_append] at hc
  rcases hc with (hc | hc) | hc
  · split at hc <;> simp at hc; subst hc; simp
  · split at hc
    · split at hc <;> simp at hc; subst hc; simp
    · simp at hc; subst hc; dsimp only; omega
  · split at hc
    · split at hc
      · split at hc <;> simp at hc; subst hc; simp
      · simp at hc; subst hc; simp
    · simp at hc; subst hc; dsimp only; omega
theorem df1_ge (a b : List TV) (x : TV) : ∀ c ∈ df1 a b x, 2 ≤ c.cls ∧ c.cls ≤ 4 := by
  intro c hc
  rw [find_df1] at hc
  split at hc
  · simp at hc; subst hc; simp
  · unfold tyL at hc
    split at hc
    · split at hc
      · unfold syL at hc
        simp only [List.mem_append, List.mem_flatMap] at hc
        rcases hc with ⟨s, _, hc⟩ | ⟨s, _, hc⟩
        · unfold sy1 at hc
          split at hc
          · simp at hc; subst hc; simp
          · split at hc <;> simp at hc; subst hc; simp
        · unfold sy2 at hc
          split at hc <;> simp at hc; subst hc; simp
      · unfold mbL rsL at hc
        simp only [List.mem_append, List.mem_flatMap, List.mem_map] at hc
        rcases hc with (⟨f, _, hc⟩ | ⟨n, _, rfl⟩) | hc
        · unfold mb1 at hc
          split at hc
          · simp at hc; subst hc; simp
          · have := fdL_ge c hc; omega
        · simp
        · split at hc
          · simp at hc
          · simp at hc; subst hc
            rename_i q1 q2 q3 q4 q5
            have := widI_34 (covB (jnL (‹TV›).t.rs) (jnL x.t.rs))
            dsimp only; omega
    · simp at hc; subst hc; simp
theorem dif_ge (a b : List TV) : ∀ c ∈ difL a b, 2 ≤ c.cls ∧ c.cls ≤ 4 := by
  intro c hc
  unfold difL at hc
  simp only [List.mem_append, List.mem_flatMap] at hc
  rcases hc with ⟨x, _, hc⟩ | ⟨y, _, hc⟩
  · exact df1_ge a b x c hc
  · rw [find_df2] at hc
    split at hc <;> simp at hc; subst hc; simp
theorem dif_nil (a b : List TV) : difL a b = [] ↔ wsC (difL a b) = 1 := by
  constructor
  · intro h; rw [h]; rfl
  · intro h
    refine List.eq_nil_iff_forall_not_mem.2 fun c hc => ?_
    have h1 := wsC_mem hc
    have h2 := dif_ge a b c hc
    omega
theorem dif_le4 (a b : List TV) : wsC (difL a b) ≤ 4 := (wsC_le _ _ (by decide)).2 fun c hc => (dif_ge a b c hc).2
theorem same_iff (a b : List TV) : difL a b = [] ↔ AdE a b ∧ NoF a b := by
  constructor
  · intro h
    have h1 : AdE a b := (ad_iff a b).1 (by rw [h]; decide)
    have h2 : ∀ c, c ∉ difL a b := fun c hc => by rw [h] at hc; cases hc
    unfold difL at h2
    simp only [List.mem_append, List.mem_flatMap] at h2
    refine ⟨h1, fun x hx y hy he g hg => ?_, fun y hy => ?_⟩
    · cases q : x.t.fs.find? (fdI g.num) with
      | some f => exact ⟨f, rfl⟩
      | none =>
        refine absurd (.inl ⟨x, hx, ?_⟩) (h2 ⟨2, 6, x.t.name, g.num⟩)
        obtain ⟨y', hy', e, -⟩ := h1 x hx
        rw [hy] at hy'
        cases hy'
        rw [find_df1, hy]
        dsimp only
        unfold tyL mbL frshL
        rw [if_pos e, if_neg (by rw [he]; simp)]
        simp only [List.mem_append, List.mem_map, List.mem_filter]
        exact .inl (.inr ⟨g.num, ⟨g, ⟨hg, by rw [q]; rfl⟩, rfl⟩, rfl⟩)
    · cases q : a.find? (nameP y.t.name) with
      | some x => exact ⟨x, rfl⟩
      | none => exact absurd (.inr ⟨y, hy, by rw [find_df2, q]; simp⟩) (h2 ⟨2, 11, y.t.name, 0⟩)
  · rintro ⟨h1, h2, h3⟩
    refine List.eq_nil_iff_forall_not_mem.2 fun c hc => ?_
    unfold difL at hc
    simp only [List.mem_append, List.mem_flatMap] at hc
    rcases hc with ⟨x, hx, hc⟩ | ⟨y, hy, hc⟩
    · obtain ⟨y, hy, e, s, m⟩ := h1 x hx
      rw [find_df1, hy] at hc
      dsimp only at hc
      unfold tyL at hc
      rw [if_pos e] at hc
      by_cases he : x.t.enum = true
      · rw [if_pos he] at hc
        have h4 := syL_nil.2 (s he) c hc
        unfold syL at hc
        simp only [List.mem_append, List.mem_flatMap] at hc
        rcases hc with ⟨r, hr, hc⟩ | ⟨r, hr, hc⟩
        · obtain ⟨z, hz, ez⟩ := (s he).1 r hr
          simp [sy1, hz, ez] at hc
        · obtain ⟨z, hz⟩ := (s he).2 r hr
          simp [sy2, hz] at hc
      · rw [if_neg he] at hc
        have he' : x.t.enum = false := by simpa using he
        obtain ⟨m1, m2⟩ := m he'
        unfold mbL rsL at hc
        rw [frsh_nil.2 (h2 x hx y hy he'), (rgsB_iff _ _).2 m2, if_pos rfl] at hc
        simp only [List.map_nil, List.append_nil, List.mem_flatMap] at hc
        obtain ⟨f, hf, hc⟩ := hc
        obtain ⟨g, hg, e⟩ := m1 f hf
        simp only [mb1, hg] at hc
        have h5 := fdL_nil.2 e c hc
        have h6 := fdL_ge c hc
        omega
    · obtain ⟨x, hx⟩ := h3 y hy
      rw [find_df2, hx] at hc
      simp at hc
theorem same_refl {a : List TV} (h : GdT a) : difL a a = [] := by
  rw [same_iff]
  refine ⟨ad_refl h, fun x hx y hy he g hg => ?_, fun y hy => ⟨y, h.find hy⟩⟩
  rw [h.find hx] at hy
  cases hy
  exact ⟨g, fd_find (h.ri x hx he) hg⟩
theorem same_symm {a b : List TV} (ha : GdT a) (hb : GdT b) (h : difL a b = []) : difL b a = [] := by
  rw [same_iff] at h ⊢
  obtain ⟨h1, h2, h3⟩ := h
  refine ⟨fun y hy => ?_, fun y hy x hx he f hf => ?_, fun x hx => ?_⟩
  · obtain ⟨x, hx⟩ := h3 y hy
    obtain ⟨hxa, nx⟩ := nmP_eq hx
    obtain ⟨y', hy', e, s, m⟩ := h1 x hxa
    rw [nx, hb.find hy] at hy'
    cases hy'
    refine ⟨x, hx, e.symm, fun he => ?_, fun he => ?_⟩
    · obtain ⟨s1, s2⟩ := s (e.trans he)
      refine ⟨fun r hr => ?_, fun r hr => ?_⟩
      · obtain ⟨z, hz⟩ := s2 r hr
        obtain ⟨z1, z2⟩ := syI_eq hz
        obtain ⟨r', hr', er⟩ := s1 z z1
        rw [z2, sy_find (hb.sy y hy he) hr] at hr'
        cases hr'
        exact ⟨z, hz, er.symm⟩
      · obtain ⟨z, hz, -⟩ := s1 r hr
        exact ⟨z, hz⟩
    · obtain ⟨m1, m2⟩ := m (e.trans he)
      refine ⟨fun g hg => ?_, m2.symm⟩
      obtain ⟨f, hf⟩ := h2 x hxa y (nx ▸ hb.find hy) (e.trans he) g hg
      obtain ⟨f1, f2⟩ := fdI_eq hf
      obtain ⟨g', hg', a1, a2, a3, a4, a5, a6⟩ := m1 f f1
      rw [f2, fd_find (hb.ri y hy he) hg] at hg'
      cases hg'
      exact ⟨f, hf, a1.symm, a2.symm, a3.symm, a4.symm, a5.symm, a6.symm⟩
  · obtain ⟨hxa, nx⟩ := nmP_eq hx
    obtain ⟨y', hy', e, s, m⟩ := h1 x hxa
    rw [nx, hb.find hy] at hy'
    cases hy'
    obtain ⟨g, hg, -⟩ := (m (e.trans he)).1 f hf
    exact ⟨g, hg⟩
  · obtain ⟨y, hy, -⟩ := h1 x hx
    exact ⟨y, hy⟩
theorem ws4 {a b : List TV} {c : CH} (h : c ∈ difL a b) (hc : c.cls = 4) : wsC (difL a b) = 4 := by
  have h1 := wsC_mem h
  have h2 := dif_le4 a b
  omega
/-- The other way of an addition breaks. -/
theorem ad_back {a b : List TV} (ha : GdT a) (hb : GdT b) (h : AdE a b) (hn : ¬ NoF a b) : wsC (difL b a) = 4 := by
  unfold NoF at hn
  by_cases h3 : ∀ y ∈ b, ∃ x, a.find? (nameP y.t.name) = some x
  · have h4 : ∃ x ∈ a, ∃ y, b.find? (nameP x.t.name) = some y ∧ x.t.enum = false ∧ ∃ g ∈ y.t.fs, x.t.fs.find? (fdI g.num) = none := by
      apply Classical.byContradiction
      intro q
      refine hn ⟨fun x hx y hy he g hg => ?_, h3⟩
      cases r : x.t.fs.find? (fdI g.num) with
      | some f => exact ⟨f, rfl⟩
      | none => exact absurd ⟨x, hx, y, hy, he, g, hg, r⟩ q
    obtain ⟨x, hx, y, hy, he, g, hg, r⟩ := h4
    obtain ⟨hyb, ny⟩ := nmP_eq hy
    obtain ⟨y', hy', e, -⟩ := h x hx
    rw [hy] at hy'
    cases hy'
    refine ws4 (c := ⟨4, 5, y.t.name, g.num⟩) ?_ rfl
    unfold difL
    simp only [List.mem_append, List.mem_flatMap]
    refine .inl ⟨y, hyb, ?_⟩
    rw [find_df1, ny, ha.find hx]
    dsimp only
    unfold tyL mbL
    rw [if_pos e.symm, if_neg (by rw [← e, he]; simp)]
    simp only [List.mem_append, List.mem_flatMap]
    exact .inl (.inl ⟨g, hg, by simp [mb1, r]⟩)
  · have h4 : ∃ y ∈ b, a.find? (nameP y.t.name) = none := by
      apply Classical.byContradiction
      intro q
      refine h3 fun y hy => ?_
      cases r : a.find? (nameP y.t.name) with
      | some x => exact ⟨x, rfl⟩
      | none => exact absurd ⟨y, hy, r⟩ q
    obtain ⟨y, hy, r⟩ := h4
    refine ws4 (c := ⟨4, 1, y.t.name, 0⟩) ?_ rfl
    unfold difL
    simp only [List.mem_append, List.mem_flatMap]
    exact .inl ⟨y, hy, by rw [find_df1, r]; simp⟩
theorem back2 {a b : List TV} (ha : GdT a) (hb : GdT b) (h : wsC (difL a b) = 2) : wsC (difL b a) = 4 := by
  have h1 : AdE a b := (ad_iff a b).1 (by omega)
  refine ad_back ha hb h1 fun q => ?_
  have := (dif_nil a b).1 ((same_iff a b).2 ⟨h1, q⟩)
  omega
theorem back1 {a b : List TV} (ha : GdT a) (hb : GdT b) (h : wsC (difL a b) = 1) : wsC (difL b a) = 1 := (dif_nil b a).1 (same_symm ha hb ((dif_nil a b).2 h))
theorem ws_trans {a b c : List TV} (h : wsC (difL a b) ≤ 2) (g : wsC (difL b c) ≤ 2) : wsC (difL a c) ≤ 2 := (ad_iff a c).2 (ad_trans ((ad_iff a b).1 h) ((ad_iff b c).1 g))
/-- What a good table has, as far as changes ask. -/
theorem nums_ne {ss : List SY} (h : dfB ((ss.map SY.num).map litI) = true) : ∀ s ∈ ss, ∀ r ∈ ss, s.num = r.num → s = r := by
  rw [dfB_iff _ (fun x hx => by obtain ⟨y, _, rfl⟩ := List.mem_map.1 hx; trivial), List.Nodup, List.pairwise_map, List.pairwise_map] at h
  intro s hs r hr e
  obtain ⟨i, hi, rfl⟩ := List.getElem_of_mem hs
  obtain ⟨j, hj, rfl⟩ := List.getElem_of_mem hr
  rw [List.pairwise_iff_getElem] at h
  rcases Nat.lt_trichotomy i j with q | q | q
  · exact absurd (by rw [e]) (h i j hi hj q)
  · subst q; rfl
  · exact absurd (by rw [e]) (h j i hj hi q)
theorem good_GdT {l : List TV} (hg : goodB l = true) (hk : ∀ x ∈ l, OkV x) : GdT l := by
  refine ⟨fun x hx y hy e => ?_, fun x hx he f hf g hg' e => ?_, fun x hx he => ?_⟩
  · obtain ⟨i, hi, rfl⟩ := List.getElem_of_mem hx
    obtain ⟨j, hj, rfl⟩ := List.getElem_of_mem hy
    have key : ∀ (i j : Nat) (hi : i < l.length) (hj : j < l.length), i < j → l[i].t.name = l[j].t.name → False := fun i j hi hj hij e => by
      have h := good_nm hg hj
      unfold named at h
      rw [List.any_eq_false] at h
      have hm : l[i] ∈ l.take j := by
        rw [List.mem_take_iff_getElem]
        exact ⟨i, by omega, rfl⟩
      exact h _ hm (by simp [e])
    rcases Nat.lt_trichotomy i j with q | q | q
    · exact (key i j hi hj q e).elim
    · subst q; rfl
    · exact (key j i hj hi q e.symm).elim
  · obtain ⟨i, hi, rfl⟩ := List.getElem_of_mem hx
    have hr := (good_TyG hg hk hi).ri he
    obtain ⟨p, hp, rfl⟩ := List.getElem_of_mem hf
    obtain ⟨q, hq, rfl⟩ := List.getElem_of_mem hg'
    rcases Nat.lt_trichotomy p q with c | c | c
    · have := hr p q c hq hp; omega
    · subst c; rfl
    · have := hr q p c hp hq; omega
  · obtain ⟨i, hi, rfl⟩ := List.getElem_of_mem hx
    have h := good_at hg hi
    unfold stepB at h
    simp only [Bool.and_eq_true] at h
    have h2 := h.2.2.2
    unfold typB at h2
    rw [if_pos he, Bool.and_eq_true] at h2
    have h3 := h2.2
    cases hs : l[i].t.ss with
    | nil => intro s hs; cases hs
    | cons s r =>
      rw [hs] at h3
      unfold symB at h3
      simp only [Bool.and_eq_true] at h3
      exact nums_ne h3.2.2.2.2.2
end Go.Proofs.YtmfaakimhgkedaaDoor
namespace Go.Proofs.YtmfaakimhgkedaaDoor
open Go.RowKit
set_option maxRecDepth 1000000
set_option linter.unusedVariables false
set_option linter.unusedSimpArgs false
set_option maxHeartbeats 1000000
/-- Diff, as the laws ask it. -/
structure DfN (w : World) (a b : List TV) (v : Value) (c e : Int) (w' : World) : Prop where
  l : Below w.heap.size w w'
  no : ¬ (goodB a = true ∧ goodB b = true) → v = .slice none 0 0 ∧ c = 0 ∧ e = 18
  yes : goodB a = true ∧ goodB b = true → ∃ va vc, v = .slice va (difL a b).length vc ∧ c = wsC (difL a b) ∧ e = 0 ∧ RowS w' AnyZ 4 (.slice va (difL a b).length vc) (difL a b).length ((difL a b).flatMap cCH)
theorem diffN (w : World) (a b : List TV) (ta tb : Option Addr) (tc td : Nat) (ha : TbR w (.slice ta a.length tc) a) (hb : TbR w (.slice tb b.length td) b) (ka : ∀ x ∈ a, OkV x) (kb : ∀ x ∈ b, OkV x) (na : ∀ x ∈ a, x.t.name.length < 4000000) (nb : ∀ x ∈ b, x.t.name.length < 4000000) (m : Int) (hm : w.cell? ⟨0, 0, none⟩ = some (.int .i64 m)) : Calls Tryd.prog 10 #[.agg #[.slice ta a.length tc], .agg #[.slice tb b.length td]] w fun e w' => ∃ v n c r, e = .returned (.tuple #[v, .int .i64 c, .int .i64 r]) ∧ (∃ a' d', v = .slice a' n d') ∧ DfN w a b v c r w' := by
  refine (diffT w a b ta tb tc td ha hb ka kb (fun x hx => by have := na x hx; omega) (fun x hx => by have := nb x hx; omega) m hm).mono ?_
  rintro e w' ⟨h1, h2, h3⟩
  by_cases h : goodB a = true ∧ goodB b = true
  · obtain ⟨va, vc, rfl, h4⟩ := h2 h
    exact ⟨_, _, _, _, rfl, ⟨_, _, rfl⟩, h1, fun q => absurd h q, fun _ => ⟨va, vc, rfl, rfl, rfl, own_row h4 (fun _ _ => trivial)⟩⟩
  · exact ⟨_, _, _, _, h3 h, ⟨_, _, rfl⟩, h1, fun _ => ⟨rfl, rfl, rfl⟩, fun q => absurd q h⟩
theorem evolveChainsW (w : World) (a b c : List TV) (ta tb tc : Option Addr) (da db dc : Nat) (ha : TbR w (.slice ta a.length da) a) (hb : TbR w (.slice tb b.length db) b) (hc : TbR w (.slice tc c.length dc) c) (ka : ∀ x ∈ a, OkV x ∧ x.t.name.length < 4000000) (kb : ∀ x ∈ b, OkV x ∧ x.t.name.length < 4000000) (kc : ∀ x ∈ c, OkV x ∧ x.t.name.length < 4000000) (m : Int) (hm : w.cell? ⟨0, 0, none⟩ = some (.int .i64 m)) : Calls Tryd.prog 4 #[.agg #[.slice ta a.length da], .agg #[.slice tb b.length db], .agg #[.slice tc c.length dc]] w fun e w' => e = .returned (.bool true) ∧ Below w.heap.size w w' := by
  have HM := hid hm
  have HDab := hid fun W (hW : Below w.heap.size w W) => diffN W a b ta tb da db (ha.kept hW) (hb.kept hW) (fun x hx => (ka x hx).1) (fun x hx => (kb x hx).1) (fun x hx => (ka x hx).2) (fun x hx => (kb x hx).2) m (cell_below hm hW)
  have HDbc := hid fun W (hW : Below w.heap.size w W) => diffN W b c tb tc db dc (hb.kept hW) (hc.kept hW) (fun x hx => (kb x hx).1) (fun x hx => (kc x hx).1) (fun x hx => (kb x hx).2) (fun x hx => (kc x hx).2) m (cell_below hm hW)
  have HDaa := hid fun W (hW : Below w.heap.size w W) => diffN W a a ta ta da da (ha.kept hW) (ha.kept hW) (fun x hx => (ka x hx).1) (fun x hx => (ka x hx).1) (fun x hx => (ka x hx).2) (fun x hx => (ka x hx).2) m (cell_below hm hW)
  have HDba := hid fun W (hW : Below w.heap.size w W) => diffN W b a tb ta db da (hb.kept hW) (ha.kept hW) (fun x hx => (kb x hx).1) (fun x hx => (ka x hx).1) (fun x hx => (kb x hx).2) (fun x hx => (ka x hx).2) m (cell_below hm hW)
  have HDac := hid fun W (hW : Below w.heap.size w W) => diffN W a c ta tc da dc (ha.kept hW) (hc.kept hW) (fun x hx => (ka x hx).1) (fun x hx => (kc x hx).1) (fun x hx => (ka x hx).2) (fun x hx => (kc x hx).2) m (cell_below hm hW)
  have HGa : Hid (goodB a = true → GdT a) := hid fun h => good_GdT h (fun x hx => (ka x hx).1)
  have HGb : Hid (goodB b = true → GdT b) := hid fun h => good_GdT h (fun x hx => (kb x hx).1)
  clear ha hb hc ka kb kc hm
  go_enter Tryd.func4, Tryd.ntmps4
  go_wp2_with fail
  refine (awake18 _ m (cell_below HM.out (by exact blBy))).mono ?_
  rintro e w1 ⟨rfl, hb1⟩
  have BA : Blk w1 w.heap.size 24 #[.slice ta a.length da] := (((Blk.new _ _ _).kept (below_alloc _)).kept (below_alloc _)).kept hb1
  have BB : Blk w1 (w.heap.size + 1) 24 #[.slice tb b.length db] := ((Blk.newAt (by simp)).kept (below_alloc _)).kept hb1
  have BC : Blk w1 (w.heap.size + 1 + 1) 24 #[.slice tc c.length dc] := (Blk.newAt (by simp)).kept hb1
  have HL : Hid (Below w.heap.size w w1) := hid (bl_then (by exact blBy) hb1)
  clear hb1 HM
  have x1 := BA.cellF
  have z1 := BA.lt
  have x2 := BB.cellF
  have z2 := BB.lt
  have x3 := BC.cellF
  have z3 := BC.lt
  go_wp2_with fail
  refine (HDab.out _ HL.out).mono ?_
  rintro e w2 ⟨v1, n1, c1, r1, rfl, ⟨a1, d1, rfl⟩, D1⟩
  replace BA := BA.kept D1.l
  replace BB := BB.kept D1.l
  replace BC := BC.kept D1.l
  replace HL := hid (below_trans HL.out D1.l)
  have HD1 := hid D1
  clear D1 x1 x2 x3 z1 z2 z3
  have x1 := BA.cellF
  have z1 := BA.lt
  have x2 := BB.cellF
  have z2 := BB.lt
  have x3 := BC.cellF
  have z3 := BC.lt
  -- SECOND
  go_wp2_with fail
  refine (HDbc.out _ HL.out).mono ?_
  rintro e w3 ⟨v2, n2, c2, r2, rfl, ⟨a2, d2, rfl⟩, D2⟩
  replace BA := BA.kept D2.l
  replace BB := BB.kept D2.l
  replace BC := BC.kept D2.l
  replace HL := hid (below_trans HL.out D2.l)
  have HW3 := hid D2.l
  have HD2 := hid D2
  clear D2
  clear x1 x2 x3 z1 z2 z3
  have x1 := BA.cellF
  have z1 := BA.lt
  have x2 := BB.cellF
  have z2 := BB.lt
  have x3 := BC.cellF
  have z3 := BC.lt
  by_cases g1 : goodB a = true ∧ goodB b = true
  case neg =>
    obtain ⟨e1, e2, e3⟩ := HD1.out.no g1
    subst e2 e3
    clear e1 HD1 HD2
    go_wp2
    go_ret
    exact ⟨rfl, by have := HL.out; exact blBy⟩
  case pos =>
  obtain ⟨va, vc, e1, e2, e3, hrow⟩ := HD1.out.yes g1
  have HBK1 := hid (back1 (HGa.out g1.1) (HGb.out g1.2))
  have HBK2 := hid (back2 (HGa.out g1.1) (HGb.out g1.2))
  have HTR := hid (@ws_trans a b c)
  have HSM := hid (same_refl (HGa.out g1.1))
  have HGE := hid (wsC_ge (difL a b))
  injection e1 with e4 e5 e6
  subst e2 e3 e4 e5 e6
  have HR := hid (hrow.kept HW3.out)
  obtain ⟨_, _, e, hn1⟩ := rowS_sl hrow
  clear e hrow HD1
  by_cases g2 : goodB b = true ∧ goodB c = true
  case neg =>
    obtain ⟨e1, e2, e3⟩ := HD2.out.no g2
    subst e2 e3
    clear e1 HD2
    go_wp2
    go_ret
    exact ⟨rfl, by have := HL.out; exact blBy⟩
  case pos =>
  obtain ⟨vb, vd, e1, e2, e3, -⟩ := HD2.out.yes g2
  injection e1 with e4 e5 e6
  subst e2 e3 e4 e5 e6
  clear HD2 HGa HGb
  have h63 : ((difL a b).length : Int) ≤ 9223372036854775807 := by omega
  generalize difL a b = L at *
  generalize difL b c = M at *
  go_wp2_with fail
  refine (HDaa.out _ HL.out).mono ?_
  rintro e w4 ⟨v3, n3, c3, r3, rfl, ⟨a3, d3, rfl⟩, D3⟩
  obtain ⟨vb, vd, e1, e2, e3, -⟩ := D3.yes ⟨g1.1, g1.1⟩
  rw [HSM.out] at e1 e2
  injection e1 with e4 e5 e6
  replace e2 : c3 = 1 := e2
  replace e5 : n3 = 0 := e5
  subst e2 e3 e4 e5 e6
  replace HR := hid (HR.out.kept D3.l)
  replace BA := BA.kept D3.l
  replace BB := BB.kept D3.l
  replace BC := BC.kept D3.l
  replace HL := hid (below_trans HL.out D3.l)
  clear D3 HSM HDab HDbc HDaa
  clear x1 x2 x3 z1 z2 z3
  have x1 := BA.cellF
  have z1 := BA.lt
  have x2 := BB.cellF
  have z2 := BB.lt
  have x3 := BC.cellF
  have z3 := BC.lt
  go_wp2
  go_loopw [15, 16] (fun t r wr => ∃ j : Nat, t = .int .i64 (wsC (L.take j)) ∧ r = .int .i64 j ∧ j ≤ L.length ∧ Hid (Below w4.heap.size w4 wr)) (fun t r wr => L.length - numAt wr r)
  case atStart => exact ⟨0, rfl, rfl, by omega, hid (Below.refl _ _)⟩
  case round =>
    obtain ⟨j, rfl, rfl, hj, hb⟩ := hrel
    by_cases hlt : j < L.length
    · have k1 : (j : Int) < (L.length : Int) := by omega
      have HS : Hid (wsC (L.take (j + 1)) = max (wsC (L.take j)) L[j].cls) := hid (by rw [List.take_succ_eq_append_getElem hlt, wsC_snoc])
      obtain ⟨pb, po, epb, hpb, c0, -⟩ := rowC (HR.out.kept hb.out) hlt
      subst epb
      generalize L[j] = x at *
      generalize wsC (L.take j) = t0 at *
      go_wp2
      exact ⟨⟨j + 1, by rw [HS.out], by simp, by omega, hid (by have := hb.out; first | exact this | exact bl_drewN this _ | exact bl_drew this | exact blBy)⟩, by simp [numAt]; omega⟩
    · have k1 : ¬ (j : Int) < (L.length : Int) := by omega
      have E : Hid (L.take j = L) := hid (List.take_of_length_le (by omega))
      rw [E.out]
      replace BA := BA.kept hb.out
      replace BB := BB.kept hb.out
      replace BC := BC.kept hb.out
      replace HL := hid (below_trans HL.out hb.out)
      clear E HR hb
      clear x1 x2 x3 z1 z2 z3
      have x1 := BA.cellF
      have z1 := BA.lt
      have x2 := BB.cellF
      have z2 := BB.lt
      have x3 := BC.cellF
      have z3 := BC.lt
      generalize wsC L = X at *
      have q1 : (X != X) = false := by simp
      go_wp2_with fail
      refine (HDba.out _ HL.out).mono ?_
      rintro e w5 ⟨v5, n5, c5, r5, rfl, ⟨a5, d5, rfl⟩, D5⟩
      obtain ⟨vb, vd, e1, e2, e3, -⟩ := D5.yes ⟨g1.2, g1.1⟩
      injection e1 with e4 e5 e6
      subst e2 e3 e4 e5 e6
      replace BA := BA.kept D5.l
      replace BB := BB.kept D5.l
      replace BC := BC.kept D5.l
      replace HL := hid (below_trans HL.out D5.l)
      clear D5 HDba q1
      clear x1 x2 x3 z1 z2 z3
      have x1 := BA.cellF
      have z1 := BA.lt
      have x2 := BB.cellF
      have z2 := BB.lt
      have x3 := BC.cellF
      have z3 := BC.lt
      generalize wsC (difL b a) = Y at *
      generalize wsC M = V at *
      have HKEY : Hid (∀ (Q : Prop), (X = 1 → Y = 1 → Q) → (X = 2 → Y = 4 → Q) → (2 < X → Q) → Q) := hid fun Q h1 h2 h3 => by
        have g := HGE.out
        by_cases e1 : X = 1
        · exact h1 e1 (HBK1.out e1)
        · by_cases e2 : X = 2
          · exact h2 e2 (HBK2.out e2)
          · exact h3 (by omega)
      clear HBK1 HBK2 HGE
      refine HKEY.out _ (fun hx hy => ?_) (fun hx hy => ?_) (fun hx => ?_)
      · subst hx hy
        go_wp2_with fail
        refine (HDac.out _ HL.out).mono ?_
        rintro e w6 ⟨v6, n6, c6, r6, rfl, ⟨a6, d6, rfl⟩, D6⟩
        obtain ⟨vb, vd, e1, e2, e3, -⟩ := D6.yes ⟨g1.1, g2.2⟩
        injection e1 with e4 e5 e6
        subst e2 e3 e4 e5 e6
        replace HL := hid (below_trans HL.out D6.l)
        generalize wsC (difL a c) = Z at *
        clear D6 x1 x2 x3 z1 z2 z3
        by_cases hv : V ≤ 2
        · have hz := HTR.out (by decide) hv
          have f1 : (2 < V) = False := eq_false (by omega)
          have f2 : (Z ≤ 2) = True := eq_true hz
          clear hz hv HTR
          go_wp2
          go_ret
          exact ⟨rfl, by have := HL.out; exact blBy⟩
        · have f1 : (2 < V) = True := eq_true (by omega)
          clear hv HTR
          go_wp2
          go_ret
          exact ⟨rfl, by have := HL.out; exact blBy⟩
      · subst hx hy
        go_wp2_with fail
        refine (HDac.out _ HL.out).mono ?_
        rintro e w6 ⟨v6, n6, c6, r6, rfl, ⟨a6, d6, rfl⟩, D6⟩
        obtain ⟨vb, vd, e1, e2, e3, -⟩ := D6.yes ⟨g1.1, g2.2⟩
        injection e1 with e4 e5 e6
        subst e2 e3 e4 e5 e6
        replace HL := hid (below_trans HL.out D6.l)
        generalize wsC (difL a c) = Z at *
        clear D6 x1 x2 x3 z1 z2 z3
        by_cases hv : V ≤ 2
        · have hz := HTR.out (by decide) hv
          have f1 : (2 < V) = False := eq_false (by omega)
          have f2 : (Z ≤ 2) = True := eq_true hz
          clear hz hv HTR
          go_wp2
          go_ret
          exact ⟨rfl, by have := HL.out; exact blBy⟩
        · have f1 : (2 < V) = True := eq_true (by omega)
          clear hv HTR
          go_wp2
          go_ret
          exact ⟨rfl, by have := HL.out; exact blBy⟩
      · have p1 : (X == 2) = false := by rw [beq_eq_false_iff_ne]; omega
        have p2 : (X == 1) = false := by rw [beq_eq_false_iff_ne]; omega
        go_wp2_with fail
        refine (HDac.out _ HL.out).mono ?_
        rintro e w6 ⟨v6, n6, c6, r6, rfl, ⟨a6, d6, rfl⟩, D6⟩
        obtain ⟨vb, vd, e1, e2, e3, -⟩ := D6.yes ⟨g1.1, g2.2⟩
        injection e1 with e4 e5 e6
        subst e2 e3 e4 e5 e6
        replace HL := hid (below_trans HL.out D6.l)
        generalize wsC (difL a c) = Z at *
        clear D6 x1 x2 x3 z1 z2 z3
        have f1 : (2 < X) = True := eq_true hx
        clear hx HTR
        go_wp2
        go_ret
        exact ⟨rfl, by have := HL.out; exact blBy⟩
end Go.Proofs.YtmfaakimhgkedaaDoor
namespace Go.Proofs.YtmfaakimhgkedaaDoor
open Go.ChangeShapes Go.WideShapes Go.ChangeAt Go.RowKit Go.Deep
set_option maxRecDepth 1000000
section
variable {H : Type}
theorem bulk_one (d : DataW H) : 1 ≤ Rows.uptoBulk d := by
  cases d with
  | lit l => cases l <;> simp [Rows.uptoBulk]
  | nil => simp [Rows.uptoBulk]
  | ptr d => simp [Rows.uptoBulk]
  | slice elems spare => simp [Rows.uptoBulk]
  | agg parts => simp [Rows.uptoBulk]
  | iface t d => simp [Rows.uptoBulk]
  | map entries => simp [Rows.uptoBulk]
  | held h => simp [Rows.uptoBulk]
theorem bulk_length (l : List (DataW H)) : l.length ≤ Rows.uptoBulkAll l := by
  induction l with
  | nil => simp [Rows.uptoBulkAll]
  | cons x r ih => have := bulk_one x; simp only [Rows.uptoBulkAll, List.length_cons]; omega
theorem small_le {l : List (DataW H)} (hk : Rows.uptoSmall H l = true) : Rows.uptoBulkAll l ≤ 1048576 := of_decide_eq_true hk
end
/-- The numbers of a string's bytes. -/
def numsS (s : ByteArray) : List Int := s.data.toList.map fun b => (b.toNat : Int)
theorem numsS_str (s : ByteArray) : strOfNums (numsS s) = s := by
  apply ByteArray.ext
  apply Array.ext'
  simp [strOfNums, numsS, Function.comp_def]
theorem numsS_bd (s : ByteArray) : ∀ x ∈ numsS s, 0 ≤ x ∧ x ≤ 255 := by
  intro x hx
  obtain ⟨b, _, rfl⟩ := List.mem_map.1 hx
  have := b.toNat_lt
  omega
theorem numsS_len (s : ByteArray) : (numsS s).length = s.data.toList.length := by simp [numsS]
end Go.Proofs.YtmfaakimhgkedaaDoor
namespace Go.Proofs.YtmfaakimhgkedaaDoor
open Go.ChangeShapes Go.WideShapes Go.ChangeAt Go.RowKit Go.Deep
set_option maxRecDepth 1000000
set_option linter.unusedVariables false
set_option linter.unusedSimpArgs false
set_option maxHeartbeats 1000000
section
variable {H : Type} {enc : TypeId × Value → H} {W : World} {spare : Nat → Bool} {held : Bool}
/-- A struct of fields of one cell each, opened. -/
theorem struct_open {t : TypeId} {fs : Array Field} (ht : Tryd.prog.underlying t = some (.struct fs)) (hone : oneCellFields Tryd.prog fs = true) (hsz : Tryd.prog.cellsOf t = fs.size) {fuel : Nat} {cs : List Value} {y : DataW H × List MemPlace} (h : DataW.trod enc Tryd.prog W 0 spare held fuel t cs = some y) :
    ∃ (xs : List (DataW H × List MemPlace)) (n : Nat), y.1 = .agg (xs.map (·.1)) ∧ xs.length = fs.size ∧ cs.length = fs.size ∧ ∀ (i : Nat) (f : Field), fs[i]? = some f → ∃ v yi, cs[i]? = some v ∧ xs[i]? = some yi ∧ DataW.trod enc Tryd.prog W 0 spare held n f.type [v] = some yi := by
  obtain ⟨xs, n, _, rfl, hl, hlen, hf⟩ := DataW.trod_struct ht h
  refine ⟨xs, n, rfl, hlen, hl.trans hsz, fun i f hi => ?_⟩
  have hlt : i < fs.size := (Array.getElem?_eq_some_iff.1 hi).1
  obtain ⟨o1, o2⟩ := hone_of hone i f hi
  have hc : i < cs.length := by omega
  have hx : i < xs.length := by omega
  refine ⟨cs[i], xs[i], by simp [hc], by simp [hx], ?_⟩
  have := hf i f hi
  have e : (cs.drop i).take 1 = [cs[i]] := by rw [List.drop_eq_getElem_cons hc]; rfl
  rw [o1, o2, e] at this
  rw [this]
  simp [hx]
theorem bulk_mem {l : List (DataW H)} {d : DataW H} (h : d ∈ l) : Rows.uptoBulk d ≤ Rows.uptoBulkAll l := by
  induction l with
  | nil => cases h
  | cons x r ih =>
    simp only [Rows.uptoBulkAll]
    rcases List.mem_cons.1 h with rfl | h
    · omega
    · have := ih h; omega
theorem bulk_get {xs : List (DataW H × List MemPlace)} {i : Nat} {y : DataW H × List MemPlace} (h : xs[i]? = some y) : Rows.uptoBulk y.1 + 1 ≤ Rows.uptoBulk (DataW.agg (xs.map (·.1))) := by
  have := bulk_mem (l := xs.map (·.1)) (d := y.1) (List.mem_map.2 ⟨y, List.mem_of_getElem? h, rfl⟩)
  simp only [Rows.uptoBulk]
  omega
/-- A row of structs, opened. -/
theorem rows_open {α : Type} (g : α → List Value) (K : Nat) (hK0 : 0 < K) (Q : α → DataW H → Prop) {t e : TypeId} (ht : Tryd.prog.underlying t = some (.slice e)) (hK : Tryd.prog.cellsOf e = K) (hg : ∀ x, (g x).length = K)
    (hel : ∀ (n : Nat) (cs : List Value) (y : DataW H × List MemPlace), DataW.trod enc Tryd.prog W 0 spare held n e cs = some y → ∃ x, cs = g x ∧ Q x y.1) {fuel : Nat} {v : Value} {y : DataW H × List MemPlace} (hf : DataW.trod enc Tryd.prog W 0 spare held fuel t [v] = some y) :
    ∃ (a : Option Addr) (cap : Nat) (xs : List α), v = .slice a xs.length cap ∧ RowS W AnyZ K v xs.length (xs.flatMap g) ∧ xs.length + 1 ≤ Rows.uptoBulk y.1 ∧ ∀ x ∈ xs, ∃ d, Q x d ∧ Rows.uptoBulk d ≤ Rows.uptoBulk y.1 := by
  rcases open_slice ht hf with ⟨hcs, rfl⟩ | ⟨a, len, cap, m, n, D, Pl, hcs, _, hl, hm, hmm, rfl, hx⟩
  · simp at hcs
    subst hcs
    exact ⟨none, 0, [], rfl, rowS_nil _ _ _, by simp [Rows.uptoBulk], fun x hx => by cases hx⟩
  · simp at hcs
    subst hcs
    rw [hK] at hx
    have hlm : len ≤ m := by rw [hmm]; split <;> omega
    have hc : ∀ i, i < len → ∃ x : α, W.cells? 0 (a.add (i * K)) K = some (g x) ∧ Q x (D i) := fun i hi => by
      obtain ⟨cs', h1, h2⟩ := hx i (by omega)
      obtain ⟨x, rfl, hq⟩ := hel _ _ _ h2
      exact ⟨x, h1, hq⟩
    obtain ⟨xs, hxl, hxs⟩ : ∃ xs : List α, xs.length = len ∧ ∀ i (h : i < xs.length), W.cells? 0 (a.add (i * K)) K = some (g xs[i]) ∧ Q xs[i] (D i) := by
      clear hx hl hlm hmm hf
      induction len with
      | zero => exact ⟨[], rfl, fun i h => by simp at h⟩
      | succ k ih =>
        obtain ⟨xs, h1, h2⟩ := ih (fun i hi => hc i (by omega))
        obtain ⟨x, h3, h4⟩ := hc k (by omega)
        refine ⟨xs ++ [x], by simp [h1], fun i h => ?_⟩
        by_cases e : i < xs.length
        · rw [List.getElem_append_left e]; exact h2 i e
        · have ei : i = k := by simp at h; omega
          subst ei
          rw [List.getElem_append_right (by omega)]
          simp [h1, h3, h4]
    subst hxl
    have hb : ∀ i, i < xs.length → D i ∈ (List.range xs.length).map D := fun i hi => List.mem_map.2 ⟨i, List.mem_range.2 hi, rfl⟩
    refine ⟨some a, cap, xs, rfl, ⟨some a, cap, rfl, flatM_len hg xs, hl, by unfold maxLen at hm; omega, ?_⟩, ?_, fun x hxm => ?_⟩
    · by_cases h0 : xs.length = 0
      · exact .inl ⟨h0, fun e => by cases e⟩
      · obtain ⟨b, off, spot⟩ := a
        have hspot : spot = none := by
          have h1 := (World.cells?_some (hxs 0 (by omega)).1).2.2 0 hK0
          have h2 : (g xs[0])[0]? = some ((g xs[0])[0]'(by rw [hg]; exact hK0)) := by simp
          rw [h2] at h1
          simpa [Addr.add] using World.cell?_spot h1
        subst hspot
        refine .inr ⟨b, off, rfl, trivial, fun j u hu => ?_⟩
        have hj : j < xs.length * K := by rw [← flatM_len hg xs]; exact (List.getElem?_eq_some_iff.1 hu).1
        have hi : j / K < xs.length := (Nat.div_lt_iff_lt_mul hK0).2 hj
        have hr : j % K < K := Nat.mod_lt _ hK0
        have hjj : j / K * K + j % K = j := by rw [Nat.mul_comm]; exact Nat.div_add_mod j K
        have h2 : (g xs[j / K])[j % K]? = some ((g xs[j / K])[j % K]'(by rw [hg]; exact hr)) := by simp
        have h3 := flatM_get hg xs (j / K) (j % K) xs[j / K] _ (by simp [hi]) h2
        rw [hjj] at h3
        rw [h3] at hu
        have h1 := (World.cells?_some (hxs (j / K) hi).1).2.2 (j % K) hr
        have hadd : ((⟨b, off, none⟩ : Addr).add (j / K * K)).add (j % K) = ⟨b, off + j, none⟩ := by
          have e1 : ∀ (o i : Nat), (⟨b, o, none⟩ : Addr).add i = ⟨b, o + i, none⟩ := fun o i => by unfold Addr.add; split <;> simp_all
          rw [e1, e1, Nat.add_assoc, hjj]
        rw [hadd, h2] at h1
        rw [h1]
        exact hu
    · simp only [Rows.uptoBulk]
      have := bulk_length ((List.range xs.length).map D)
      simp at this
      omega
    · obtain ⟨i, hi, rfl⟩ := List.mem_iff_getElem.1 hxm
      refine ⟨D i, (hxs i hi).2, ?_⟩
      have := bulk_mem (hb i hi)
      simp only [Rows.uptoBulk]
      omega
/-- What a text that was read is. -/
def okX (b : Nat) (x : List Int) : Prop := TxA x ∧ x.length + 1 ≤ b
theorem str_open {n : Nat} {v : Value} {y : DataW H × List MemPlace} (h : DataW.trod enc Tryd.prog W 0 spare held n 9 [v] = some y) : ∃ x : List Int, v = .string (strOfNums x) ∧ okX (Rows.uptoBulk y.1) x := by
  obtain ⟨s, e, rfl, hs⟩ := DataW.trod_string Tryd.underlying9 h
  simp at e
  subst e
  refine ⟨numsS s, by rw [numsS_str], ⟨numsS_bd s, ?_⟩, ?_⟩
  · rw [numsS_len]
    unfold maxLen at hs
    simpa using hs
  · rw [numsS_len]
    simp [Rows.uptoBulk]
theorem int_open {n : Nat} {v : Value} {y : DataW H × List MemPlace} (h : DataW.trod enc Tryd.prog W 0 spare held n 3 [v] = some y) : ∃ x : Int, v = .int .i64 x ∧ I64 x := by
  obtain ⟨x, e, rfl, hs⟩ := DataW.trod_int Tryd.underlying3 h
  simp at e
  subst e
  refine ⟨x, rfl, ?_⟩
  unfold I64
  simp [Lit.wf, IntKind.min, IntKind.max, IntKind.signed, IntKind.bits] at hs
  omega
end
end Go.Proofs.YtmfaakimhgkedaaDoor
namespace Go.Proofs.YtmfaakimhgkedaaDoor
open Go.ChangeShapes Go.WideShapes Go.ChangeAt Go.RowKit Go.Deep
set_option maxRecDepth 1000000
set_option linter.unusedVariables false
set_option linter.unusedSimpArgs false
set_option maxHeartbeats 1000000
theorem fieldsF : ∃ f0 f1 f2 f3 f4 f5 f6, Tryd.prog.underlying 29 = some (.struct #[f0, f1, f2, f3, f4, f5, f6]) ∧ oneCellFields Tryd.prog #[f0, f1, f2, f3, f4, f5, f6] = true ∧ Tryd.prog.cellsOf 29 = 7 ∧ f0.type = 9 ∧ f1.type = 3 ∧ f2.type = 3 ∧ f3.type = 3 ∧ f4.type = 3 ∧ f5.type = 3 ∧ f6.type = 3 :=
  ⟨_, _, _, _, _, _, _, Tryd.underlying29, by kernel_rfl, by kernel_rfl, by kernel_rfl, by kernel_rfl, by kernel_rfl, by kernel_rfl, by kernel_rfl, by kernel_rfl, by kernel_rfl⟩
theorem fieldsS : ∃ f0 f1, Tryd.prog.underlying 37 = some (.struct #[f0, f1]) ∧ oneCellFields Tryd.prog #[f0, f1] = true ∧ Tryd.prog.cellsOf 37 = 2 ∧ f0.type = 9 ∧ f1.type = 3 :=
  ⟨_, _, Tryd.underlying37, by kernel_rfl, by kernel_rfl, by kernel_rfl, by kernel_rfl⟩
theorem fieldsR : ∃ f0 f1, Tryd.prog.underlying 88 = some (.struct #[f0, f1]) ∧ oneCellFields Tryd.prog #[f0, f1] = true ∧ Tryd.prog.cellsOf 88 = 2 ∧ f0.type = 3 ∧ f1.type = 3 :=
  ⟨_, _, Tryd.underlying88, by kernel_rfl, by kernel_rfl, by kernel_rfl, by kernel_rfl⟩
theorem fieldsT : ∃ f0 f1 f2 f3 f4 f5, Tryd.prog.underlying 35 = some (.struct #[f0, f1, f2, f3, f4, f5]) ∧ oneCellFields Tryd.prog #[f0, f1, f2, f3, f4, f5] = true ∧ Tryd.prog.cellsOf 35 = 6 ∧ f0.type = 9 ∧ f1.type = 4 ∧ f2.type = 30 ∧ f3.type = 31 ∧ f4.type = 32 ∧ f5.type = 33 :=
  ⟨_, _, _, _, _, _, Tryd.underlying35, by kernel_rfl, by kernel_rfl, by kernel_rfl, by kernel_rfl, by kernel_rfl, by kernel_rfl, by kernel_rfl, by kernel_rfl⟩
theorem list_eq {cs : List Value} : ∀ (l : List Value), cs.length = l.length → (∀ (i : Nat) (v : Value), l[i]? = some v → cs[i]? = some v) → cs = l := fun l hl h => by
  apply List.ext_getElem? 
  intro i
  by_cases hi : i < l.length
  · rw [h i l[i] (by simp [hi])]; simp [hi]
  · rw [List.getElem?_eq_none (by omega), List.getElem?_eq_none (by omega)]
section
variable {H : Type} {enc : TypeId × Value → H} {W : World} {spare : Nat → Bool} {held : Bool}
theorem ft_open (n : Nat) (cs : List Value) (y : DataW H × List MemPlace) (h : DataW.trod enc Tryd.prog W 0 spare held n 29 cs = some y) : ∃ x : FT, cs = cFT x ∧ okX (Rows.uptoBulk y.1) x.name := by
  obtain ⟨f0, f1, f2, f3, f4, f5, f6, hs, hone, hsz, t0, t1, t2, t3, t4, t5, t6⟩ := fieldsF
  obtain ⟨xs, m, hy, hxl, hcl, hi⟩ := struct_open hs hone hsz h
  obtain ⟨v0, y0, c0, x0, h0⟩ := hi 0 f0 rfl
  rw [t0] at h0
  obtain ⟨v1, y1, c1, x1, h1⟩ := hi 1 f1 rfl
  rw [t1] at h1
  obtain ⟨v2, y2, c2, x2, h2⟩ := hi 2 f2 rfl
  rw [t2] at h2
  obtain ⟨v3, y3, c3, x3, h3⟩ := hi 3 f3 rfl
  rw [t3] at h3
  obtain ⟨v4, y4, c4, x4, h4⟩ := hi 4 f4 rfl
  rw [t4] at h4
  obtain ⟨v5, y5, c5, x5, h5⟩ := hi 5 f5 rfl
  rw [t5] at h5
  obtain ⟨v6, y6, c6, x6, h6⟩ := hi 6 f6 rfl
  rw [t6] at h6
  obtain ⟨a0, rfl, k0⟩ := str_open h0
  obtain ⟨a1, rfl, k1⟩ := int_open h1
  obtain ⟨a2, rfl, k2⟩ := int_open h2
  obtain ⟨a3, rfl, k3⟩ := int_open h3
  obtain ⟨a4, rfl, k4⟩ := int_open h4
  obtain ⟨a5, rfl, k5⟩ := int_open h5
  obtain ⟨a6, rfl, k6⟩ := int_open h6
  refine ⟨⟨a0, a1, a2, a3, a4, a5, a6⟩, list_eq _ (by rw [hcl]; rfl) fun i v hv => ?_, k0.1, ?_⟩
  · match i, hv with
    | 0, hv => simp [cFT] at hv; subst hv; exact c0
    | 1, hv => simp [cFT] at hv; subst hv; exact c1
    | 2, hv => simp [cFT] at hv; subst hv; exact c2
    | 3, hv => simp [cFT] at hv; subst hv; exact c3
    | 4, hv => simp [cFT] at hv; subst hv; exact c4
    | 5, hv => simp [cFT] at hv; subst hv; exact c5
    | 6, hv => simp [cFT] at hv; subst hv; exact c6
    | i + 7, hv => simp [cFT] at hv
  · have := bulk_get x0
    rw [hy]
    have := k0.2
    dsimp only
    omega
theorem sy_open (n : Nat) (cs : List Value) (y : DataW H × List MemPlace) (h : DataW.trod enc Tryd.prog W 0 spare held n 37 cs = some y) : ∃ x : SY, cs = cSY x ∧ (okX (Rows.uptoBulk y.1) x.name ∧ I64 x.num) := by
  obtain ⟨f0, f1, hs, hone, hsz, t0, t1⟩ := fieldsS
  obtain ⟨xs, m, hy, hxl, hcl, hi⟩ := struct_open hs hone hsz h
  obtain ⟨v0, y0, c0, x0, h0⟩ := hi 0 f0 rfl
  rw [t0] at h0
  obtain ⟨v1, y1, c1, x1, h1⟩ := hi 1 f1 rfl
  rw [t1] at h1
  obtain ⟨a0, rfl, k0⟩ := str_open h0
  obtain ⟨a1, rfl, k1⟩ := int_open h1
  refine ⟨⟨a0, a1⟩, list_eq _ (by rw [hcl]; rfl) fun i v hv => ?_, ⟨k0.1, ?_⟩, k1⟩
  · match i, hv with
    | 0, hv => simp [cSY] at hv; subst hv; exact c0
    | 1, hv => simp [cSY] at hv; subst hv; exact c1
    | i + 2, hv => simp [cSY] at hv
  · have := bulk_get x0
    rw [hy]
    have := k0.2
    dsimp only
    omega
theorem rg_open (n : Nat) (cs : List Value) (y : DataW H × List MemPlace) (h : DataW.trod enc Tryd.prog W 0 spare held n 88 cs = some y) : ∃ x : RG, cs = cRG x ∧ True := by
  obtain ⟨f0, f1, hs, hone, hsz, t0, t1⟩ := fieldsR
  obtain ⟨xs, m, hy, hxl, hcl, hi⟩ := struct_open hs hone hsz h
  obtain ⟨v0, y0, c0, x0, h0⟩ := hi 0 f0 rfl
  rw [t0] at h0
  obtain ⟨v1, y1, c1, x1, h1⟩ := hi 1 f1 rfl
  rw [t1] at h1
  obtain ⟨a0, rfl, k0⟩ := int_open h0
  obtain ⟨a1, rfl, k1⟩ := int_open h1
  refine ⟨⟨a0, a1⟩, list_eq _ (by rw [hcl]; rfl) fun i v hv => ?_, trivial⟩
  match i, hv with
  | 0, hv => simp [cRG] at hv; subst hv; exact c0
  | 1, hv => simp [cRG] at hv; subst hv; exact c1
  | i + 2, hv => simp [cRG] at hv
theorem st_open (n : Nat) (cs : List Value) (y : DataW H × List MemPlace) (h : DataW.trod enc Tryd.prog W 0 spare held n 9 cs = some y) : ∃ x : List Int, cs = cN x ∧ okX (Rows.uptoBulk y.1) x := by
  obtain ⟨s, e, _⟩ := DataW.trod_string Tryd.underlying9 h
  subst e
  obtain ⟨x, e, k⟩ := str_open h
  exact ⟨x, by rw [e]; rfl, k⟩
theorem tv_open (n : Nat) (cs : List Value) (y : DataW H × List MemPlace) (h : DataW.trod enc Tryd.prog W 0 spare held n 35 cs = some y) : ∃ x : TV, cs = cTV x ∧ (TyR W x ∧ (Rows.uptoBulk y.1 ≤ 1048576 → OkV x ∧ x.t.name.length < 4000000)) := by
  obtain ⟨f0, f1, f2, f3, f4, f5, hs, hone, hsz, t0, t1, t2, t3, t4, t5⟩ := fieldsT
  obtain ⟨xs, m, hy, hxl, hcl, hi⟩ := struct_open hs hone hsz h
  obtain ⟨v0, y0, c0, x0, h0⟩ := hi 0 f0 rfl
  rw [t0] at h0
  have b0 := bulk_get x0
  obtain ⟨v1, y1, c1, x1, h1⟩ := hi 1 f1 rfl
  rw [t1] at h1
  have b1 := bulk_get x1
  obtain ⟨v2, y2, c2, x2, h2⟩ := hi 2 f2 rfl
  rw [t2] at h2
  have b2 := bulk_get x2
  obtain ⟨v3, y3, c3, x3, h3⟩ := hi 3 f3 rfl
  rw [t3] at h3
  have b3 := bulk_get x3
  obtain ⟨v4, y4, c4, x4, h4⟩ := hi 4 f4 rfl
  rw [t4] at h4
  have b4 := bulk_get x4
  obtain ⟨v5, y5, c5, x5, h5⟩ := hi 5 f5 rfl
  rw [t5] at h5
  have b5 := bulk_get x5
  rw [← hy] at b0 b1 b2 b3 b4 b5
  obtain ⟨a0, rfl, k0⟩ := str_open h0
  obtain ⟨e1, he1, _⟩ := DataW.trod_bool Tryd.underlying4 h1
  simp at he1
  subst he1
  obtain ⟨fa, fc, fs, rfl, rf, lf, qf⟩ := rows_open cFT 7 (by decide) (fun x d => okX (Rows.uptoBulk d) x.name) Tryd.underlying30 (by kernel_rfl) (fun _ => rfl) ft_open h2
  obtain ⟨oa, oc, os, rfl, ro, lo, qo⟩ := rows_open cN 1 (by decide) (fun x d => okX (Rows.uptoBulk d) x) Tryd.underlying31 (by kernel_rfl) (fun _ => rfl) st_open h3
  obtain ⟨sa, sc, ss, rfl, rs, ls, qs⟩ := rows_open cSY 2 (by decide) (fun x d => okX (Rows.uptoBulk d) x.name ∧ I64 x.num) Tryd.underlying32 (by kernel_rfl) (fun _ => rfl) sy_open h4
  obtain ⟨ra, rc, gs, rfl, rr, lr, qr⟩ := rows_open cRG 2 (by decide) (fun _ _ => True) Tryd.underlying33 (by kernel_rfl) (fun _ => rfl) rg_open h5
  refine ⟨⟨⟨a0, e1, fs, os, ss, gs⟩, _, _, _, _⟩, list_eq _ (by rw [hcl]; rfl) fun i v hv => ?_, ⟨rf, ro, rs, rr⟩, fun hb => ⟨⟨⟨k0.1, fun x hx => ?_, fun x hx => ?_, fun x hx => ?_⟩, ?_, ?_⟩, ?_⟩⟩
  · match i, hv with
    | 0, hv => simp [cTV] at hv; subst hv; exact c0
    | 1, hv => simp [cTV] at hv; subst hv; exact c1
    | 2, hv => simp [cTV] at hv; subst hv; exact c2
    | 3, hv => simp [cTV] at hv; subst hv; exact c3
    | 4, hv => simp [cTV] at hv; subst hv; exact c4
    | 5, hv => simp [cTV] at hv; subst hv; exact c5
    | i + 6, hv => simp [cTV] at hv
  · obtain ⟨d, hd, _⟩ := qf x hx
    exact hd.1
  · obtain ⟨d, hd, _⟩ := qo x hx
    exact hd.1
  · obtain ⟨d, hd, _⟩ := qs x hx
    exact ⟨hd.1.1, hd.2⟩
  · have := k0.2
    dsimp only
    omega
  · dsimp only
    omega
  · have := k0.2
    dsimp only
    omega
theorem fieldsB : ∃ f0, Tryd.prog.underlying 24 = some (.struct #[f0]) ∧ oneCellFields Tryd.prog #[f0] = true ∧ Tryd.prog.cellsOf 24 = 1 ∧ Tryd.prog.underlying f0.type = some (.slice 35) :=
  ⟨_, Tryd.underlying24, by kernel_rfl, by kernel_rfl, by kernel_rfl⟩
theorem tb_open {n : Nat} {v : Value} {y : DataW H × List MemPlace} (h : DataW.trod enc Tryd.prog W 0 spare held n 24 [v] = some y) : ∃ (a : Option Addr) (c : Nat) (l : List TV), v = .slice a l.length c ∧ TbR W (.slice a l.length c) l ∧ (Rows.uptoBulk y.1 ≤ 1048576 → ∀ x ∈ l, OkV x ∧ x.t.name.length < 4000000) := by
  obtain ⟨f0, hs, hone, hsz, t0⟩ := fieldsB
  obtain ⟨xs, m, hy, hxl, hcl, hi⟩ := struct_open hs hone hsz h
  obtain ⟨v0, y0, c0, x0, h0⟩ := hi 0 f0 rfl
  simp at c0
  subst c0
  have b0 := bulk_get x0
  rw [← hy] at b0
  obtain ⟨a, c, l, rfl, r, hl, q⟩ := rows_open cTV 6 (by decide) (fun x d => TyR W x ∧ (Rows.uptoBulk d ≤ 1048576 → OkV x ∧ x.t.name.length < 4000000)) t0 (by kernel_rfl) (fun _ => rfl) tv_open h0
  exact ⟨a, c, l, rfl, ⟨r, fun x hx => by obtain ⟨d, hd, _⟩ := q x hx; exact hd.1⟩, fun hb x hx => by obtain ⟨d, hd, hdb⟩ := q x hx; exact hd.2 (by omega)⟩
end
end Go.Proofs.YtmfaakimhgkedaaDoor
