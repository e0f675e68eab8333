/-
  'plain' says what at most additive means.
  The document's changes of a message.
  The document's changes of a message, in memory.
  The layer is awake.
  A name's names (the document's).
-/
import Derived.Test.YtmjgonckadcbkaaGreatDoorCEV14
import Derived.Test.YtmjgonckadcbkaaGreatDoorCEV11
import Derived.Test.YtmjgonckadcbkaaGreatDoorCEV28
import Derived.Test.YtmjgonckadcbkaaGreatDoorCTP
namespace Go.Proofs.YtmjgonckadcbkaaGreatDoor
open Go.RowKit
set_option maxRecDepth 1000000
set_option linter.unusedVariables false
set_option linter.unusedSimpArgs false
set_option maxHeartbeats 1000000
theorem nums_nodup {ss : List SY} (h : dfB ((ss.map SY.num).map litI) = true) : ss.Nodup := by
  rw [dfB_iff _ (fun x hx => by obtain ⟨y, _, rfl⟩ := List.mem_map.1 hx; trivial), List.Nodup, List.pairwise_map, List.pairwise_map] at h
  exact h.imp (fun h e => h (by rw [e]))
/-- What a good type has, as far as 'plain' asks. -/
structure TyP (t : TT) : Prop where
  e1 : t.enum = true → t.fs = [] ∧ t.rs = [] ∧ t.ss.Nodup ∧ ∀ s ∈ t.ss, ∀ r ∈ t.ss, s.num = r.num → s = r
  e2 : t.enum = false → t.ss = [] ∧ Srt t.rs 0
  kd : ∀ f ∈ t.fs, f.kind ≤ 17
theorem good_TyP {l : List TV} (hg : goodB l = true) {k : Nat} (hk : k < l.length) : TyP l[k].t := by
  have h := good_at hg hk
  unfold stepB at h
  simp only [Bool.and_eq_true] at h
  have h2 := h.2.2.2
  unfold typB at h2
  by_cases he : l[k].t.enum = true
  · rw [if_pos he, Bool.and_eq_true, decide_eq_true_eq] at h2
    have hf : l[k].t.fs = [] := List.eq_nil_of_length_eq_zero (by omega)
    have hr : l[k].t.rs = [] := List.eq_nil_of_length_eq_zero (by omega)
    have hd : dfB ((l[k].t.ss.map SY.num).map litI) = true := by
      have h3 := h2.2
      cases hs : l[k].t.ss with
      | nil => rw [hs] at h3; simp [symB] at h3
      | cons s r =>
        rw [hs] at h3
        unfold symB at h3
        simp only [Bool.and_eq_true] at h3
        exact h3.2.2.2.2.2
    exact ⟨fun _ => ⟨hf, hr, nums_nodup hd, nums_ne hd⟩, (fun e => by rw [he] at e; cases e), fun f hfm => by rw [hf] at hfm; cases hfm⟩
  · rw [if_neg he, Bool.and_eq_true, decide_eq_true_eq] at h2
    have h3 := h2.2
    unfold msgB at h3
    simp only [Bool.and_eq_true, decide_eq_true_eq, List.all_eq_true] at h3
    obtain ⟨-, a3, -, a5, -⟩ := h3
    refine ⟨fun e => absurd e he, fun _ => ⟨List.eq_nil_of_length_eq_zero h2.1, free_srt _ 0 a5⟩, fun f hf => ?_⟩
    have := a3 f hf
    unfold fldB at this
    simp only [Bool.and_eq_true, decide_eq_true_eq] at this
    exact this.1.2
/-- What one old field tells, by all new ones. -/
def md1 (nm : List Int) (a b : List TV) (s t : TT) (f g : FT) : List CH := if g.num = f.num then fdL nm f g (refN a f) (refN b g) (oneN s f) (oneN t g) else []
def mdL (nm : List Int) (a b : List TV) (s t : TT) (f : FT) : List CH := t.fs.flatMap (md1 nm a b s t f) ++ (if hasN t.fs f.num = true then [] else [⟨4, 5, nm, f.num⟩])
theorem md1_le (nm : List Int) (a b : List TV) (s t : TT) (f g : FT) : (md1 nm a b s t f g).length ≤ 3 := by
  unfold md1
  split
  · exact fdL_le _ _ _ _ _ _ _
  · simp
theorem md_none (nm : List Int) (a b : List TV) (s t : TT) (f : FT) : ∀ gs : List FT, hasN gs f.num = false → gs.flatMap (md1 nm a b s t f) = []
  | [], _ => rfl
  | g :: gs, h => by
    unfold hasN at h
    rw [List.any_cons, Bool.or_eq_false_iff] at h
    rw [List.flatMap_cons, md_none nm a b s t f gs h.2]
    unfold md1
    rw [if_neg (by simpa using h.1)]
    rfl
theorem md_one (nm : List Int) (a b : List TV) (s t : TT) (f : FT) : ∀ gs : List FT, gs.Pairwise (fun x y => x.num ≠ y.num) → ∀ g, gs.find? (fdI f.num) = some g → gs.flatMap (md1 nm a b s t f) = fdL nm f g (refN a f) (refN b g) (oneN s f) (oneN t g)
  | [], _, g, h => by cases h
  | z :: gs, hu, g, h => by
    rw [List.find?_cons] at h
    rw [List.pairwise_cons] at hu
    rw [List.flatMap_cons]
    cases q : fdI f.num z with
    | true =>
      rw [q] at h
      cases h
      have e : z.num = f.num := by unfold fdI at q; simpa using q
      have hn : hasN gs f.num = false := by
        unfold hasN
        rw [List.any_eq_false]
        intro y' hy
        have := hu.1 y' hy
        simp
        omega
      rw [md_none nm a b s t f gs hn, List.append_nil]
      unfold md1
      rw [if_pos e]
    | false =>
      rw [q] at h
      have e : ¬ z.num = f.num := by unfold fdI at q; simpa using q
      rw [md_one nm a b s t f gs hu.2 g h]
      unfold md1
      rw [if_neg e]
      rfl
theorem md_is {nm : List Int} {a b : List TV} {s t : TT} (hu : t.fs.Pairwise (fun x y => x.num ≠ y.num)) (f : FT) : mdL nm a b s t f = mb1 nm a b s t f := by
  unfold mdL mb1
  have hh := has_find t.fs f.num
  cases h : t.fs.find? (fdI f.num) with
  | none =>
    rw [h] at hh
    have h2 : hasN t.fs f.num = false := by simpa using hh
    rw [md_none nm a b s t f t.fs h2, h2]
    rfl
  | some g =>
    rw [h] at hh
    have h2 : hasN t.fs f.num = true := by simpa using hh
    rw [if_pos h2, List.append_nil, md_one nm a b s t f t.fs hu g h]
theorem rise_pw {fs : List FT} (h : Rise fs) : fs.Pairwise (fun x y => x.num ≠ y.num) := by
  rw [List.pairwise_iff_getElem]
  intro i j hi hj hij
  have := h i j hij hj hi
  omega
/-- Reserved numbers, as the document says it. -/
def rdL (nm : List Int) (a b : List RG) : List CH := if witB a b = true then (if witB b a = true then [] else [⟨3, 10, nm, 0⟩]) else [⟨4, 10, nm, 0⟩]
theorem rd_is {nm : List Int} {a b : List RG} (ha : Srt a 0) (hb : Srt b 0) : rdL nm a b = rsL nm a b := by
  unfold rdL rsL
  have h1 : witB a b = true ↔ SubR a b := wit_iff (srt_le ha) hb
  have h2 : witB b a = true ↔ SubR b a := wit_iff (srt_le hb) ha
  by_cases p : SubR a b
  · rw [if_pos (h1.2 p)]
    by_cases q : SubR b a
    · rw [if_pos (h2.2 q), if_pos ((rgsB_iff _ _).2 ((jn_same ha hb).2 ⟨p, q⟩))]
    · rw [if_neg (fun h => q (h2.1 h)), if_neg (fun h => q ((jn_same ha hb).1 ((rgsB_iff _ _).1 h)).2), (jn_sub ha hb).2 p]
      rfl
  · have hc : covB (jnL b) (jnL a) = false := by
      rw [← Bool.not_eq_true]
      exact fun h => p ((jn_sub ha hb).1 h)
    rw [if_neg (fun h => p (h1.1 h)), if_neg (fun h => p ((jn_same ha hb).1 ((rgsB_iff _ _).1 h)).1), hc]
    rfl
set_option maxHeartbeats 2000000
theorem own_rcf {base : Nat} {w w' : World} {b e size n : Nat} {v : Value} {fl : List Value} (h : w.ownsRow b e size v n fl) (g : RcF base w w') (he : e ≠ 66) : w'.ownsRow b e size v n fl :=
  own_keep (f := fun k => ∀ cs fr, w.heap[k]? ≠ some (.cells cs 66 fr)) h (fun k hk cs fr q => by
    obtain ⟨_, _, cur, h3⟩ := own_type h hk
    rw [h3] at q
    cases q
    exact he rfl) ⟨g.os, g.tape, g.output, g.size, fun k hk hf => g.block k hk (.inr hf)⟩
theorem hasN_snoc (n : Int) (fs : List FT) (k : Nat) (hk : k < fs.length) : hasN (fs.take (k + 1)) n = (hasN (fs.take k) n || fs[k].num == n) := by
  unfold hasN
  rw [List.take_succ_eq_append_getElem hk, List.any_append]
  simp
theorem mdL_le (nm : List Int) (a b : List TV) (s t : TT) (f : FT) (h : t.fs.length ≤ 128) : (mdL nm a b s t f).length ≤ 385 := by
  have := flat_le (md1 nm a b s t f) 3 (md1_le nm a b s t f) t.fs
  unfold mdL
  rw [List.length_append]
  split
  · rw [List.length_nil]; omega
  · rw [List.length_singleton]; omega
theorem messageR18 (w0 w : World) (cs : List CH) (va : Option Addr) (vc : Nat) (a b : List TV) (ta tb : Option Addr) (tc td : Nat) (s t : TT) (fa oa sa ra fb ob sb rb : Option Addr) (fc oc sc rc fd od sd rd : Nat) (h0 : Below w0.heap.size w0 w) (ho : w.ownsRow w0.heap.size 66 4 (.slice va cs.length vc) cs.length (cs.flatMap cCH)) (hn : cs.length ≤ 1000000) (ha : RowS w0 AnyZ 6 (.slice ta a.length tc) a.length (a.flatMap cTV)) (hb : RowS w0 AnyZ 6 (.slice tb b.length td) b.length (b.flatMap cTV)) (hs : TyR w0 ⟨s, .slice fa s.fs.length fc, .slice oa s.os.length oc, .slice sa s.ss.length sc, .slice ra s.rs.length rc⟩) (ht : TyR w0 ⟨t, .slice fb t.fs.length fd, .slice ob t.os.length od, .slice sb t.ss.length sd, .slice rb t.rs.length rd⟩) (hk : ∀ f ∈ s.fs, ∀ g ∈ t.fs, FdK a b s t f g) (l1 : s.fs.length ≤ 128) (l2 : t.fs.length ≤ 128) (r1 : ∀ x ∈ s.rs, RgOk x) (r2 : ∀ x ∈ t.rs, RgOk x) : Calls Tryz.prog 31 #[.slice va cs.length vc, .agg #[.slice ta a.length tc], .agg #[.slice tb b.length td], aTY s fa oa sa ra fc oc sc rc, aTY t fb ob sb rb fd od sd rd] w fun e w' => ∃ va' vc', e = .returned (.slice va' (((cs ++ s.fs.flatMap (mdL s.name a b s t)) ++ (frshL s.fs t.fs).map (fun n => (⟨2, 6, s.name, n⟩ : CH))) ++ rdL s.name s.rs t.rs).length vc') ∧ OcF w0 w va' vc' (((cs ++ s.fs.flatMap (mdL s.name a b s t)) ++ (frshL s.fs t.fs).map (fun n => (⟨2, 6, s.name, n⟩ : CH))) ++ rdL s.name s.rs t.rs) w' := by
  have HA := hid ha
  have HB := hid hb
  have HS := hid hs
  have HT := hid ht
  have HK := hid hk
  have R1' := hid r1
  have R2' := hid r2
  have m1 : (s.fs.length : Int) ≤ 9223372036854775807 := by omega
  have m2 : (t.fs.length : Int) ≤ 9223372036854775807 := by omega
  have HE1 : Hid (∀ i, ((s.fs.take i).flatMap (mdL s.name a b s t)).length ≤ 49280) := hid fun i => by
    have := flat_le (mdL s.name a b s t) 385 (fun x => mdL_le _ _ _ _ _ _ l2) (s.fs.take i)
    rw [List.length_take] at this
    omega
  have HE2 : Hid (∀ x k, ((t.fs.take k).flatMap (md1 s.name a b s t x)).length ≤ 384) := hid fun x k => by
    have := flat_le (md1 s.name a b s t x) 3 (md1_le s.name a b s t x) (t.fs.take k)
    rw [List.length_take] at this
    omega
  clear ha hb hs ht hk r1 r2
  unfold aTY
  go_enter Tryz.func31, Tryz.ntmps31
  have BA : Blk ((((w.alloc (.cells #[.slice ta a.length tc] 24)).alloc (.cells #[.slice tb b.length td] 24)).alloc (.cells #[.string (strOfNums s.name), .bool s.enum, .slice fa s.fs.length fc, .slice oa s.os.length oc, .slice sa s.ss.length sc, .slice ra s.rs.length rc] 50)).alloc (.cells #[.string (strOfNums t.name), .bool t.enum, .slice fb t.fs.length fd, .slice ob t.os.length od, .slice sb t.ss.length sd, .slice rb t.rs.length rd] 50)) w.heap.size 24 #[.slice ta a.length tc] := (((Blk.new _ _ _).kept (below_alloc _)).kept (below_alloc _)).kept (below_alloc _)
  have BB : Blk ((((w.alloc (.cells #[.slice ta a.length tc] 24)).alloc (.cells #[.slice tb b.length td] 24)).alloc (.cells #[.string (strOfNums s.name), .bool s.enum, .slice fa s.fs.length fc, .slice oa s.os.length oc, .slice sa s.ss.length sc, .slice ra s.rs.length rc] 50)).alloc (.cells #[.string (strOfNums t.name), .bool t.enum, .slice fb t.fs.length fd, .slice ob t.os.length od, .slice sb t.ss.length sd, .slice rb t.rs.length rd] 50)) (w.heap.size + 1) 24 #[.slice tb b.length td] := ((Blk.newAt (by simp)).kept (below_alloc _)).kept (below_alloc _)
  have BX : Blk ((((w.alloc (.cells #[.slice ta a.length tc] 24)).alloc (.cells #[.slice tb b.length td] 24)).alloc (.cells #[.string (strOfNums s.name), .bool s.enum, .slice fa s.fs.length fc, .slice oa s.os.length oc, .slice sa s.ss.length sc, .slice ra s.rs.length rc] 50)).alloc (.cells #[.string (strOfNums t.name), .bool t.enum, .slice fb t.fs.length fd, .slice ob t.os.length od, .slice sb t.ss.length sd, .slice rb t.rs.length rd] 50)) (w.heap.size + 1 + 1) 50 #[.string (strOfNums s.name), .bool s.enum, .slice fa s.fs.length fc, .slice oa s.os.length oc, .slice sa s.ss.length sc, .slice ra s.rs.length rc] := (Blk.newAt (by simp)).kept (below_alloc _)
  have BY : Blk ((((w.alloc (.cells #[.slice ta a.length tc] 24)).alloc (.cells #[.slice tb b.length td] 24)).alloc (.cells #[.string (strOfNums s.name), .bool s.enum, .slice fa s.fs.length fc, .slice oa s.os.length oc, .slice sa s.ss.length sc, .slice ra s.rs.length rc] 50)).alloc (.cells #[.string (strOfNums t.name), .bool t.enum, .slice fb t.fs.length fd, .slice ob t.os.length od, .slice sb t.ss.length sd, .slice rb t.rs.length rd] 50)) (w.heap.size + 1 + 1 + 1) 50 #[.string (strOfNums t.name), .bool t.enum, .slice fb t.fs.length fd, .slice ob t.os.length od, .slice sb t.ss.length sd, .slice rb t.rs.length rd] := Blk.newAt (by simp)
  have HL : Hid (Below w.heap.size w ((((w.alloc (.cells #[.slice ta a.length tc] 24)).alloc (.cells #[.slice tb b.length td] 24)).alloc (.cells #[.string (strOfNums s.name), .bool s.enum, .slice fa s.fs.length fc, .slice oa s.os.length oc, .slice sa s.ss.length sc, .slice ra s.rs.length rc] 50)).alloc (.cells #[.string (strOfNums t.name), .bool t.enum, .slice fb t.fs.length fd, .slice ob t.os.length od, .slice sb t.ss.length sd, .slice rb t.rs.length rd] 50))) := hid (by exact blBy)
  go_wp2
  have HC := hid (OcF.mk (w0 := w0) (U := ((((w.alloc (.cells #[.slice ta a.length tc] 24)).alloc (.cells #[.slice tb b.length td] 24)).alloc (.cells #[.string (strOfNums s.name), .bool s.enum, .slice fa s.fs.length fc, .slice oa s.os.length oc, .slice sa s.ss.length sc, .slice ra s.rs.length rc] 50)).alloc (.cells #[.string (strOfNums t.name), .bool t.enum, .slice fb t.fs.length fd, .slice ob t.os.length od, .slice sb t.ss.length sd, .slice rb t.rs.length rd] 50))) (va := va) (vc := vc) (L := cs) (own_kept ho HL.out) (RcF.refl _ _) (Nat.le_trans h0.size HL.out.size))
  have H0 := hid (h0.trans (HL.out.mono h0.size))
  clear ho h0
  generalize ((((w.alloc (.cells #[.slice ta a.length tc] 24)).alloc (.cells #[.slice tb b.length td] 24)).alloc (.cells #[.string (strOfNums s.name), .bool s.enum, .slice fa s.fs.length fc, .slice oa s.os.length oc, .slice sa s.ss.length sc, .slice ra s.rs.length rc] 50)).alloc (.cells #[.string (strOfNums t.name), .bool t.enum, .slice fb t.fs.length fd, .slice ob t.os.length od, .slice sb t.ss.length sd, .slice rb t.rs.length rd] 50)) = U at *
  have HBA := hid BA
  have HBB := hid BB
  have HBX := hid BX
  have HBY := hid BY
  clear BA BB BX BY
  go_loopw [0, 11] (fun v r wr => ∃ (i : Nat) (va : Option Addr) (vc : Nat), v = .slice va (cs ++ (s.fs.take i).flatMap (mdL s.name a b s t)).length vc ∧ r = .int .i64 i ∧ i ≤ s.fs.length ∧ Hid (OcF w0 U va vc (cs ++ (s.fs.take i).flatMap (mdL s.name a b s t)) wr)) (fun _ r wr => s.fs.length - numAt wr r)
  case atStart => exact ⟨0, va, vc, by simp, rfl, by omega, hid (HC.out.is (by simp))⟩
  case round =>
    clear HC
    obtain ⟨i, va, vc, rfl, rfl, hi, HC⟩ := hrel
    have HF := hid HC.out.f
    have x1 := (HBA.out.rcf HF.out (by decide)).cellF
    have z1 := (HBA.out.rcf HF.out (by decide)).lt
    have x2 := (HBB.out.rcf HF.out (by decide)).cellF
    have z2 := (HBB.out.rcf HF.out (by decide)).lt
    have x3 := (HBX.out.rcf HF.out (by decide)).cellF
    have z3 := (HBX.out.rcf HF.out (by decide)).lt
    have x4 := (HBY.out.rcf HF.out (by decide)).cellF
    have z4 := (HBY.out.rcf HF.out (by decide)).lt
    by_cases hlt : i < s.fs.length
    · have k1 : (i : Int) < (s.fs.length : Int) := by omega
      have HRO := hid (H0.out.trans (HF.out.below H0.out.size))
      obtain ⟨b1, o1, rfl, hb1, c0, c1, c2, c3, c4, c5, c6⟩ := row7 (HS.out.f.kept HRO.out) hlt
      have HKX := hid (HK.out _ (List.getElem_mem hlt))
      have HLN : Hid ((cs ++ (s.fs.take i).flatMap (mdL s.name a b s t)).length ≤ 1100000) := hid (by have := HE1.out i; rw [List.length_append]; omega)
      have HST2 : Hid (cs ++ (s.fs.take (i + 1)).flatMap (mdL s.name a b s t) = (cs ++ (s.fs.take i).flatMap (mdL s.name a b s t)) ++ (t.fs.flatMap (md1 s.name a b s t s.fs[i]) ++ (if hasN t.fs s.fs[i].num = true then [] else [⟨4, 5, s.name, s.fs[i].num⟩]))) := hid (by rw [flat_snoc _ _ _ hlt]; unfold mdL; simp only [List.append_assoc])
      generalize s.fs[i] = x at *
      generalize cs ++ (s.fs.take i).flatMap (mdL s.name a b s t) = C0 at *
      obtain ⟨fn, fu, fk, fr, fl, fo, fy⟩ := x
      dsimp only at c0 c1 c2 c3 c4 c5 c6 HST2
      go_wp2
      have HBS : Hid (Blk (wr.alloc (.cells #[.string (strOfNums fn), .int .i64 fu, .int .i64 fk, .int .i64 fr, .int .i64 fl, .int .i64 fo, .int .i64 fy] 79)) wr.heap.size 79 #[.string (strOfNums fn), .int .i64 fu, .int .i64 fk, .int .i64 fr, .int .i64 fl, .int .i64 fo, .int .i64 fy]) := hid (Blk.new _ _ _)
      have HF1 := hid (HF.out.trans (RcF.ofBelow (below_alloc (.cells #[.string (strOfNums fn), .int .i64 fu, .int .i64 fk, .int .i64 fr, .int .i64 fl, .int .i64 fo, .int .i64 fy] 79))))
      have HCx := hid (HC.out.kept (below_alloc (.cells #[.string (strOfNums fn), .int .i64 fu, .int .i64 fk, .int .i64 fr, .int .i64 fl, .int .i64 fo, .int .i64 fy] 79)))
      have HC2 : Hid (OcF w0 (wr.alloc (.cells #[.string (strOfNums fn), .int .i64 fu, .int .i64 fk, .int .i64 fr, .int .i64 fl, .int .i64 fo, .int .i64 fy] 79)) va vc C0 (wr.alloc (.cells #[.string (strOfNums fn), .int .i64 fu, .int .i64 fk, .int .i64 fr, .int .i64 fl, .int .i64 fo, .int .i64 fy] 79))) := hid ⟨HCx.out.o, RcF.refl _ _, HCx.out.z⟩
      clear x1 z1 x2 z2 x3 z3 x4 z4 c0 c1 c2 c3 c4 c5 c6 hb1 HF HC HCx HRO
      generalize wr.heap.size = sp at *
      generalize wr.alloc (.cells #[.string (strOfNums fn), .int .i64 fu, .int .i64 fk, .int .i64 fr, .int .i64 fl, .int .i64 fo, .int .i64 fy] 79) = W1 at *
      go_loopw [0, 13, 14] (fun v h r wq => ∃ (k : Nat) (va : Option Addr) (vc : Nat), v = .slice va (C0 ++ (t.fs.take k).flatMap (md1 s.name a b s t ⟨fn, fu, fk, fr, fl, fo, fy⟩)).length vc ∧ h = .bool (hasN (t.fs.take k) fu) ∧ r = .int .i64 k ∧ k ≤ t.fs.length ∧ Hid (OcF w0 W1 va vc (C0 ++ (t.fs.take k).flatMap (md1 s.name a b s t ⟨fn, fu, fk, fr, fl, fo, fy⟩)) wq)) (fun _ _ r wq => t.fs.length - numAt wq r)
      case atStart => exact ⟨0, va, vc, by simp, rfl, rfl, by omega, hid (HC2.out.is (by simp))⟩
      case round =>
        clear HC2
        obtain ⟨k, va, vc, rfl, rfl, rfl, hk, HC2⟩ := hrel
        have HF := hid (HF1.out.trans HC2.out.f)
        have x1 := (HBA.out.rcf HF.out (by decide)).cellF
        have z1 := (HBA.out.rcf HF.out (by decide)).lt
        have x2 := (HBB.out.rcf HF.out (by decide)).cellF
        have z2 := (HBB.out.rcf HF.out (by decide)).lt
        have x3 := (HBX.out.rcf HF.out (by decide)).cellF
        have z3 := (HBX.out.rcf HF.out (by decide)).lt
        have x4 := (HBY.out.rcf HF.out (by decide)).cellF
        have z4 := (HBY.out.rcf HF.out (by decide)).lt
        have x5 := (HBS.out.rcf HC2.out.f (by decide)).cellF
        have z5 := (HBS.out.rcf HC2.out.f (by decide)).lt
        by_cases hlt2 : k < t.fs.length
        · have k2 : (k : Int) < (t.fs.length : Int) := by omega
          have HRO := hid (H0.out.trans (HF.out.below H0.out.size))
          obtain ⟨b2, o2, rfl, hb2, d0, d1, d2, d3, d4, d5, d6⟩ := row7 (HT.out.f.kept HRO.out) hlt2
          have HSK : Hid (C0 ++ (t.fs.take (k + 1)).flatMap (md1 s.name a b s t ⟨fn, fu, fk, fr, fl, fo, fy⟩) = (C0 ++ (t.fs.take k).flatMap (md1 s.name a b s t ⟨fn, fu, fk, fr, fl, fo, fy⟩)) ++ md1 s.name a b s t ⟨fn, fu, fk, fr, fl, fo, fy⟩ t.fs[k]) := hid (by rw [flat_snoc _ _ _ hlt2, List.append_assoc])
          have HDS : Hid (∀ W, RcF w0.heap.size U W → W.cell? ⟨b2, o2 + k * 7, none⟩ = some (.string (strOfNums t.fs[k].name)) ∧ W.cell? ⟨b2, o2 + k * 7 + 1, none⟩ = some (.int .i64 t.fs[k].num) ∧ W.cell? ⟨b2, o2 + k * 7 + 2, none⟩ = some (.int .i64 t.fs[k].kind) ∧ W.cell? ⟨b2, o2 + k * 7 + 3, none⟩ = some (.int .i64 t.fs[k].ref) ∧ W.cell? ⟨b2, o2 + k * 7 + 4, none⟩ = some (.int .i64 t.fs[k].lab) ∧ W.cell? ⟨b2, o2 + k * 7 + 5, none⟩ = some (.int .i64 t.fs[k].one) ∧ W.cell? ⟨b2, o2 + k * 7 + 6, none⟩ = some (.int .i64 t.fs[k].key)) := hid fun W h => by
            obtain ⟨b', o', e, hb', q0, q1, q2, q3, q4, q5, q6⟩ := row7 (HT.out.f.kept (H0.out.trans (h.below H0.out.size))) hlt2
            cases e
            exact ⟨q0, q1, q2, q3, q4, q5, q6⟩
          have HSH := hid (hasN_snoc fu t.fs k hlt2)
          have HLK : Hid ((C0 ++ (t.fs.take k).flatMap (md1 s.name a b s t ⟨fn, fu, fk, fr, fl, fo, fy⟩)).length ≤ 3000000) := hid (by have := HE2.out ⟨fn, fu, fk, fr, fl, fo, fy⟩ k; have := HLN.out; rw [List.length_append]; omega)
          have HKY := hid (HKX.out _ (List.getElem_mem hlt2))
          generalize t.fs[k] = y at *
          generalize C0 ++ (t.fs.take k).flatMap (md1 s.name a b s t ⟨fn, fu, fk, fr, fl, fo, fy⟩) = LL at *
          generalize hasN (t.fs.take k) fu = hh at *
          obtain ⟨gn, gu, gk, gr, gl, go, gy⟩ := y
          dsimp only at d0 d1 d2 d3 d4 d5 d6 HSH HDS
          rw [show md1 s.name a b s t ⟨fn, fu, fk, fr, fl, fo, fy⟩ ⟨gn, gu, gk, gr, gl, go, gy⟩ = if gu = fu then fdL s.name ⟨fn, fu, fk, fr, fl, fo, fy⟩ ⟨gn, gu, gk, gr, gl, go, gy⟩ (refN a ⟨fn, fu, fk, fr, fl, fo, fy⟩) (refN b ⟨gn, gu, gk, gr, gl, go, gy⟩) (oneN s ⟨fn, fu, fk, fr, fl, fo, fy⟩) (oneN t ⟨gn, gu, gk, gr, gl, go, gy⟩) else [] from rfl] at HSK
          clear HRO
          by_cases e1 : gu = fu
          · subst e1
            rw [if_pos rfl] at HSK
            have HT2 : Hid (hasN (t.fs.take (k + 1)) gu = true) := hid (by rw [HSH.out]; simp)
            clear HSH
            go_wp2
            go_quiet (fail)
            replace HC2 := hid (HC2.out.kept (below_drewN wr nq))
            replace d0 := cell_below d0 (below_drewN wr nq)
            replace d1 := cell_below d1 (below_drewN wr nq)
            replace d2 := cell_below d2 (below_drewN wr nq)
            replace d3 := cell_below d3 (below_drewN wr nq)
            replace d4 := cell_below d4 (below_drewN wr nq)
            replace d5 := cell_below d5 (below_drewN wr nq)
            replace d6 := cell_below d6 (below_drewN wr nq)
            clear x1 z1 x2 z2 x3 z3 x4 z4 x5 z5
            replace HF := hid (HF1.out.trans HC2.out.f)
            have x1 := (HBA.out.rcf HF.out (by decide)).cellF
            have z1 := (HBA.out.rcf HF.out (by decide)).lt
            have x2 := (HBB.out.rcf HF.out (by decide)).cellF
            have z2 := (HBB.out.rcf HF.out (by decide)).lt
            have x3 := (HBX.out.rcf HF.out (by decide)).cellF
            have z3 := (HBX.out.rcf HF.out (by decide)).lt
            have x4 := (HBY.out.rcf HF.out (by decide)).cellF
            have z4 := (HBY.out.rcf HF.out (by decide)).lt
            have x5 := (HBS.out.rcf HC2.out.f (by decide)).cellF
            have z5 := (HBS.out.rcf HC2.out.f (by decide)).lt
            generalize wr.drewN nq = Wd at *
            have HFC := hid fun W (h1 : Below w0.heap.size w0 W) (h2 : W.ownsRow w0.heap.size 66 4 (.slice va LL.length vc) LL.length (LL.flatMap cCH)) => fieldR18 w0 W LL va vc a b ta tb tc td s t (some ⟨b1, o1, none⟩) oa sa ra (some ⟨b2, o2, none⟩) ob sb rb fc oc sc rc fd od sd rd ⟨fn, gu, fk, fr, fl, fo, fy⟩ ⟨gn, gu, gk, gr, gl, go, gy⟩ h1 h2 HLK.out HA.out HB.out HS.out.o HT.out.o HKY.out
            unfold aTY aFT at HFC
            dsimp only at HFC
            generalize LL ++ fdL s.name ⟨fn, gu, fk, fr, fl, fo, fy⟩ ⟨gn, gu, gk, gr, gl, go, gy⟩ (refN a ⟨fn, gu, fk, fr, fl, fo, fy⟩) (refN b ⟨gn, gu, gk, gr, gl, go, gy⟩) (oneN s ⟨fn, gu, fk, fr, fl, fo, fy⟩) (oneN t ⟨gn, gu, gk, gr, gl, go, gy⟩) = LM at *
            go_upto_region 11 with fail
            go_region_held3 (fun W => W.cell? ⟨w.heap.size, 0, none⟩ = some (.slice ta a.length tc) ∧ W.cell? ⟨w.heap.size + 1, 0, none⟩ = some (.slice tb b.length td) ∧ W.cell? ⟨w.heap.size + 1 + 1, 0, none⟩ = some (.string (strOfNums s.name)) ∧ W.cell? ⟨w.heap.size + 1 + 1, 1, none⟩ = some (.bool s.enum) ∧ W.cell? ⟨w.heap.size + 1 + 1, 2, none⟩ = some (.slice (some ⟨b1, o1, none⟩) s.fs.length fc) ∧ W.cell? ⟨w.heap.size + 1 + 1, 3, none⟩ = some (.slice oa s.os.length oc) ∧ W.cell? ⟨w.heap.size + 1 + 1, 4, none⟩ = some (.slice sa s.ss.length sc) ∧ W.cell? ⟨w.heap.size + 1 + 1, 5, none⟩ = some (.slice ra s.rs.length rc) ∧ W.cell? ⟨w.heap.size + 1 + 1 + 1, 0, none⟩ = some (.string (strOfNums t.name)) ∧ W.cell? ⟨w.heap.size + 1 + 1 + 1, 1, none⟩ = some (.bool t.enum) ∧ W.cell? ⟨w.heap.size + 1 + 1 + 1, 2, none⟩ = some (.slice (some ⟨b2, o2, none⟩) t.fs.length fd) ∧ W.cell? ⟨w.heap.size + 1 + 1 + 1, 3, none⟩ = some (.slice ob t.os.length od) ∧ W.cell? ⟨w.heap.size + 1 + 1 + 1, 4, none⟩ = some (.slice sb t.ss.length sd) ∧ W.cell? ⟨w.heap.size + 1 + 1 + 1, 5, none⟩ = some (.slice rb t.rs.length rd) ∧ W.cell? ⟨sp, 0, none⟩ = some (.string (strOfNums fn)) ∧ W.cell? ⟨sp, 1, none⟩ = some (.int .i64 gu) ∧ W.cell? ⟨sp, 2, none⟩ = some (.int .i64 fk) ∧ W.cell? ⟨sp, 3, none⟩ = some (.int .i64 fr) ∧ W.cell? ⟨sp, 4, none⟩ = some (.int .i64 fl) ∧ W.cell? ⟨sp, 5, none⟩ = some (.int .i64 fo) ∧ W.cell? ⟨sp, 6, none⟩ = some (.int .i64 fy) ∧ W.cell? ⟨b2, o2 + k * 7, none⟩ = some (.string (strOfNums gn)) ∧ W.cell? ⟨b2, o2 + k * 7 + 1, none⟩ = some (.int .i64 gu) ∧ W.cell? ⟨b2, o2 + k * 7 + 2, none⟩ = some (.int .i64 gk) ∧ W.cell? ⟨b2, o2 + k * 7 + 3, none⟩ = some (.int .i64 gr) ∧ W.cell? ⟨b2, o2 + k * 7 + 4, none⟩ = some (.int .i64 gl) ∧ W.cell? ⟨b2, o2 + k * 7 + 5, none⟩ = some (.int .i64 go) ∧ W.cell? ⟨b2, o2 + k * 7 + 6, none⟩ = some (.int .i64 gy)) (first | exact ⟨(HBA.out.rcf HF.out (by decide)).cell 0 _ rfl, (HBB.out.rcf HF.out (by decide)).cell 0 _ rfl, (HBX.out.rcf HF.out (by decide)).cell 0 _ rfl, (HBX.out.rcf HF.out (by decide)).cell 1 _ rfl, (HBX.out.rcf HF.out (by decide)).cell 2 _ rfl, (HBX.out.rcf HF.out (by decide)).cell 3 _ rfl, (HBX.out.rcf HF.out (by decide)).cell 4 _ rfl, (HBX.out.rcf HF.out (by decide)).cell 5 _ rfl, (HBY.out.rcf HF.out (by decide)).cell 0 _ rfl, (HBY.out.rcf HF.out (by decide)).cell 1 _ rfl, (HBY.out.rcf HF.out (by decide)).cell 2 _ rfl, (HBY.out.rcf HF.out (by decide)).cell 3 _ rfl, (HBY.out.rcf HF.out (by decide)).cell 4 _ rfl, (HBY.out.rcf HF.out (by decide)).cell 5 _ rfl, (HBS.out.rcf HC2.out.f (by decide)).cell 0 _ rfl, (HBS.out.rcf HC2.out.f (by decide)).cell 1 _ rfl, (HBS.out.rcf HC2.out.f (by decide)).cell 2 _ rfl, (HBS.out.rcf HC2.out.f (by decide)).cell 3 _ rfl, (HBS.out.rcf HC2.out.f (by decide)).cell 4 _ rfl, (HBS.out.rcf HC2.out.f (by decide)).cell 5 _ rfl, (HBS.out.rcf HC2.out.f (by decide)).cell 6 _ rfl, d0, d1, d2, d3, d4, d5, d6⟩ | exact ⟨(HBA.out.rcf HF7.out (by decide)).cell 0 _ rfl, (HBB.out.rcf HF7.out (by decide)).cell 0 _ rfl, (HBX.out.rcf HF7.out (by decide)).cell 0 _ rfl, (HBX.out.rcf HF7.out (by decide)).cell 1 _ rfl, (HBX.out.rcf HF7.out (by decide)).cell 2 _ rfl, (HBX.out.rcf HF7.out (by decide)).cell 3 _ rfl, (HBX.out.rcf HF7.out (by decide)).cell 4 _ rfl, (HBX.out.rcf HF7.out (by decide)).cell 5 _ rfl, (HBY.out.rcf HF7.out (by decide)).cell 0 _ rfl, (HBY.out.rcf HF7.out (by decide)).cell 1 _ rfl, (HBY.out.rcf HF7.out (by decide)).cell 2 _ rfl, (HBY.out.rcf HF7.out (by decide)).cell 3 _ rfl, (HBY.out.rcf HF7.out (by decide)).cell 4 _ rfl, (HBY.out.rcf HF7.out (by decide)).cell 5 _ rfl, (HBS.out.rcf HC7.out.f (by decide)).cell 0 _ rfl, (HBS.out.rcf HC7.out.f (by decide)).cell 1 _ rfl, (HBS.out.rcf HC7.out.f (by decide)).cell 2 _ rfl, (HBS.out.rcf HC7.out.f (by decide)).cell 3 _ rfl, (HBS.out.rcf HC7.out.f (by decide)).cell 4 _ rfl, (HBS.out.rcf HC7.out.f (by decide)).cell 5 _ rfl, (HBS.out.rcf HC7.out.f (by decide)).cell 6 _ rfl, (HDS.out _ HF7.out).1, (HDS.out _ HF7.out).2.1, (HDS.out _ HF7.out).2.2.1, (HDS.out _ HF7.out).2.2.2.1, (HDS.out _ HF7.out).2.2.2.2.1, (HDS.out _ HF7.out).2.2.2.2.2.1, (HDS.out _ HF7.out).2.2.2.2.2.2⟩) (first | (go_at_call 46; refine (HFC.out _ (H0.out.trans (((HF.out.trans (RcF.ofBelow (by first | exact below_drew1 _ | exact Below.refl _ _))).below H0.out.size))) (own_kept HC2.out.o (by first | exact below_drew1 _ | exact Below.refl _ _))).mono ?_; rintro e u7 ⟨a7, c7, rfl, ho7, hf7⟩; have HC7 : Hid (OcF w0 W1 a7 c7 LM u7) := hid ⟨ho7, (HC2.out.f.trans (RcF.ofBelow (by first | exact below_drew1 _ | exact Below.refl _ _))).trans hf7, Nat.le_trans HC2.out.z (Nat.le_trans (show _ ≤ _ from Nat.le_refl _) hf7.size)⟩; have HF7 := hid (HF1.out.trans HC7.out.f); clear ho7 hf7))
            all_goals rename_i hHeld
            all_goals clear hHeld
            all_goals go_wp2
            all_goals exact ⟨⟨k + 1, a7, c7, by rw [HSK.out], by rw [HT2.out], by simp, by omega, hid (HC7.out.is HSK.out.symm)⟩, by simp [numAt]; omega⟩
          · rw [if_neg e1] at HSK
            have q1 : (gu == fu) = false := by simpa using e1
            have HT2 : Hid (hasN (t.fs.take (k + 1)) fu = hh) := hid (by rw [HSH.out, q1]; simp)
            clear HSH e1
            go_wp2
            go_quiet (fail)
            go_wp2
            exact ⟨⟨k + 1, va, vc, by rw [HSK.out]; simp, by rw [HT2.out], by simp, by omega, hid ((HC2.out.kept (below_drewN wr nq)).is (by rw [HSK.out]; simp))⟩, by simp [numAt]; omega⟩
        · have k2 : ¬ (k : Int) < (t.fs.length : Int) := by omega
          have HE : Hid (t.fs.take k = t.fs) := hid (List.take_of_length_le (by omega))
          have HLK : Hid ((C0 ++ (t.fs.take k).flatMap (md1 s.name a b s t ⟨fn, fu, fk, fr, fl, fo, fy⟩)).length ≤ 4000000) := hid (by have := HE2.out ⟨fn, fu, fk, fr, fl, fo, fy⟩ k; have := HLN.out; rw [List.length_append]; omega)
          rw [HE.out] at HC2 HLK ⊢
          rw [← List.append_assoc] at HST2
          clear HE
          generalize C0 ++ t.fs.flatMap (md1 s.name a b s t ⟨fn, fu, fk, fr, fl, fo, fy⟩) = LL at *
          have HFU : Hid (∀ (L' : List CH) (a' : Option Addr) (c' : Nat) (W' : World), OcF w0 W1 a' c' L' W' → OcF w0 U a' c' L' W') := hid fun L' a' c' W' h => ⟨h.o, HF1.out.trans h.f, h.z⟩
          generalize hasN t.fs fu = hh at *
          cases hh with
          | true =>
            rw [if_pos rfl] at HST2
            go_wp2
            exact ⟨⟨i + 1, va, vc, by rw [HST2.out]; simp, by simp, by omega, hid ((HFU.out _ _ _ _ HC2.out).is (by rw [HST2.out]; simp))⟩, by simp [numAt]; omega⟩
          | false =>
            rw [if_neg (by simp)] at HST2
            obtain ⟨a1, c1, X1, R1, O1⟩ := HC2.out.app HLK.out ⟨4, 5, s.name, fu⟩
            go_wp2_with (first | (at_builtin; refine wpList_append_ran rfl _ _ 31 31 rfl rfl _ _ (.slice a1 (LL.length + 1) c1) X1 rfl rfl R1.out ?_))
            exact ⟨⟨i + 1, a1, c1, by rw [HST2.out]; simp, by simp, by omega, hid ((HFU.out _ _ _ _ O1.out).is HST2.out.symm)⟩, by simp [numAt]; omega⟩
    · have k1 : ¬ (i : Int) < (s.fs.length : Int) := by omega
      have HE : Hid (s.fs.take i = s.fs) := hid (List.take_of_length_le (by omega))
      have HLN : Hid ((cs ++ (s.fs.take i).flatMap (mdL s.name a b s t)).length ≤ 1100000) := hid (by have := HE1.out i; rw [List.length_append]; omega)
      have HRO := hid (H0.out.trans (HF.out.below H0.out.size))
      have HFR := hid (freshR18 wr s t fa oa sa ra fb ob sb rb fc oc sc rc fd od sd rd (HS.out.f.kept HRO.out) (HT.out.f.kept HRO.out) (by omega))
      unfold aTY at HFR
      have HFL := hid (frsh_le s.fs t.fs)
      rw [HE.out] at HC HLN ⊢
      clear HE
      generalize hC0 : cs ++ s.fs.flatMap (mdL s.name a b s t) = C0 at *
      replace hC0 := hid hC0
      generalize hFL : frshL s.fs t.fs = FL at *
      replace hFL := hid hFL
      have fl63 : (FL.length : Int) ≤ 9223372036854775807 := by have := HFL.out; omega
      go_wp2_with fail
      refine HFR.out.mono ?_
      rintro e w5 ⟨la, lc, rfl, hlo, hb5⟩
      replace HC := hid (HC.out.kept hb5)
      have HLR := hid (own_row (Z := AnyZ) hlo (fun _ _ => trivial))
      have HLO := hid hlo
      clear hlo hb5 HF HRO x1 z1 x2 z2 x3 z3 x4 z4 HFR
      have HF := hid HC.out.f
      have x1 := (HBA.out.rcf HF.out (by decide)).cellF
      have z1 := (HBA.out.rcf HF.out (by decide)).lt
      have x2 := (HBB.out.rcf HF.out (by decide)).cellF
      have z2 := (HBB.out.rcf HF.out (by decide)).lt
      have x3 := (HBX.out.rcf HF.out (by decide)).cellF
      have z3 := (HBX.out.rcf HF.out (by decide)).lt
      have x4 := (HBY.out.rcf HF.out (by decide)).cellF
      have z4 := (HBY.out.rcf HF.out (by decide)).lt
      go_wp2
      have HC5 : Hid (OcF w0 w5 va vc C0 w5) := hid ⟨HC.out.o, RcF.refl _ _, HC.out.z⟩
      have HU5 := hid HC.out.f
      clear HC
      go_loopw [0, 16] (fun v r wq => ∃ (j : Nat) (va : Option Addr) (vc : Nat), v = .slice va (C0 ++ (FL.take j).map (fun n => (⟨2, 6, s.name, n⟩ : CH))).length vc ∧ r = .int .i64 j ∧ j ≤ FL.length ∧ Hid (OcF w0 w5 va vc (C0 ++ (FL.take j).map (fun n => (⟨2, 6, s.name, n⟩ : CH))) wq)) (fun _ r wq => FL.length - numAt wq r)
      case atStart => exact ⟨0, va, vc, by simp, rfl, by omega, hid (HC5.out.is (by simp))⟩
      case round =>
        clear HC5 HF x1 z1 x2 z2 x3 z3 x4 z4
        obtain ⟨j, va, vc, rfl, rfl, hj, HC5⟩ := hrel
        have HF := hid (HU5.out.trans HC5.out.f)
        have x1 := (HBA.out.rcf HF.out (by decide)).cellF
        have z1 := (HBA.out.rcf HF.out (by decide)).lt
        have x2 := (HBB.out.rcf HF.out (by decide)).cellF
        have z2 := (HBB.out.rcf HF.out (by decide)).lt
        have x3 := (HBX.out.rcf HF.out (by decide)).cellF
        have z3 := (HBX.out.rcf HF.out (by decide)).lt
        have x4 := (HBY.out.rcf HF.out (by decide)).cellF
        have z4 := (HBY.out.rcf HF.out (by decide)).lt
        by_cases hlt : j < FL.length
        · have k2 : (j : Int) < (FL.length : Int) := by omega
          have HR5 := hid (own_row (Z := AnyZ) (own_rcf HLO.out HC5.out.f (by decide)) (fun _ _ => trivial))
          obtain ⟨p1, s1, e1, hc⟩ := rowAt (g := cI64) (K := 1) (fun _ => rfl) HR5.out (i := j) (x := FL[j]) (by simp [hlt])
          subst e1
          have c0 := hc 0 _ rfl
          have y1 := World.block_lt_of_cell? _ _ c0
          simp only [Nat.mul_one, Nat.add_zero] at c0
          have HSK : Hid (C0 ++ (FL.take (j + 1)).map (fun n => (⟨2, 6, s.name, n⟩ : CH)) = (C0 ++ (FL.take j).map (fun n => (⟨2, 6, s.name, n⟩ : CH))) ++ [⟨2, 6, s.name, FL[j]⟩]) := hid (by rw [List.take_succ_eq_append_getElem hlt, List.map_append, List.append_assoc]; rfl)
          have HLK : Hid ((C0 ++ (FL.take j).map (fun n => (⟨2, 6, s.name, n⟩ : CH))).length ≤ 4000000) := hid (by have := HLN.out; have := HFL.out; rw [List.length_append, List.length_map, List.length_take]; omega)
          generalize FL[j] = z at *
          generalize C0 ++ (FL.take j).map (fun n => (⟨2, 6, s.name, n⟩ : CH)) = LL at *
          clear hc HR5
          obtain ⟨a1, c1, X1, R1, O1⟩ := (HC5.out.kept (below_drew1 wr)).app HLK.out ⟨2, 6, s.name, z⟩
          go_wp2
          go_region_law (first | (refine step_append18 rfl _ _ 31 31 rfl rfl _ _ (.slice a1 (LL.length + 1) c1) X1 rfl rfl R1.out ?_))
          all_goals go_wp2
          all_goals exact ⟨⟨j + 1, a1, c1, by rw [HSK.out]; simp, by simp, by omega, hid (O1.out.is HSK.out.symm)⟩, by simp [numAt]; omega⟩
        · have k2 : ¬ (j : Int) < (FL.length : Int) := by omega
          have HE : Hid (FL.take j = FL) := hid (List.take_of_length_le (by omega))
          have HLK : Hid ((C0 ++ FL.map (fun n => (⟨2, 6, s.name, n⟩ : CH))).length ≤ 4000000) := hid (by have := HLN.out; have := HFL.out; rw [List.length_append, List.length_map]; omega)
          rw [HE.out] at HC5 ⊢
          clear HE
          generalize hLL : C0 ++ FL.map (fun n => (⟨2, 6, s.name, n⟩ : CH)) = LL at *
          replace hLL := hid hLL
          have HW1 := hid fun W (hW : RcF w0.heap.size U W) => withinR18 W s.rs t.rs ra rb rc rd (HS.out.r.kept (H0.out.trans (hW.below H0.out.size))) (HT.out.r.kept (H0.out.trans (hW.below H0.out.size))) R2'.out
          have HW2 := hid fun W (hW : RcF w0.heap.size U W) => withinR18 W t.rs s.rs rb ra rd rc (HT.out.r.kept (H0.out.trans (hW.below H0.out.size))) (HS.out.r.kept (H0.out.trans (hW.below H0.out.size))) R1'.out
          have HRD : Hid (rdL s.name s.rs t.rs = if witB s.rs t.rs = true then (if witB t.rs s.rs = true then [] else [⟨3, 10, s.name, 0⟩]) else [⟨4, 10, s.name, 0⟩]) := hid rfl
          have HFIN : Hid (∀ (M : List CH) (a' : Option Addr) (c' : Nat) (W' : World), rdL s.name s.rs t.rs = M → OcF w0 w5 a' c' (LL ++ M) W' → OcF w0 w a' c' (((cs ++ s.fs.flatMap (mdL s.name a b s t)) ++ (frshL s.fs t.fs).map (fun n => (⟨2, 6, s.name, n⟩ : CH))) ++ rdL s.name s.rs t.rs) W') := hid fun M a' c' W' hM h => by
            rw [hC0.out, hFL.out, hLL.out, hM]
            exact ⟨h.o, (RcF.ofBelow HL.out).trans (HU5.out.trans h.f), h.z⟩
          have HLEN : Hid (∀ M : List CH, rdL s.name s.rs t.rs = M → (((cs ++ s.fs.flatMap (mdL s.name a b s t)) ++ (frshL s.fs t.fs).map (fun n => (⟨2, 6, s.name, n⟩ : CH))) ++ rdL s.name s.rs t.rs).length = LL.length + M.length) := hid fun M hM => by
            rw [hC0.out, hFL.out, hLL.out, hM, List.length_append]
          go_wp2_with fail
          refine (HW1.out _ HF.out).mono ?_
          rintro e w6 ⟨rfl, hb6⟩
          replace HC5 := hid (HC5.out.kept hb6)
          clear HF hb6 x1 z1 x2 z2 x3 z3 x4 z4
          have HF := hid (HU5.out.trans HC5.out.f)
          have x1 := (HBA.out.rcf HF.out (by decide)).cellF
          have z1 := (HBA.out.rcf HF.out (by decide)).lt
          have x2 := (HBB.out.rcf HF.out (by decide)).cellF
          have z2 := (HBB.out.rcf HF.out (by decide)).lt
          have x3 := (HBX.out.rcf HF.out (by decide)).cellF
          have z3 := (HBX.out.rcf HF.out (by decide)).lt
          have x4 := (HBY.out.rcf HF.out (by decide)).cellF
          have z4 := (HBY.out.rcf HF.out (by decide)).lt
          clear HW1
          generalize witB s.rs t.rs = q1 at *
          cases q1 with
          | false =>
            rw [if_neg (by simp)] at HRD
            obtain ⟨a1, c1, X1, R1, O1⟩ := HC5.out.app HLK.out ⟨4, 10, s.name, 0⟩
            go_wp2_with (first | (at_builtin; refine wpList_append_ran rfl _ _ 31 31 rfl rfl _ _ (.slice a1 (LL.length + 1) c1) X1 rfl rfl R1.out ?_))
            go_ret
            exact ⟨a1, c1, by rw [HLEN.out _ HRD.out]; simp, HFIN.out _ _ _ _ HRD.out O1.out⟩
          | true =>
            rw [if_pos rfl] at HRD
            go_wp2_with fail
            refine (HW2.out _ HF.out).mono ?_
            rintro e w7 ⟨rfl, hb7⟩
            replace HC5 := hid (HC5.out.kept hb7)
            clear HF hb7 x1 z1 x2 z2 x3 z3 x4 z4
            have HF := hid (HU5.out.trans HC5.out.f)
            have x1 := (HBA.out.rcf HF.out (by decide)).cellF
            have z1 := (HBA.out.rcf HF.out (by decide)).lt
            have x2 := (HBB.out.rcf HF.out (by decide)).cellF
            have z2 := (HBB.out.rcf HF.out (by decide)).lt
            have x3 := (HBX.out.rcf HF.out (by decide)).cellF
            have z3 := (HBX.out.rcf HF.out (by decide)).lt
            have x4 := (HBY.out.rcf HF.out (by decide)).cellF
            have z4 := (HBY.out.rcf HF.out (by decide)).lt
            clear HW2
            generalize witB t.rs s.rs = q2 at *
            cases q2 with
            | false =>
              rw [if_neg (by simp)] at HRD
              obtain ⟨a1, c1, X1, R1, O1⟩ := HC5.out.app HLK.out ⟨3, 10, s.name, 0⟩
              go_wp2_with (first | (at_builtin; refine wpList_append_ran rfl _ _ 31 31 rfl rfl _ _ (.slice a1 (LL.length + 1) c1) X1 rfl rfl R1.out ?_))
              go_ret
              exact ⟨a1, c1, by rw [HLEN.out _ HRD.out]; simp, HFIN.out _ _ _ _ HRD.out O1.out⟩
            | true =>
              rw [if_pos rfl] at HRD
              go_wp2
              go_ret
              exact ⟨va, vc, by rw [HLEN.out _ HRD.out]; simp, HFIN.out _ _ _ _ HRD.out (HC5.out.is (by simp))⟩
set_option maxHeartbeats 1000000
def mor1 : List CH := [⟨2, 6, [77], 4⟩]
theorem awake18 (w : World) (m : Int) (hm : w.cell? ⟨0, 0, none⟩ = some (.int .i64 m)) : Calls Tryz.prog 7 #[] w fun e w' => e = .returned (.bool true) ∧ Below w.heap.size w w' := by
  have HM := hid hm
  clear hm
  have HD : Hid (∀ (W : World) (h g : Nat) (fa ta tb : Option Addr) (fc : Nat), Below w.heap.size w W → TbR W (.slice ta 2 2) (simL h) → TbR W (.slice tb 2 2) (morL g fa fc) → Calls Tryz.prog 6 #[.agg #[.slice ta 2 2], .agg #[.slice tb 2 2]] W fun e w' => ∃ va vc, e = .returned (.tuple #[.slice va 1 vc, .int .i64 2, .int .i64 0]) ∧ RowS w' AnyZ 4 (.slice va mor1.length vc) mor1.length (mor1.flatMap cCH) ∧ Below W.heap.size W w') := hid fun W h g fa ta tb fc hW hA hB => by
    refine (diffT W (simL h) (morL g fa fc) ta tb 2 2 hA hB (simOk h) (morOk g fa fc) (fun x hx => by simp [simL] at hx; rcases hx with rfl | rfl <;> simp [simE, simM]) (fun x hx => by simp [morL] at hx; rcases hx with rfl | rfl <;> simp [simE]) m (cell_below HM.out hW)).mono ?_
    rintro e w' ⟨h1, h2, -⟩
    obtain ⟨va, vc, rfl, h3⟩ := h2 ⟨simGood h, morGood g fa fc⟩
    rw [simMore] at h3 ⊢
    exact ⟨va, vc, rfl, own_row h3 (fun _ _ => trivial), h1⟩
  have HS := hid (fun (W : World) (aa ba : Option Addr) (ac bc : Nat) (hA : RowS W AnyZ 4 (.slice aa mor1.length ac) mor1.length (mor1.flatMap cCH)) (hB : RowS W AnyZ 4 (.slice ba mor1.length bc) mor1.length (mor1.flatMap cCH)) => sameCT W mor1 mor1 aa ba ac bc hA hB (fun x hx => by simp [mor1] at hx; subst hx; exact ⟨by decide, by decide⟩) (fun x hx => by simp [mor1] at hx; subst hx; exact ⟨by decide, by decide⟩))
  go_enter Tryz.func7, Tryz.ntmps7
  go_wp2_with fail
  refine (simpleW _).mono ?_
  rintro e w1 ⟨rfl, ht1, hb1⟩
  have HT1 : Hid (TbR w1 (.slice (some ⟨w.heap.size + 1 + 1 + 1, 0, none⟩) 2 2) (simL w.heap.size)) := hid ht1
  have HB1 : Hid (Below w.heap.size w w1) := hid (bl_then (by exact blBy) hb1)
  clear ht1 hb1
  go_wp2_with fail
  refine (moreW _).mono ?_
  rintro e w2 ⟨h, fa, fc, ta, rfl, ht2, hb2⟩
  replace HT1 := hid (HT1.out.kept hb2)
  have HT2 := hid ht2
  replace HB1 := hid (below_trans HB1.out hb2)
  clear ht2 hb2
  go_wp2_with fail
  refine (HD.out _ _ _ _ _ _ _ HB1.out HT1.out HT2.out).mono ?_
  rintro e w3 ⟨va, vc, rfl, hr, hb3⟩
  have HR := hid hr
  have HB3 := hid (below_trans HB1.out hb3)
  clear hr hb3 HT1 HT2 HB1 HD
  go_wp2_with fail
  refine (HS.out _ _ _ _ _ (HR.out.kept (below_alloc _)) (rowOf (Blk.new _ _ _) 4 1 _ rfl rfl (by decide))).mono ?_
  rintro e w4 ⟨r, rfl, hr, hb4⟩
  have er : r = true := by simpa using hr
  subst er
  have HB4 : Hid (Below w.heap.size w w4) := hid (bl_then (by have := HB3.out; exact blBy) hb4)
  clear hb4
  go_wp2
  go_ret
  exact ⟨rfl, HB4.out⟩
theorem cutI_none : ∀ (l : List Int), (∀ c ∈ l, c ≠ 46) → cutI l = [l]
  | [], _ => rfl
  | c :: r, h => by
    rw [cutI, if_neg (h c (by simp)), cutI_none r (fun c hc => h c (by simp [hc]))]
    rfl
theorem cutI_at : ∀ (a b : List Int), (∀ c ∈ a, c ≠ 46) → cutI (a ++ 46 :: b) = a :: cutI b
  | [], b, _ => by simp [cutI]
  | c :: r, b, h => by
    rw [List.cons_append, cutI, if_neg (h c (by simp)), cutI_at r b (fun c hc => h c (by simp [hc]))]
    rfl
/-- While it is cut: P stands, from fr on there is no dot up to i. -/
structure Cut (xs : List Int) (P : List (List Int)) (fr i : Nat) : Prop where
  is : cutI xs = P ++ cutI (xs.drop fr)
  le : fr ≤ i
  no : ∀ c ∈ (xs.take i).drop fr, c ≠ 46
  few : P.length ≤ i
theorem Cut.start (xs : List Int) : Cut xs [] 0 0 := ⟨by simp, by omega, by simp, by simp⟩
theorem Cut.step {xs : List Int} {P : List (List Int)} {fr i : Nat} (h : Cut xs P fr i) (hi : i < xs.length) (hx : xs[i] ≠ 46) : Cut xs P fr (i + 1) := by
  refine ⟨h.is, by have := h.le; omega, fun c hc => ?_, by have := h.few; omega⟩
  rw [List.take_succ_eq_append_getElem hi, List.drop_append_of_le_length (by simp; have := h.le; omega)] at hc
  rcases List.mem_append.1 hc with q | q
  · exact h.no c q
  · simp at q; subst q; exact hx
theorem Cut.dot {xs : List Int} {P : List (List Int)} {fr i : Nat} (h : Cut xs P fr i) (hi : i < xs.length) (hx : xs[i] = 46) : Cut xs (P ++ [(xs.take i).drop fr]) (i + 1) (i + 1) := by
  refine ⟨?_, by omega, by simp, by have := h.few; simp; omega⟩
  have e : xs.drop fr = (xs.take i).drop fr ++ 46 :: xs.drop (i + 1) := by
    have e1 : xs = xs.take i ++ 46 :: xs.drop (i + 1) := by rw [← hx, List.getElem_cons_drop, List.take_append_drop]
    conv => lhs; rw [e1]
    rw [List.drop_append_of_le_length (by simp; have := h.le; omega)]
  rw [h.is, e, cutI_at _ _ h.no, List.append_assoc]
  rfl
theorem Cut.fin {xs : List Int} {P : List (List Int)} {fr : Nat} (h : Cut xs P fr xs.length) : P ++ [(xs.take xs.length).drop fr] = cutI xs := by
  rw [h.is, List.take_length, cutI_none]
  have := h.no
  rw [List.take_length] at this
  exact this
theorem partsR (xs : List Int) (w : World) (hb : ∀ c ∈ xs, 0 ≤ c ∧ c ≤ 255) (hl : xs.length < 4000000) : Calls Tryz.prog 43 #[.string (strOfNums xs)] w fun e w' => (∃ a c, e = .returned (.slice a (cutI xs).length c) ∧ Hid (RowS w' AnyZ 1 (.slice a (cutI xs).length c) (cutI xs).length ((cutI xs).flatMap cN))) ∧ Below w.heap.size w w' := by
  have HB := hid hb
  have HSZ : (strOfNums xs).size = xs.length := strOfNums_size xs
  have h63 : (xs.length : Int) ≤ 9223372036854775807 := by omega
  clear hb
  go_enter Tryz.func43, Tryz.ntmps43
  go_wp2
  go_loopw [3, 4, 5] (fun v f r wr => ∃ (i fr : Nat) (P : List (List Int)) (va : Option Addr) (vc : Nat), v = .slice va P.length vc ∧ f = .int .i64 fr ∧ r = .int .i64 i ∧ i ≤ xs.length + 1 ∧ Hid ((i ≤ xs.length ∧ Cut xs P fr i) ∨ (i = xs.length + 1 ∧ P = cutI xs)) ∧ Hid (wr.ownsRow w.heap.size 9 1 (.slice va P.length vc) P.length (P.flatMap cN)) ∧ Hid (Below w.heap.size w wr)) (fun _ _ r wr => xs.length + 1 - numAt wr r)
  case atStart => exact ⟨0, 0, [], none, 0, rfl, rfl, rfl, by omega, hid (.inl ⟨by omega, Cut.start xs⟩), hid (World.ownsRow_nil _ _ _ _), hid (Below.refl _ _)⟩
  case round =>
    obtain ⟨i, fr, P, va, vc, rfl, rfl, rfl, hi, HC, HV, hb⟩ := hrel
    rcases HC.out with ⟨hil, hc⟩ | ⟨he, hp⟩
    case inr =>
      subst hp
      have h2 : ¬ (i : Int) ≤ (xs.length : Int) := by omega
      have h3 : ((i : Int) ≤ (xs.length : Int)) = False := eq_false h2
      clear he HC
      go_wp2
      go_ret
      exact ⟨⟨va, vc, rfl, hid (own_row HV.out (fun _ _ => trivial))⟩, hb.out⟩
    have h2 : (i : Int) ≤ (xs.length : Int) := by omega
    have hfr : fr ≤ i := hc.le
    have hfew : P.length ≤ i := hc.few
    have hfr2 : (fr : Int) ≤ (i : Int) := by omega
    have HS : Hid ((strOfNums xs).extract fr i = strOfNums ((xs.take i).drop fr)) := hid (str_cut xs fr i)
    obtain ⟨la, lc, x1, HRUN, HV1, HG1⟩ := appendSt w.heap.size (.slice va P.length vc) P ((xs.take i).drop fr) wr HV.out hb.out.size (by omega)
    rw [← HS.out] at HRUN
    have hb1 : Hid (Below w.heap.size w x1) := hid (hb.out.trans (grow_bel HG1.out HV.out (Nat.le_refl _) hb.out.size))
    have HL : Hid ((P ++ [(xs.take i).drop fr]).length = P.length + 1) := hid (by simp)
    have HC1 := hid hc
    clear hc HC HG1 HS
    by_cases hlt : i < xs.length
    case neg =>
      have ei : i = xs.length := by omega
      have k1 : ((i : Int) == (xs.length : Int)) = true := by simp [ei]
      have HE : Hid (P ++ [(xs.take i).drop fr] = cutI xs) := hid (by subst ei; exact HC1.out.fin)
      have hi2 : i + 1 = xs.length + 1 := by omega
      replace hi2 := hid hi2
      clear hlt ei
      go_wp2_with (first | (at_builtin; refine wpList_append_ran rfl _ _ 46 46 rfl rfl _ _ (.slice la (P.length + 1) lc) x1 rfl rfl HRUN.out ?_))
      exact ⟨⟨i + 1, i + 1, P ++ [(xs.take i).drop fr], la, lc, by rw [HL.out], by simp, by simp, by omega, hid (.inr ⟨hi2.out, HE.out⟩), hid (by have := HV1.out; rw [← HL.out] at this; exact this), hb1⟩, by simp [numAt]; omega⟩
    have hlt2 : (i : Int) < (xs.length : Int) := by omega
    have k1 : ((i : Int) == (xs.length : Int)) = false := by rw [beq_eq_false_iff_ne]; omega
    have hix := index_str HB.out i hlt .i64
    have e1 : xs[i]?.getD 0 = xs[i] := by simp [hlt]
    rw [e1] at hix
    by_cases hd : xs[i] = 46
    · have HN := hid (HC1.out.dot hlt hd)
      rw [hd] at hix
      clear e1 hd
      go_wp2_with (first | (at_builtin; refine wpList_append_ran rfl _ _ 46 46 rfl rfl _ _ (.slice la (P.length + 1) lc) x1 rfl rfl HRUN.out ?_))
      exact ⟨⟨i + 1, i + 1, P ++ [(xs.take i).drop fr], la, lc, by rw [HL.out], by simp, by simp, by omega, hid (.inl ⟨by omega, HN.out⟩), hid (by have := HV1.out; rw [← HL.out] at this; exact this), hb1⟩, by simp [numAt]; omega⟩
    · have HN := hid (HC1.out.step hlt hd)
      have k2 : (xs[i] == 46) = false := by simpa using hd
      clear e1 hd HRUN
      generalize xs[i] = d at hix k2
      go_wp2
      exact ⟨⟨i + 1, fr, P, va, vc, rfl, rfl, by simp, by omega, hid (.inl ⟨by omega, HN.out⟩), HV, hb⟩, by simp [numAt]; omega⟩
end Go.Proofs.YtmjgonckadcbkaaGreatDoor
