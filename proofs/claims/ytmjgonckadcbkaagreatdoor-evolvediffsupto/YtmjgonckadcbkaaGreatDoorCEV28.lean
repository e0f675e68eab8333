/-
  The document's changes of a field.
  The document's changes of an enum.
-/
import Derived.Test.YtmjgonckadcbkaaGreatDoorCEV14
import Derived.Test.YtmjgonckadcbkaaGreatDoorCEV4
namespace Go.Proofs.YtmjgonckadcbkaaGreatDoor
open Go.RowKit
set_option maxRecDepth 1000000
set_option linter.unusedVariables false
set_option linter.unusedSimpArgs false
set_option maxHeartbeats 2000000
/-- What is known of two fields of one number. -/
structure FdK (a b : List TV) (s t : TT) (f g : FT) : Prop where
  ok1 : FdOk a s f
  ok2 : FdOk b t g
  k1 : f.kind ≤ 17
  k2 : g.kind ≤ 17
  l1 : 0 ≤ f.lab
  l2 : 0 ≤ g.lab
  y1 : f.lab ≠ 5 → f.key = 0
  y2 : g.lab ≠ 5 → g.key = 0
  n1 : TxA f.name
  n2 : TxA g.name
  o1 : ∀ x ∈ s.os, TxA x
  o2 : ∀ x ∈ t.os, TxA x
  t1 : ∀ x ∈ a, TxA x.t.name
  t2 : ∀ x ∈ b, TxA x.t.name
def fd3a (nm : List Int) (f g : FT) (fo go : List Int) : List CH := if f.lab = g.lab then (if fo = go then [] else [⟨4, 9, nm, f.num⟩]) else [⟨widI (lbB f g), 9, nm, f.num⟩]
def fd4 (nm : List Int) (f g : FT) : List CH := if f.lab = 5 ∧ g.lab = 5 ∧ f.key ≠ g.key then [⟨4, 8, nm, f.num⟩] else []
theorem lb_rel {f g : FT} (h1 : 0 ≤ f.lab) (h2 : 0 ≤ g.lab) (h : f.lab ≠ g.lab) : lbB f g = relB f g := by
  unfold lbB relB betB
  by_cases p : f.lab ≤ 1 ∧ g.lab ≤ 1
  · rw [if_pos p, if_pos]
    have : (f.lab = 0 ∧ g.lab = 1) ∨ (f.lab = 1 ∧ g.lab = 0) := by omega
    rcases this with ⟨e1, e2⟩ | ⟨e1, e2⟩ <;> simp [e1, e2]
  · rw [if_neg p, if_neg (by simp; omega)]
    rw [Bool.eq_iff_iff]
    simp
    omega
theorem fd3_is {a b : List TV} {s t : TT} {f g : FT} (hk : FdK a b s t f g) (nm : List Int) : fd3 nm f g (oneN s f) (oneN t g) = fd3a nm f g (oneN s f) (oneN t g) ++ fd4 nm f g := by
  unfold fd3 fd3a fd4
  by_cases h : f.lab = g.lab
  · rw [if_pos h, if_pos h]
    by_cases h5 : f.lab = 5
    · have e1 : oneN s f = [] := oneN_no (by omega)
      have e2 : oneN t g = [] := oneN_no (by omega)
      rw [e1, e2, if_pos rfl, if_pos rfl]
      by_cases hy : f.key = g.key
      · rw [if_pos hy, if_neg (fun q => q.2.2 hy)]; rfl
      · rw [if_neg hy, if_pos ⟨h5, by omega, hy⟩]; rfl
    · have e : f.key = g.key := by rw [hk.y1 h5, hk.y2 (by omega)]
      rw [if_pos e, if_neg (show ¬ (f.lab = 5 ∧ g.lab = 5 ∧ f.key ≠ g.key) from fun q => h5 q.1), List.append_nil]
  · rw [if_neg h, if_neg h, if_neg (fun q => h (by omega)), lb_rel hk.l1 hk.l2 h]
    rfl
theorem fieldR18 (w0 w : World) (cs : List CH) (va : Option Addr) (vc : Nat) (a b : List TV) (ta tb : Option Addr) (tc td : Nat) (s t : TT) (fa oa sa ra fb ob sb rb : Option Addr) (fc oc sc rc fd od sd rd : Nat) (f g : FT) (h0 : Below w0.heap.size w0 w) (ho : w.ownsRow w0.heap.size 66 4 (.slice va cs.length vc) cs.length (cs.flatMap cCH)) (hn : cs.length ≤ 3000000)
    (ha : RowS w0 AnyZ 6 (.slice ta a.length tc) a.length (a.flatMap cTV)) (hb : RowS w0 AnyZ 6 (.slice tb b.length td) b.length (b.flatMap cTV)) (hs : RowS w0 AnyZ 1 (.slice oa s.os.length oc) s.os.length (s.os.flatMap cN)) (ht : RowS w0 AnyZ 1 (.slice ob t.os.length od) t.os.length (t.os.flatMap cN)) (hk : FdK a b s t f g) : Calls Tryz.prog 46 #[.slice va cs.length vc, .agg #[.slice ta a.length tc], .agg #[.slice tb b.length td], aTY s fa oa sa ra fc oc sc rc, aTY t fb ob sb rb fd od sd rd, aFT f, aFT g] w fun e w' => ∃ va' vc', e = .returned (.slice va' (cs ++ fdL s.name f g (refN a f) (refN b g) (oneN s f) (oneN t g)).length vc') ∧ w'.ownsRow w0.heap.size 66 4 (.slice va' (cs ++ fdL s.name f g (refN a f) (refN b g) (oneN s f) (oneN t g)).length vc') (cs ++ fdL s.name f g (refN a f) (refN b g) (oneN s f) (oneN t g)).length ((cs ++ fdL s.name f g (refN a f) (refN b g) (oneN s f) (oneN t g)).flatMap cCH) ∧ RcF w0.heap.size w w' := by
  have HFD : Hid (cs ++ fdL s.name f g (refN a f) (refN b g) (oneN s f) (oneN t g) = (((cs ++ fd1 s.name f g) ++ fd2 s.name f g (refN a f) (refN b g)) ++ fd3a s.name f g (oneN s f) (oneN t g)) ++ fd4 s.name f g) := hid (by
    unfold fdL
    rw [fd3_is hk]
    simp only [List.append_assoc])
  rw [HFD.out]
  clear HFD
  have HA := hid ha
  have HB := hid hb
  have HS := hid hs
  have HT := hid ht
  have HK := hid hk
  have HLB := hid fun W => labelsR18 W f g
  have HD1 : Hid (∀ C : List CH, C ++ fd1 s.name f g = if f.name = g.name then C ++ [] else C ++ [⟨3, 7, s.name, f.num⟩]) := hid fun C => by unfold fd1; split <;> rfl
  have HD2 : Hid (∀ C : List CH, C ++ fd2 s.name f g (refN a f) (refN b g) = if f.kind = g.kind then (if refN a f = refN b g then C ++ [] else C ++ [⟨4, 8, s.name, f.num⟩]) else C ++ [⟨widI (widB f.kind g.kind), 8, s.name, f.num⟩]) := hid fun C => by unfold fd2; split <;> (try split) <;> rfl
  have HD3 : Hid (∀ C : List CH, C ++ fd3a s.name f g (oneN s f) (oneN t g) = if f.lab = g.lab then (if oneN s f = oneN t g then C ++ [] else C ++ [⟨4, 9, s.name, f.num⟩]) else C ++ [⟨widI (lbB f g), 9, s.name, f.num⟩]) := hid fun C => by unfold fd3a; split <;> (try split) <;> rfl
  have HD4 : Hid (∀ C : List CH, C ++ fd4 s.name f g = if f.lab = 5 ∧ g.lab = 5 ∧ f.key ≠ g.key then C ++ [⟨4, 8, s.name, f.num⟩] else C ++ []) := hid fun C => by unfold fd4; split <;> rfl
  have l1 : (fd1 s.name f g).length ≤ 1 := by unfold fd1; split <;> simp
  have l2 : (fd2 s.name f g (refN a f) (refN b g)).length ≤ 1 := by unfold fd2; split <;> (try split) <;> simp
  have l3 : (fd3a s.name f g (oneN s f) (oneN t g)).length ≤ 1 := by unfold fd3a; split <;> (try split) <;> simp
  have HN1 : Hid ((cs ++ fd1 s.name f g).length ≤ 4000000) := hid (by rw [List.length_append]; omega)
  have HN2 : Hid (((cs ++ fd1 s.name f g) ++ fd2 s.name f g (refN a f) (refN b g)).length ≤ 4000000) := hid (by rw [List.length_append, List.length_append]; omega)
  have HN3 : Hid ((((cs ++ fd1 s.name f g) ++ fd2 s.name f g (refN a f) (refN b g)) ++ fd3a s.name f g (oneN s f) (oneN t g)).length ≤ 4000000) := hid (by rw [List.length_append, List.length_append, List.length_append]; omega)
  clear l1 l2 l3
  generalize hC1 : cs ++ fd1 s.name f g = C1 at *
  generalize hC2 : C1 ++ fd2 s.name f g (refN a f) (refN b g) = C2 at *
  generalize hC3 : C2 ++ fd3a s.name f g (oneN s f) (oneN t g) = C3 at *
  generalize hC4 : C3 ++ fd4 s.name f g = C4 at *
  have s1 := str_eq hk.n1.1 hk.n2.1
  have e0 := h0.size
  obtain ⟨fn, fu, fk, fr, fl, fo, fy⟩ := f
  obtain ⟨gn, gu, gk, gr, gl, go, gy⟩ := g
  clear ha hb hs ht hk
  unfold aTY aFT
  dsimp only at s1
  dsimp only
  generalize hdn : decide (fn = gn) = dn at s1
  replace hdn := hid hdn
  go_enter Tryz.func46, Tryz.ntmps46
  have BA : Blk ((((((w.alloc (.cells #[.slice ta a.length tc] 24)).alloc (.cells #[.slice tb b.length td] 24)).alloc (.cells #[.string (strOfNums s.name), .bool s.enum, .slice fa s.fs.length fc, .slice oa s.os.length oc, .slice sa s.ss.length sc, .slice ra s.rs.length rc] 50)).alloc (.cells #[.string (strOfNums t.name), .bool t.enum, .slice fb t.fs.length fd, .slice ob t.os.length od, .slice sb t.ss.length sd, .slice rb t.rs.length rd] 50)).alloc (.cells #[.string (strOfNums fn), .int .i64 fu, .int .i64 fk, .int .i64 fr, .int .i64 fl, .int .i64 fo, .int .i64 fy] 79)).alloc (.cells #[.string (strOfNums gn), .int .i64 gu, .int .i64 gk, .int .i64 gr, .int .i64 gl, .int .i64 go, .int .i64 gy] 79)) w.heap.size 24 #[.slice ta a.length tc] := (((((Blk.new _ _ _).kept (below_alloc _)).kept (below_alloc _)).kept (below_alloc _)).kept (below_alloc _)).kept (below_alloc _)
  have BB : Blk ((((((w.alloc (.cells #[.slice ta a.length tc] 24)).alloc (.cells #[.slice tb b.length td] 24)).alloc (.cells #[.string (strOfNums s.name), .bool s.enum, .slice fa s.fs.length fc, .slice oa s.os.length oc, .slice sa s.ss.length sc, .slice ra s.rs.length rc] 50)).alloc (.cells #[.string (strOfNums t.name), .bool t.enum, .slice fb t.fs.length fd, .slice ob t.os.length od, .slice sb t.ss.length sd, .slice rb t.rs.length rd] 50)).alloc (.cells #[.string (strOfNums fn), .int .i64 fu, .int .i64 fk, .int .i64 fr, .int .i64 fl, .int .i64 fo, .int .i64 fy] 79)).alloc (.cells #[.string (strOfNums gn), .int .i64 gu, .int .i64 gk, .int .i64 gr, .int .i64 gl, .int .i64 go, .int .i64 gy] 79)) (w.heap.size + 1) 24 #[.slice tb b.length td] := ((((Blk.newAt (by simp)).kept (below_alloc _)).kept (below_alloc _)).kept (below_alloc _)).kept (below_alloc _)
  have BX : Blk ((((((w.alloc (.cells #[.slice ta a.length tc] 24)).alloc (.cells #[.slice tb b.length td] 24)).alloc (.cells #[.string (strOfNums s.name), .bool s.enum, .slice fa s.fs.length fc, .slice oa s.os.length oc, .slice sa s.ss.length sc, .slice ra s.rs.length rc] 50)).alloc (.cells #[.string (strOfNums t.name), .bool t.enum, .slice fb t.fs.length fd, .slice ob t.os.length od, .slice sb t.ss.length sd, .slice rb t.rs.length rd] 50)).alloc (.cells #[.string (strOfNums fn), .int .i64 fu, .int .i64 fk, .int .i64 fr, .int .i64 fl, .int .i64 fo, .int .i64 fy] 79)).alloc (.cells #[.string (strOfNums gn), .int .i64 gu, .int .i64 gk, .int .i64 gr, .int .i64 gl, .int .i64 go, .int .i64 gy] 79)) (w.heap.size + 1 + 1) 50 #[.string (strOfNums s.name), .bool s.enum, .slice fa s.fs.length fc, .slice oa s.os.length oc, .slice sa s.ss.length sc, .slice ra s.rs.length rc] := (((Blk.newAt (by simp)).kept (below_alloc _)).kept (below_alloc _)).kept (below_alloc _)
  have BY : Blk ((((((w.alloc (.cells #[.slice ta a.length tc] 24)).alloc (.cells #[.slice tb b.length td] 24)).alloc (.cells #[.string (strOfNums s.name), .bool s.enum, .slice fa s.fs.length fc, .slice oa s.os.length oc, .slice sa s.ss.length sc, .slice ra s.rs.length rc] 50)).alloc (.cells #[.string (strOfNums t.name), .bool t.enum, .slice fb t.fs.length fd, .slice ob t.os.length od, .slice sb t.ss.length sd, .slice rb t.rs.length rd] 50)).alloc (.cells #[.string (strOfNums fn), .int .i64 fu, .int .i64 fk, .int .i64 fr, .int .i64 fl, .int .i64 fo, .int .i64 fy] 79)).alloc (.cells #[.string (strOfNums gn), .int .i64 gu, .int .i64 gk, .int .i64 gr, .int .i64 gl, .int .i64 go, .int .i64 gy] 79)) (w.heap.size + 1 + 1 + 1) 50 #[.string (strOfNums t.name), .bool t.enum, .slice fb t.fs.length fd, .slice ob t.os.length od, .slice sb t.ss.length sd, .slice rb t.rs.length rd] := ((Blk.newAt (by simp)).kept (below_alloc _)).kept (below_alloc _)
  have BF : Blk ((((((w.alloc (.cells #[.slice ta a.length tc] 24)).alloc (.cells #[.slice tb b.length td] 24)).alloc (.cells #[.string (strOfNums s.name), .bool s.enum, .slice fa s.fs.length fc, .slice oa s.os.length oc, .slice sa s.ss.length sc, .slice ra s.rs.length rc] 50)).alloc (.cells #[.string (strOfNums t.name), .bool t.enum, .slice fb t.fs.length fd, .slice ob t.os.length od, .slice sb t.ss.length sd, .slice rb t.rs.length rd] 50)).alloc (.cells #[.string (strOfNums fn), .int .i64 fu, .int .i64 fk, .int .i64 fr, .int .i64 fl, .int .i64 fo, .int .i64 fy] 79)).alloc (.cells #[.string (strOfNums gn), .int .i64 gu, .int .i64 gk, .int .i64 gr, .int .i64 gl, .int .i64 go, .int .i64 gy] 79)) (w.heap.size + 1 + 1 + 1 + 1) 79 #[.string (strOfNums fn), .int .i64 fu, .int .i64 fk, .int .i64 fr, .int .i64 fl, .int .i64 fo, .int .i64 fy] := (Blk.newAt (by simp)).kept (below_alloc _)
  have BG : Blk ((((((w.alloc (.cells #[.slice ta a.length tc] 24)).alloc (.cells #[.slice tb b.length td] 24)).alloc (.cells #[.string (strOfNums s.name), .bool s.enum, .slice fa s.fs.length fc, .slice oa s.os.length oc, .slice sa s.ss.length sc, .slice ra s.rs.length rc] 50)).alloc (.cells #[.string (strOfNums t.name), .bool t.enum, .slice fb t.fs.length fd, .slice ob t.os.length od, .slice sb t.ss.length sd, .slice rb t.rs.length rd] 50)).alloc (.cells #[.string (strOfNums fn), .int .i64 fu, .int .i64 fk, .int .i64 fr, .int .i64 fl, .int .i64 fo, .int .i64 fy] 79)).alloc (.cells #[.string (strOfNums gn), .int .i64 gu, .int .i64 gk, .int .i64 gr, .int .i64 gl, .int .i64 go, .int .i64 gy] 79)) (w.heap.size + 1 + 1 + 1 + 1 + 1) 79 #[.string (strOfNums gn), .int .i64 gu, .int .i64 gk, .int .i64 gr, .int .i64 gl, .int .i64 go, .int .i64 gy] := Blk.newAt (by simp)
  have HL : Hid (Below w.heap.size w ((((((w.alloc (.cells #[.slice ta a.length tc] 24)).alloc (.cells #[.slice tb b.length td] 24)).alloc (.cells #[.string (strOfNums s.name), .bool s.enum, .slice fa s.fs.length fc, .slice oa s.os.length oc, .slice sa s.ss.length sc, .slice ra s.rs.length rc] 50)).alloc (.cells #[.string (strOfNums t.name), .bool t.enum, .slice fb t.fs.length fd, .slice ob t.os.length od, .slice sb t.ss.length sd, .slice rb t.rs.length rd] 50)).alloc (.cells #[.string (strOfNums fn), .int .i64 fu, .int .i64 fk, .int .i64 fr, .int .i64 fl, .int .i64 fo, .int .i64 fy] 79)).alloc (.cells #[.string (strOfNums gn), .int .i64 gu, .int .i64 gk, .int .i64 gr, .int .i64 gl, .int .i64 go, .int .i64 gy] 79))) := hid (by exact blBy)
  go_upto_if 21 with fail
  have HO := hid (own_kept ho HL.out)
  have H0 := hid (h0.trans (HL.out.mono h0.size))
  clear ho h0
  generalize ((((((w.alloc (.cells #[.slice ta a.length tc] 24)).alloc (.cells #[.slice tb b.length td] 24)).alloc (.cells #[.string (strOfNums s.name), .bool s.enum, .slice fa s.fs.length fc, .slice oa s.os.length oc, .slice sa s.ss.length sc, .slice ra s.rs.length rc] 50)).alloc (.cells #[.string (strOfNums t.name), .bool t.enum, .slice fb t.fs.length fd, .slice ob t.os.length od, .slice sb t.ss.length sd, .slice rb t.rs.length rd] 50)).alloc (.cells #[.string (strOfNums fn), .int .i64 fu, .int .i64 fk, .int .i64 fr, .int .i64 fl, .int .i64 fo, .int .i64 fy] 79)).alloc (.cells #[.string (strOfNums gn), .int .i64 gu, .int .i64 gk, .int .i64 gr, .int .i64 gl, .int .i64 go, .int .i64 gy] 79)) = U at *
  have HBA := hid BA
  have HBB := hid BB
  have HBX := hid BX
  have HBY := hid BY
  have HBF := hid BF
  have HBG := hid BG
  clear BA BB BX BY BF BG
  have HF : Hid (RcF w0.heap.size U U) := hid (RcF.refl _ _)
  have HSZ : Hid (w0.heap.size ≤ U.heap.size) := hid H0.out.size
  have HCN : Hid (cs.length ≤ 4000000) := hid (by omega)
  go_cut [0] from 17 (fun s0 wc => ∃ (va : Option Addr) (vc : Nat), s0 = .slice va (C1).length vc ∧ Hid (wc.ownsRow w0.heap.size 66 4 (.slice va (C1).length vc) (C1).length ((C1).flatMap cCH)) ∧ Hid (RcF w0.heap.size U wc))
  case first =>
    have HLX := hid (HD1.out cs)
    rw [hC1] at HLX
    dsimp only at HLX
    have x1 := (HBA.out.rcf HF.out (by decide)).cellF
    have z1 := (HBA.out.rcf HF.out (by decide)).lt
    have x2 := (HBB.out.rcf HF.out (by decide)).cellF
    have z2 := (HBB.out.rcf HF.out (by decide)).lt
    have x3 := (HBX.out.rcf HF.out (by decide)).cellF
    have z3 := (HBX.out.rcf HF.out (by decide)).lt
    have x4 := (HBY.out.rcf HF.out (by decide)).cellF
    have z4 := (HBY.out.rcf HF.out (by decide)).lt
    have x5 := (HBF.out.rcf HF.out (by decide)).cellF
    have z5 := (HBF.out.rcf HF.out (by decide)).lt
    have x6 := (HBG.out.rcf HF.out (by decide)).cellF
    have z6 := (HBG.out.rcf HF.out (by decide)).lt
    cases dn with
    | true =>
      have HLL : Hid (C1 = cs ++ []) := hid (by rw [HLX.out, if_pos (of_decide_eq_true hdn.out)])
      go_wp2_with fail
      go_meet
      exact ⟨va, vc, by rw [HLL.out]; simp, hid (by rw [HLL.out]; simpa using HO.out), HF⟩
    | false =>
      have HLL : Hid (C1 = cs ++ [⟨3, 7, s.name, fu⟩]) := hid (by rw [HLX.out, if_neg (of_decide_eq_false hdn.out)])
      obtain ⟨a1, c1, X1, R1, O1, G1⟩ := appendRC w0.heap.size (.slice va cs.length vc) cs ⟨3, 7, s.name, fu⟩ U HO.out HSZ.out HCN.out
      go_wp2_with (first | (at_builtin; refine wpList_append_ran rfl _ _ 31 31 rfl rfl _ _ (.slice a1 (cs.length + 1) c1) X1 rfl rfl R1.out ?_))
      go_meet
      exact ⟨a1, c1, by rw [HLL.out]; simp, hid (by rw [HLL.out]; have := O1.out; simpa using this), hid (HF.out.trans (RcF.grow G1.out HO.out))⟩
  case rest =>
  clear HO HF HD1 hC1 HSZ HCN s1 hdn
  obtain ⟨va, vc, rfl, HO, HF⟩ := hcut
  have x1 := (HBA.out.rcf HF.out (by decide)).cellF
  have z1 := (HBA.out.rcf HF.out (by decide)).lt
  have x2 := (HBB.out.rcf HF.out (by decide)).cellF
  have z2 := (HBB.out.rcf HF.out (by decide)).lt
  have x3 := (HBX.out.rcf HF.out (by decide)).cellF
  have z3 := (HBX.out.rcf HF.out (by decide)).lt
  have x4 := (HBY.out.rcf HF.out (by decide)).cellF
  have z4 := (HBY.out.rcf HF.out (by decide)).lt
  have x5 := (HBF.out.rcf HF.out (by decide)).cellF
  have z5 := (HBF.out.rcf HF.out (by decide)).lt
  have x6 := (HBG.out.rcf HF.out (by decide)).cellF
  have z6 := (HBG.out.rcf HF.out (by decide)).lt
  go_upto_if 34 with fail
  generalize wc = W1 at *
  have HSZ : Hid (w0.heap.size ≤ W1.heap.size) := hid (by have := H0.out.size; have := HF.out.size; omega)
  have HCN := HN1
  go_cut [0] from 17 (fun s0 wc => ∃ (va : Option Addr) (vc : Nat), s0 = .slice va (C2).length vc ∧ Hid (wc.ownsRow w0.heap.size 66 4 (.slice va (C2).length vc) (C2).length ((C2).flatMap cCH)) ∧ Hid (RcF w0.heap.size U wc))
  case first =>
    have HLX := hid (HD2.out C1)
    rw [hC2] at HLX
    dsimp only at HLX
    have HRO := hid (H0.out.trans (HF.out.below H0.out.size))
    by_cases e : fk = gk
    · have p3 : (fk != gk) = false := by simp [e]
      rw [if_pos e] at HLX
      subst e
      by_cases h16 : 16 ≤ fk
      · have t16 : (16 ≤ fk) = True := eq_true h16
        have hkd : fk = 16 ∨ fk = 17 := by have := HK.out.k1; dsimp only at this; omega
        obtain ⟨ja, eja, hja⟩ := HK.out.ok1.1 hkd
        obtain ⟨jb, ejb, hjb⟩ := HK.out.ok2.1 hkd
        dsimp only at eja ejb
        subst eja ejb
        have w1 := refN_at (l := a) (f := ⟨fn, fu, fk, (ja : Int), fl, fo, fy⟩) hkd hja rfl
        have w2 := refN_at (l := b) (f := ⟨gn, gu, fk, (jb : Int), gl, go, gy⟩) hkd hjb rfl
        obtain ⟨b3, o3, rfl, hb3, m3, -⟩ := row6 (HA.out.kept HRO.out) hja
        obtain ⟨b4, o4, rfl, hb4, m4, -⟩ := row6 (HB.out.kept HRO.out) hjb
        have s3 := str_eq (HK.out.t1 _ (List.getElem_mem hja)).1 (HK.out.t2 _ (List.getElem_mem hjb)).1
        have k7 : (ja : Int) < (a.length : Int) := by omega
        have k8 : (jb : Int) < (b.length : Int) := by omega
        rw [w1, w2] at HLX
        clear w1 w2 h16 HK hkd
        generalize a[ja].t.name = na at *
        generalize b[jb].t.name = nb at *
        by_cases hR : na = nb
        · rw [decide_eq_true hR] at s3
          have HLL : Hid (C2 = C1 ++ []) := hid (by rw [HLX.out, if_pos hR])
          go_wp2
          go_quiet (fail)
          go_wp2_with fail
          go_meet
          exact ⟨va, vc, by rw [HLL.out]; simp, hid (by rw [HLL.out]; have := own_kept HO.out (below_drewN W1 nq); simpa using this), hid (HF.out.trans (RcF.ofBelow (below_drewN W1 nq)))⟩
        · rw [decide_eq_false hR] at s3
          have HLL : Hid (C2 = C1 ++ [⟨4, 8, s.name, fu⟩]) := hid (by rw [HLX.out, if_neg hR])
          go_wp2
          go_quiet (fail)
          replace HO := hid (own_kept HO.out (below_drewN W1 nq))
          replace HF := hid (HF.out.trans (RcF.ofBelow (below_drewN W1 nq)))
          replace HSZ : Hid (w0.heap.size ≤ (W1.drewN nq).heap.size) := HSZ
          clear x1 z1 x2 z2 x3 z3 x4 z4 x5 z5 x6 z6
          have x1 := (HBA.out.rcf HF.out (by decide)).cellF
          have z1 := (HBA.out.rcf HF.out (by decide)).lt
          have x2 := (HBB.out.rcf HF.out (by decide)).cellF
          have z2 := (HBB.out.rcf HF.out (by decide)).lt
          have x3 := (HBX.out.rcf HF.out (by decide)).cellF
          have z3 := (HBX.out.rcf HF.out (by decide)).lt
          have x4 := (HBY.out.rcf HF.out (by decide)).cellF
          have z4 := (HBY.out.rcf HF.out (by decide)).lt
          have x5 := (HBF.out.rcf HF.out (by decide)).cellF
          have z5 := (HBF.out.rcf HF.out (by decide)).lt
          have x6 := (HBG.out.rcf HF.out (by decide)).cellF
          have z6 := (HBG.out.rcf HF.out (by decide)).lt
          generalize W1.drewN nq = Wd at *
          obtain ⟨a1, c1, X1, R1, O1, G1⟩ := appendRC w0.heap.size (.slice va C1.length vc) C1 ⟨4, 8, s.name, fu⟩ Wd HO.out HSZ.out HCN.out
          go_wp2_with (first | (at_builtin; refine wpList_append_ran rfl _ _ 31 31 rfl rfl _ _ (.slice a1 (C1.length + 1) c1) X1 rfl rfl R1.out ?_))
          go_meet
          exact ⟨a1, c1, by rw [HLL.out]; simp, hid (by rw [HLL.out]; have := O1.out; simpa using this), hid (HF.out.trans (RcF.grow G1.out HO.out))⟩
      · have t16 : (16 ≤ fk) = False := eq_false h16
        have w1 := refN_no (l := a) (f := ⟨fn, fu, fk, fr, fl, fo, fy⟩) (by dsimp only; omega)
        have w2 := refN_no (l := b) (f := ⟨gn, gu, fk, gr, gl, go, gy⟩) (by dsimp only; omega)
        rw [w1, w2] at HLX
        have HLL : Hid (C2 = C1 ++ []) := hid (by rw [HLX.out, if_pos rfl])
        clear w1 w2 h16
        go_wp2
        go_quiet (fail)
        go_wp2_with fail
        go_meet
        exact ⟨va, vc, by rw [HLL.out]; simp, hid (by rw [HLL.out]; have := own_kept HO.out (below_drewN W1 nq); simpa using this), hid (HF.out.trans (RcF.ofBelow (below_drewN W1 nq)))⟩
    · have p3 : (fk != gk) = true := by simpa using e
      rw [if_neg e] at HLX
      go_wp2_with fail
      refine (widerR fk gk _).mono ?_
      rintro e' w1 ⟨rfl, rfl⟩
      generalize widB fk gk = wb at *
      cases wb with
      | true =>
        have HLL : Hid (C2 = C1 ++ [⟨3, 8, s.name, fu⟩]) := hid HLX.out
        obtain ⟨a1, c1, X1, R1, O1, G1⟩ := appendRC w0.heap.size (.slice va C1.length vc) C1 ⟨3, 8, s.name, fu⟩ W1 HO.out HSZ.out HCN.out
        go_wp2_with (first | (at_builtin; refine wpList_append_ran rfl _ _ 31 31 rfl rfl _ _ (.slice a1 (C1.length + 1) c1) X1 rfl rfl R1.out ?_))
        go_meet
        exact ⟨a1, c1, by rw [HLL.out]; simp, hid (by rw [HLL.out]; have := O1.out; simpa using this), hid (HF.out.trans (RcF.grow G1.out HO.out))⟩
      | false =>
        have HLL : Hid (C2 = C1 ++ [⟨4, 8, s.name, fu⟩]) := hid HLX.out
        obtain ⟨a1, c1, X1, R1, O1, G1⟩ := appendRC w0.heap.size (.slice va C1.length vc) C1 ⟨4, 8, s.name, fu⟩ W1 HO.out HSZ.out HCN.out
        go_wp2_with (first | (at_builtin; refine wpList_append_ran rfl _ _ 31 31 rfl rfl _ _ (.slice a1 (C1.length + 1) c1) X1 rfl rfl R1.out ?_))
        go_meet
        exact ⟨a1, c1, by rw [HLL.out]; simp, hid (by rw [HLL.out]; have := O1.out; simpa using this), hid (HF.out.trans (RcF.grow G1.out HO.out))⟩
  case rest =>
  clear HO HF HD2 hC2 HSZ HCN x1 z1 x2 z2 x3 z3 x4 z4 x5 z5 x6 z6
  obtain ⟨va, vc, rfl, HO, HF⟩ := hcut
  have x1 := (HBA.out.rcf HF.out (by decide)).cellF
  have z1 := (HBA.out.rcf HF.out (by decide)).lt
  have x2 := (HBB.out.rcf HF.out (by decide)).cellF
  have z2 := (HBB.out.rcf HF.out (by decide)).lt
  have x3 := (HBX.out.rcf HF.out (by decide)).cellF
  have z3 := (HBX.out.rcf HF.out (by decide)).lt
  have x4 := (HBY.out.rcf HF.out (by decide)).cellF
  have z4 := (HBY.out.rcf HF.out (by decide)).lt
  have x5 := (HBF.out.rcf HF.out (by decide)).cellF
  have z5 := (HBF.out.rcf HF.out (by decide)).lt
  have x6 := (HBG.out.rcf HF.out (by decide)).cellF
  have z6 := (HBG.out.rcf HF.out (by decide)).lt
  go_upto_if 81 with fail
  generalize wc = W2 at *
  have HSZ : Hid (w0.heap.size ≤ W2.heap.size) := hid (by have := H0.out.size; have := HF.out.size; omega)
  have HCN := HN2
  go_cut [0] from 17 (fun s0 wc => ∃ (va : Option Addr) (vc : Nat), s0 = .slice va (C3).length vc ∧ Hid (wc.ownsRow w0.heap.size 66 4 (.slice va (C3).length vc) (C3).length ((C3).flatMap cCH)) ∧ Hid (RcF w0.heap.size U wc))
  case first =>
    have HLX := hid (HD3.out C2)
    rw [hC3] at HLX
    dsimp only at HLX
    have HRO := hid (H0.out.trans (HF.out.below H0.out.size))
    by_cases e : fl = gl
    · have p3 : (fl != gl) = false := by simp [e]
      rw [if_pos e] at HLX
      subst e
      by_cases h4 : fl = 4
      · subst h4
        obtain ⟨ia, eia, hia⟩ := HK.out.ok1.2 rfl
        obtain ⟨ib, eib, hib⟩ := HK.out.ok2.2 rfl
        dsimp only at eia eib
        subst eia eib
        have w3 := oneN_at (t := s) (f := ⟨fn, fu, fk, fr, 4, (ia : Int), fy⟩) rfl hia rfl
        have w4 := oneN_at (t := t) (f := ⟨gn, gu, gk, gr, 4, (ib : Int), gy⟩) rfl hib rfl
        obtain ⟨b5, o5, rfl, hb5, m5⟩ := rowN (HS.out.kept HRO.out) hia
        obtain ⟨b6, o6, rfl, hb6, m6⟩ := rowN (HT.out.kept HRO.out) hib
        have s4 := str_eq (HK.out.o1 _ (List.getElem_mem hia)).1 (HK.out.o2 _ (List.getElem_mem hib)).1
        have k5 : (ia : Int) < (s.os.length : Int) := by omega
        have k6 : (ib : Int) < (t.os.length : Int) := by omega
        rw [w3, w4] at HLX
        clear w3 w4 HK
        generalize s.os[ia] = oa1 at *
        generalize t.os[ib] = ob1 at *
        by_cases hR : oa1 = ob1
        · rw [decide_eq_true hR] at s4
          have HLL : Hid (C3 = C2 ++ []) := hid (by rw [HLX.out, if_pos hR])
          go_wp2
          go_quiet (fail)
          go_wp2_with fail
          go_meet
          exact ⟨va, vc, by rw [HLL.out]; simp, hid (by rw [HLL.out]; have := own_kept HO.out (below_drewN W2 nq); simpa using this), hid (HF.out.trans (RcF.ofBelow (below_drewN W2 nq)))⟩
        · rw [decide_eq_false hR] at s4
          have HLL : Hid (C3 = C2 ++ [⟨4, 9, s.name, fu⟩]) := hid (by rw [HLX.out, if_neg hR])
          go_wp2
          go_quiet (fail)
          replace HO := hid (own_kept HO.out (below_drewN W2 nq))
          replace HF := hid (HF.out.trans (RcF.ofBelow (below_drewN W2 nq)))
          replace HSZ : Hid (w0.heap.size ≤ (W2.drewN nq).heap.size) := HSZ
          clear x1 z1 x2 z2 x3 z3 x4 z4 x5 z5 x6 z6
          have x1 := (HBA.out.rcf HF.out (by decide)).cellF
          have z1 := (HBA.out.rcf HF.out (by decide)).lt
          have x2 := (HBB.out.rcf HF.out (by decide)).cellF
          have z2 := (HBB.out.rcf HF.out (by decide)).lt
          have x3 := (HBX.out.rcf HF.out (by decide)).cellF
          have z3 := (HBX.out.rcf HF.out (by decide)).lt
          have x4 := (HBY.out.rcf HF.out (by decide)).cellF
          have z4 := (HBY.out.rcf HF.out (by decide)).lt
          have x5 := (HBF.out.rcf HF.out (by decide)).cellF
          have z5 := (HBF.out.rcf HF.out (by decide)).lt
          have x6 := (HBG.out.rcf HF.out (by decide)).cellF
          have z6 := (HBG.out.rcf HF.out (by decide)).lt
          generalize W2.drewN nq = Wd at *
          obtain ⟨a1, c1, X1, R1, O1, G1⟩ := appendRC w0.heap.size (.slice va C2.length vc) C2 ⟨4, 9, s.name, fu⟩ Wd HO.out HSZ.out HCN.out
          go_wp2_with (first | (at_builtin; refine wpList_append_ran rfl _ _ 31 31 rfl rfl _ _ (.slice a1 (C2.length + 1) c1) X1 rfl rfl R1.out ?_))
          go_meet
          exact ⟨a1, c1, by rw [HLL.out]; simp, hid (by rw [HLL.out]; have := O1.out; simpa using this), hid (HF.out.trans (RcF.grow G1.out HO.out))⟩
      · have l4 : (fl == 4) = false := by simpa using h4
        have w3 := oneN_no (t := s) (f := ⟨fn, fu, fk, fr, fl, fo, fy⟩) h4
        have w4 := oneN_no (t := t) (f := ⟨gn, gu, gk, gr, fl, go, gy⟩) h4
        rw [w3, w4] at HLX
        have HLL : Hid (C3 = C2 ++ []) := hid (by rw [HLX.out, if_pos rfl])
        clear w3 w4 h4
        go_wp2
        go_quiet (fail)
        go_wp2_with fail
        go_meet
        exact ⟨va, vc, by rw [HLL.out]; simp, hid (by rw [HLL.out]; have := own_kept HO.out (below_drewN W2 nq); simpa using this), hid (HF.out.trans (RcF.ofBelow (below_drewN W2 nq)))⟩
    · have p3 : (fl != gl) = true := by simpa using e
      rw [if_neg e] at HLX
      go_wp2_with fail
      refine (HLB.out _).mono ?_
      rintro e' W3 ⟨rfl, hb3⟩
      replace HO := hid (own_kept HO.out hb3)
      replace HF := hid (HF.out.trans (RcF.ofBelow hb3))
      replace HSZ : Hid (w0.heap.size ≤ W3.heap.size) := hid (by have := HSZ.out; have := hb3.size; omega)
      clear x1 z1 x2 z2 x3 z3 x4 z4 x5 z5 x6 z6 hb3
      have x1 := (HBA.out.rcf HF.out (by decide)).cellF
      have z1 := (HBA.out.rcf HF.out (by decide)).lt
      have x2 := (HBB.out.rcf HF.out (by decide)).cellF
      have z2 := (HBB.out.rcf HF.out (by decide)).lt
      have x3 := (HBX.out.rcf HF.out (by decide)).cellF
      have z3 := (HBX.out.rcf HF.out (by decide)).lt
      have x4 := (HBY.out.rcf HF.out (by decide)).cellF
      have z4 := (HBY.out.rcf HF.out (by decide)).lt
      have x5 := (HBF.out.rcf HF.out (by decide)).cellF
      have z5 := (HBF.out.rcf HF.out (by decide)).lt
      have x6 := (HBG.out.rcf HF.out (by decide)).cellF
      have z6 := (HBG.out.rcf HF.out (by decide)).lt
      generalize lbB ⟨fn, fu, fk, fr, fl, fo, fy⟩ ⟨gn, gu, gk, gr, gl, go, gy⟩ = wb at *
      cases wb with
      | true =>
        have HLL : Hid (C3 = C2 ++ [⟨3, 9, s.name, fu⟩]) := hid HLX.out
        obtain ⟨a1, c1, X1, R1, O1, G1⟩ := appendRC w0.heap.size (.slice va C2.length vc) C2 ⟨3, 9, s.name, fu⟩ W3 HO.out HSZ.out HCN.out
        go_wp2_with (first | (at_builtin; refine wpList_append_ran rfl _ _ 31 31 rfl rfl _ _ (.slice a1 (C2.length + 1) c1) X1 rfl rfl R1.out ?_))
        go_meet
        exact ⟨a1, c1, by rw [HLL.out]; simp, hid (by rw [HLL.out]; have := O1.out; simpa using this), hid (HF.out.trans (RcF.grow G1.out HO.out))⟩
      | false =>
        have HLL : Hid (C3 = C2 ++ [⟨4, 9, s.name, fu⟩]) := hid HLX.out
        obtain ⟨a1, c1, X1, R1, O1, G1⟩ := appendRC w0.heap.size (.slice va C2.length vc) C2 ⟨4, 9, s.name, fu⟩ W3 HO.out HSZ.out HCN.out
        go_wp2_with (first | (at_builtin; refine wpList_append_ran rfl _ _ 31 31 rfl rfl _ _ (.slice a1 (C2.length + 1) c1) X1 rfl rfl R1.out ?_))
        go_meet
        exact ⟨a1, c1, by rw [HLL.out]; simp, hid (by rw [HLL.out]; have := O1.out; simpa using this), hid (HF.out.trans (RcF.grow G1.out HO.out))⟩
  case rest =>
  clear HO HF HD3 hC3 HSZ HCN x1 z1 x2 z2 x3 z3 x4 z4 x5 z5 x6 z6
  obtain ⟨va, vc, rfl, HO, HF⟩ := hcut
  have x1 := (HBA.out.rcf HF.out (by decide)).cellF
  have z1 := (HBA.out.rcf HF.out (by decide)).lt
  have x2 := (HBB.out.rcf HF.out (by decide)).cellF
  have z2 := (HBB.out.rcf HF.out (by decide)).lt
  have x3 := (HBX.out.rcf HF.out (by decide)).cellF
  have z3 := (HBX.out.rcf HF.out (by decide)).lt
  have x4 := (HBY.out.rcf HF.out (by decide)).cellF
  have z4 := (HBY.out.rcf HF.out (by decide)).lt
  have x5 := (HBF.out.rcf HF.out (by decide)).cellF
  have z5 := (HBF.out.rcf HF.out (by decide)).lt
  have x6 := (HBG.out.rcf HF.out (by decide)).cellF
  have z6 := (HBG.out.rcf HF.out (by decide)).lt
  generalize wc = W3 at *
  have HSZ : Hid (w0.heap.size ≤ W3.heap.size) := hid (by have := H0.out.size; have := HF.out.size; omega)
  have HCN := HN3
  have HUW : Hid (RcF w0.heap.size w U) := hid (RcF.ofBelow HL.out)
  have HLX := hid (HD4.out C3)
  rw [hC4] at HLX
  dsimp only at HLX
  by_cases h5 : fl = 5
  · by_cases h6 : gl = 5
    · by_cases h7 : fy = gy
      · have HLL : Hid (C4 = C3 ++ []) := hid (by rw [HLX.out, if_neg (fun q => q.2.2 h7)])
        have q7 : (fy != gy) = false := by simp [h7]
        subst h5 h6
        clear h7
        go_wp2
        go_ret
        exact ⟨va, vc, by rw [HLL.out]; simp, by rw [HLL.out]; simpa using HO.out, HUW.out.trans HF.out⟩
      · have HLL : Hid (C4 = C3 ++ [⟨4, 8, s.name, fu⟩]) := hid (by rw [HLX.out, if_pos ⟨h5, h6, h7⟩])
        have q7 : (fy != gy) = true := by simpa using h7
        subst h5 h6
        clear h7
        obtain ⟨a1, c1, X1, R1, O1, G1⟩ := appendRC w0.heap.size (.slice va C3.length vc) C3 ⟨4, 8, s.name, fu⟩ W3 HO.out HSZ.out HCN.out
        go_wp2_with (first | (at_builtin; refine wpList_append_ran rfl _ _ 31 31 rfl rfl _ _ (.slice a1 (C3.length + 1) c1) X1 rfl rfl R1.out ?_))
        go_ret
        exact ⟨a1, c1, by rw [HLL.out]; simp, by rw [HLL.out]; have := O1.out; simpa using this, HUW.out.trans (HF.out.trans (RcF.grow G1.out HO.out))⟩
    · have HLL : Hid (C4 = C3 ++ []) := hid (by rw [HLX.out, if_neg (fun q => h6 q.2.1)])
      have q6 : (gl == 5) = false := by simpa using h6
      subst h5
      clear h6
      go_wp2
      go_ret
      exact ⟨va, vc, by rw [HLL.out]; simp, by rw [HLL.out]; simpa using HO.out, HUW.out.trans HF.out⟩
  · have HLL : Hid (C4 = C3 ++ []) := hid (by rw [HLX.out, if_neg (fun q => h5 q.1)])
    have q5 : (fl == 5) = false := by simpa using h5
    clear h5
    go_wp2
    go_ret
    exact ⟨va, vc, by rw [HLL.out]; simp, by rw [HLL.out]; simpa using HO.out, HUW.out.trans HF.out⟩
set_option maxHeartbeats 1000000
/-- What one old symbol tells, by all new ones. -/
def sd1 (nm : List Int) (s : SY) (y : SY) : List CH := if y.num = s.num then (if y.name = s.name then [] else [⟨3, 7, nm, s.num⟩]) else []
def sdH (n : Int) (ys : List SY) : Bool := ys.any (fun y => y.num == n)
def sdL (nm : List Int) (ys : List SY) (s : SY) : List CH := ys.flatMap (sd1 nm s) ++ (if sdH s.num ys = true then [] else [⟨4, 3, nm, s.num⟩])
theorem sd_none (nm : List Int) (s : SY) : ∀ ys : List SY, sdH s.num ys = false → ys.flatMap (sd1 nm s) = []
  | [], _ => rfl
  | y :: ys, h => by
    unfold sdH at h
    rw [List.any_cons, Bool.or_eq_false_iff] at h
    rw [List.flatMap_cons, sd_none nm s ys h.2]
    unfold sd1
    rw [if_neg (by simpa using h.1)]
    rfl
theorem sd_find (n : Int) : ∀ ys : List SY, ys.find? (syI n) = none ↔ sdH n ys = false
  | [] => by simp [sdH]
  | y :: ys => by
    have := sd_find n ys
    unfold sdH syI at *
    rw [List.find?_cons, List.any_cons]
    cases h : y.num == n with
    | true => simp
    | false => simp
theorem sd_is {nm : List Int} {ys : List SY} (hu : ys.Pairwise (fun x y => x.num ≠ y.num)) (s : SY) : sdL nm ys s = sy1 nm ys s := by
  unfold sdL sy1
  cases h : ys.find? (syI s.num) with
  | none =>
    have h2 := (sd_find s.num ys).1 h
    rw [sd_none nm s ys h2, h2]
    rfl
  | some y =>
    have h2 : sdH s.num ys = true := by
      rw [← Bool.not_eq_false]
      intro q
      rw [(sd_find s.num ys).2 q] at h
      cases h
    rw [if_pos h2, List.append_nil]
    clear h2
    induction ys with
    | nil => cases h
    | cons z ys ih =>
      rw [List.find?_cons] at h
      rw [List.pairwise_cons] at hu
      rw [List.flatMap_cons]
      cases q : syI s.num z with
      | true =>
        rw [q] at h
        cases h
        have e : y.num = s.num := by unfold syI at q; simpa using q
        have hn : sdH s.num ys = false := by
          unfold sdH
          rw [List.any_eq_false]
          intro y' hy
          have := hu.1 y' hy
          simp
          omega
        rw [sd_none nm s ys hn, List.append_nil]
        unfold sd1
        rw [if_pos e]
      | false =>
        rw [q] at h
        have e : ¬ z.num = s.num := by unfold syI at q; simpa using q
        rw [ih hu.2 h]
        unfold sd1
        rw [if_neg e]
        rfl
theorem sy2_is (nm : List Int) (xs : List SY) (s : SY) : sy2 nm xs s = if sdH s.num xs = true then [] else [⟨3, 4, nm, s.num⟩] := by
  unfold sy2
  cases h : xs.find? (syI s.num) with
  | none => rw [(sd_find s.num xs).1 h]; rfl
  | some y =>
    have h2 : sdH s.num xs = true := by
      rw [← Bool.not_eq_false]
      intro q
      rw [(sd_find s.num xs).2 q] at h
      cases h
    rw [h2]
    rfl
theorem sd1_le (nm : List Int) (s y : SY) : (sd1 nm s y).length ≤ 1 := by unfold sd1; split <;> (try split) <;> simp
theorem nums_pw {ss : List SY} (h : dfB ((ss.map SY.num).map litI) = true) : ss.Pairwise (fun x y => x.num ≠ y.num) := by
  rw [dfB_iff _ (fun x hx => by obtain ⟨y, _, rfl⟩ := List.mem_map.1 hx; trivial), List.Nodup, List.pairwise_map, List.pairwise_map] at h
  exact h.imp (fun h e => h (by rw [e]))
/-- What one new symbol tells. -/
def sd2 (nm : List Int) (xs : List SY) (y : SY) : List CH := if sdH y.num xs = true then [] else [⟨3, 4, nm, y.num⟩]
theorem sdL_le (nm : List Int) (ys : List SY) (s : SY) (h : ys.length ≤ 128) : (sdL nm ys s).length ≤ 129 := by
  have := flat_le (sd1 nm s) 1 (sd1_le nm s) ys
  unfold sdL
  rw [List.length_append]
  split
  · rw [List.length_nil]; omega
  · rw [List.length_singleton]; omega
theorem sd2_le (nm : List Int) (xs : List SY) (y : SY) : (sd2 nm xs y).length ≤ 1 := by unfold sd2; split <;> simp
theorem sdH_snoc (n : Int) (ys : List SY) (k : Nat) (hk : k < ys.length) : sdH n (ys.take (k + 1)) = (sdH n (ys.take k) || ys[k].num == n) := by
  unfold sdH
  rw [List.take_succ_eq_append_getElem hk, List.any_append]
  simp
/-- A list of changes of one's own, and what stays. -/
structure OcF (w0 U : World) (va : Option Addr) (vc : Nat) (L : List CH) (W : World) : Prop where
  o : W.ownsRow w0.heap.size 66 4 (.slice va L.length vc) L.length (L.flatMap cCH)
  f : RcF w0.heap.size U W
  z : w0.heap.size ≤ W.heap.size
theorem OcF.kept {w0 U W W' : World} {va : Option Addr} {vc : Nat} {L : List CH} (h : OcF w0 U va vc L W) (hb : Below W.heap.size W W') : OcF w0 U va vc L W' := ⟨own_kept h.o hb, h.f.trans (RcF.ofBelow hb), Nat.le_trans h.z hb.size⟩
theorem OcF.app {w0 U W : World} {va : Option Addr} {vc : Nat} {L : List CH} (h : OcF w0 U va vc L W) (hn : L.length ≤ 4000000) (y : CH) : ∃ a c w', Hid ((Builtin.append_ #[31, 31] 31 #[.slice va L.length vc, .slice (some ⟨W.heap.size, 0, none⟩) 1 1]).run Tryz.prog (W.alloc (.cells #[.int .i64 y.cls, .int .i64 y.what, .string (strOfNums y.ty), .int .i64 y.num] 66)) = .ok (.slice a (L.length + 1) c) w') ∧ Hid (OcF w0 U a c (L ++ [y]) w') := by
  obtain ⟨a, c, w', R, O, G⟩ := appendRC w0.heap.size (.slice va L.length vc) L y W h.o h.z hn
  refine ⟨a, c, w', R, hid ⟨?_, h.f.trans (RcF.grow G.out h.o), Nat.le_trans h.z G.out.size⟩⟩
  have := O.out
  rw [List.length_append] at this ⊢
  exact this
theorem OcF.is {w0 U W : World} {va : Option Addr} {vc : Nat} {L M : List CH} (h : OcF w0 U va vc L W) (e : L = M) : OcF w0 U va vc M W := e ▸ h
theorem enumR18 (w0 w : World) (cs : List CH) (va : Option Addr) (vc : Nat) (s t : TT) (fa oa sa ra fb ob sb rb : Option Addr) (fc oc sc rc fd od sd rd : Nat) (h0 : Below w0.heap.size w0 w) (ho : w.ownsRow w0.heap.size 66 4 (.slice va cs.length vc) cs.length (cs.flatMap cCH)) (hn : cs.length ≤ 2000000) (hs : RowS w0 AnyZ 2 (.slice sa s.ss.length sc) s.ss.length (s.ss.flatMap cSY)) (ht : RowS w0 AnyZ 2 (.slice sb t.ss.length sd) t.ss.length (t.ss.flatMap cSY)) (u1 : ∀ x ∈ s.ss, TxA x.name) (u2 : ∀ x ∈ t.ss, TxA x.name) (l1 : s.ss.length ≤ 128) (l2 : t.ss.length ≤ 128) : Calls Tryz.prog 30 #[.slice va cs.length vc, aTY s fa oa sa ra fc oc sc rc, aTY t fb ob sb rb fd od sd rd] w fun e w' => ∃ va' vc', e = .returned (.slice va' (cs ++ (s.ss.flatMap (sdL s.name t.ss) ++ t.ss.flatMap (sd2 s.name s.ss))).length vc') ∧ OcF w0 w va' vc' (cs ++ (s.ss.flatMap (sdL s.name t.ss) ++ t.ss.flatMap (sd2 s.name s.ss))) w' := by
  have HS := hid hs
  have HT := hid ht
  have U1 := hid u1
  have U2 := hid u2
  have m1 : (s.ss.length : Int) ≤ 9223372036854775807 := by omega
  have m2 : (t.ss.length : Int) ≤ 9223372036854775807 := by omega
  have HE1 : Hid (∀ i, ((s.ss.take i).flatMap (sdL s.name t.ss)).length ≤ 16512) := hid fun i => by
    have := flat_le (sdL s.name t.ss) 129 (fun x => sdL_le _ _ _ l2) (s.ss.take i)
    rw [List.length_take] at this
    omega
  have HE2 : Hid (∀ x k, ((t.ss.take k).flatMap (sd1 s.name x)).length ≤ 128) := hid fun x k => by
    have := flat_le (sd1 s.name x) 1 (sd1_le s.name x) (t.ss.take k)
    rw [List.length_take] at this
    omega
  have HE3 : Hid (∀ k, ((t.ss.take k).flatMap (sd2 s.name s.ss)).length ≤ 128) := hid fun k => by
    have := flat_le (sd2 s.name s.ss) 1 (sd2_le s.name s.ss) (t.ss.take k)
    rw [List.length_take] at this
    omega
  clear hs ht u1 u2
  unfold aTY
  go_enter Tryz.func30, Tryz.ntmps30
  have BX : Blk ((w.alloc (.cells #[.string (strOfNums s.name), .bool s.enum, .slice fa s.fs.length fc, .slice oa s.os.length oc, .slice sa s.ss.length sc, .slice ra s.rs.length rc] 50)).alloc (.cells #[.string (strOfNums t.name), .bool t.enum, .slice fb t.fs.length fd, .slice ob t.os.length od, .slice sb t.ss.length sd, .slice rb t.rs.length rd] 50)) w.heap.size 50 #[.string (strOfNums s.name), .bool s.enum, .slice fa s.fs.length fc, .slice oa s.os.length oc, .slice sa s.ss.length sc, .slice ra s.rs.length rc] := (Blk.new _ _ _).kept (below_alloc _)
  have BY : Blk ((w.alloc (.cells #[.string (strOfNums s.name), .bool s.enum, .slice fa s.fs.length fc, .slice oa s.os.length oc, .slice sa s.ss.length sc, .slice ra s.rs.length rc] 50)).alloc (.cells #[.string (strOfNums t.name), .bool t.enum, .slice fb t.fs.length fd, .slice ob t.os.length od, .slice sb t.ss.length sd, .slice rb t.rs.length rd] 50)) (w.heap.size + 1) 50 #[.string (strOfNums t.name), .bool t.enum, .slice fb t.fs.length fd, .slice ob t.os.length od, .slice sb t.ss.length sd, .slice rb t.rs.length rd] := Blk.newAt (by simp)
  have HL : Hid (Below w.heap.size w ((w.alloc (.cells #[.string (strOfNums s.name), .bool s.enum, .slice fa s.fs.length fc, .slice oa s.os.length oc, .slice sa s.ss.length sc, .slice ra s.rs.length rc] 50)).alloc (.cells #[.string (strOfNums t.name), .bool t.enum, .slice fb t.fs.length fd, .slice ob t.os.length od, .slice sb t.ss.length sd, .slice rb t.rs.length rd] 50))) := hid (by exact blBy)
  go_wp2
  have HC := hid (OcF.mk (w0 := w0) (U := ((w.alloc (.cells #[.string (strOfNums s.name), .bool s.enum, .slice fa s.fs.length fc, .slice oa s.os.length oc, .slice sa s.ss.length sc, .slice ra s.rs.length rc] 50)).alloc (.cells #[.string (strOfNums t.name), .bool t.enum, .slice fb t.fs.length fd, .slice ob t.os.length od, .slice sb t.ss.length sd, .slice rb t.rs.length rd] 50))) (va := va) (vc := vc) (L := cs) (own_kept ho HL.out) (RcF.refl _ _) (Nat.le_trans h0.size HL.out.size))
  have H0 := hid (h0.trans (HL.out.mono h0.size))
  clear ho h0
  generalize ((w.alloc (.cells #[.string (strOfNums s.name), .bool s.enum, .slice fa s.fs.length fc, .slice oa s.os.length oc, .slice sa s.ss.length sc, .slice ra s.rs.length rc] 50)).alloc (.cells #[.string (strOfNums t.name), .bool t.enum, .slice fb t.fs.length fd, .slice ob t.os.length od, .slice sb t.ss.length sd, .slice rb t.rs.length rd] 50)) = U at *
  have HBX := hid BX
  have HBY := hid BY
  clear BX BY
  go_loopw [0, 7] (fun v r wr => ∃ (i : Nat) (va : Option Addr) (vc : Nat), v = .slice va (cs ++ (s.ss.take i).flatMap (sdL s.name t.ss)).length vc ∧ r = .int .i64 i ∧ i ≤ s.ss.length ∧ Hid (OcF w0 U va vc (cs ++ (s.ss.take i).flatMap (sdL s.name t.ss)) wr)) (fun _ r wr => s.ss.length - numAt wr r)
  case atStart => exact ⟨0, va, vc, by simp, rfl, by omega, hid (HC.out.is (by simp))⟩
  case round =>
    clear HC va vc
    obtain ⟨i, va, vc, rfl, rfl, hi, HC⟩ := hrel
    have HF := hid HC.out.f
    have x1 := (HBX.out.rcf HF.out (by decide)).cellF
    have z1 := (HBX.out.rcf HF.out (by decide)).lt
    have x2 := (HBY.out.rcf HF.out (by decide)).cellF
    have z2 := (HBY.out.rcf HF.out (by decide)).lt
    by_cases hlt : i < s.ss.length
    · have k1 : (i : Int) < (s.ss.length : Int) := by omega
      have HRO := hid (H0.out.trans (HF.out.below H0.out.size))
      obtain ⟨b1, o1, rfl, hb1, c0, c1⟩ := rowY (HS.out.kept HRO.out) hlt
      have HST := hid (flat_snoc (sdL s.name t.ss) s.ss i hlt)
      have HTX := hid (U1.out _ (List.getElem_mem hlt))
      have HLN : Hid ((cs ++ (s.ss.take i).flatMap (sdL s.name t.ss)).length ≤ 2100000) := hid (by have := HE1.out i; rw [List.length_append]; omega)
      have HST2 : Hid (cs ++ (s.ss.take (i + 1)).flatMap (sdL s.name t.ss) = (cs ++ (s.ss.take i).flatMap (sdL s.name t.ss)) ++ (t.ss.flatMap (sd1 s.name s.ss[i]) ++ (if sdH s.ss[i].num t.ss = true then [] else [⟨4, 3, s.name, s.ss[i].num⟩]))) := hid (by rw [HST.out]; unfold sdL; simp only [List.append_assoc])
      clear HST
      generalize s.ss[i] = x at *
      generalize cs ++ (s.ss.take i).flatMap (sdL s.name t.ss) = C0 at *
      obtain ⟨xn, xu⟩ := x
      dsimp only at c0 c1 HST2 HTX
      go_wp2
      have HBS : Hid (Blk (wr.alloc (.cells #[.string (strOfNums xn), .int .i64 xu] 77)) wr.heap.size 77 #[.string (strOfNums xn), .int .i64 xu]) := hid (Blk.new _ _ _)
      have HF1 := hid (HF.out.trans (RcF.ofBelow (below_alloc (.cells #[.string (strOfNums xn), .int .i64 xu] 77))))
      have HCx := hid (HC.out.kept (below_alloc (.cells #[.string (strOfNums xn), .int .i64 xu] 77)))
      have HC2 : Hid (OcF w0 (wr.alloc (.cells #[.string (strOfNums xn), .int .i64 xu] 77)) va vc C0 (wr.alloc (.cells #[.string (strOfNums xn), .int .i64 xu] 77))) := hid ⟨HCx.out.o, RcF.refl _ _, HCx.out.z⟩
      clear x1 z1 x2 z2 c0 c1 hb1 HF HC HCx HRO
      generalize wr.heap.size = sp at *
      generalize wr.alloc (.cells #[.string (strOfNums xn), .int .i64 xu] 77) = W1 at *
      go_loopw [0, 9, 10] (fun v h r wq => ∃ (k : Nat) (va : Option Addr) (vc : Nat), v = .slice va (C0 ++ (t.ss.take k).flatMap (sd1 s.name ⟨xn, xu⟩)).length vc ∧ h = .bool (sdH xu (t.ss.take k)) ∧ r = .int .i64 k ∧ k ≤ t.ss.length ∧ Hid (OcF w0 W1 va vc (C0 ++ (t.ss.take k).flatMap (sd1 s.name ⟨xn, xu⟩)) wq)) (fun _ _ r wq => t.ss.length - numAt wq r)
      case atStart => exact ⟨0, va, vc, by simp, rfl, rfl, by omega, hid (HC2.out.is (by simp))⟩
      case round =>
        clear HC2
        obtain ⟨k, va, vc, rfl, rfl, rfl, hk, HC2⟩ := hrel
        have HF := hid (HF1.out.trans HC2.out.f)
        have x1 := (HBX.out.rcf HF.out (by decide)).cellF
        have z1 := (HBX.out.rcf HF.out (by decide)).lt
        have x2 := (HBY.out.rcf HF.out (by decide)).cellF
        have z2 := (HBY.out.rcf HF.out (by decide)).lt
        have x5 := (HBS.out.rcf HC2.out.f (by decide)).cellF
        have z5 := (HBS.out.rcf HC2.out.f (by decide)).lt
        by_cases hlt2 : k < t.ss.length
        · have k2 : (k : Int) < (t.ss.length : Int) := by omega
          have HRO := hid (H0.out.trans (HF.out.below H0.out.size))
          obtain ⟨b2, o2, rfl, hb2, d0, d1⟩ := rowY (HT.out.kept HRO.out) hlt2
          have HSK : Hid (C0 ++ (t.ss.take (k + 1)).flatMap (sd1 s.name ⟨xn, xu⟩) = (C0 ++ (t.ss.take k).flatMap (sd1 s.name ⟨xn, xu⟩)) ++ sd1 s.name ⟨xn, xu⟩ t.ss[k]) := hid (by rw [flat_snoc _ _ _ hlt2, List.append_assoc])
          have HSH := hid (sdH_snoc xu t.ss k hlt2)
          have HLK : Hid ((C0 ++ (t.ss.take k).flatMap (sd1 s.name ⟨xn, xu⟩)).length ≤ 4000000) := hid (by have := HE2.out ⟨xn, xu⟩ k; have := HLN.out; rw [List.length_append]; omega)
          have s1 := str_eq (U2.out _ (List.getElem_mem hlt2)).1 HTX.out.1
          generalize t.ss[k] = y at *
          generalize C0 ++ (t.ss.take k).flatMap (sd1 s.name ⟨xn, xu⟩) = LL at *
          generalize sdH xu (t.ss.take k) = hh at *
          obtain ⟨yn, yu⟩ := y
          dsimp only at d0 d1 s1 HSK HSH
          rw [show sd1 s.name ⟨xn, xu⟩ ⟨yn, yu⟩ = if yu = xu then (if yn = xn then [] else [⟨3, 7, s.name, xu⟩]) else [] from rfl] at HSK
          clear HRO
          by_cases e1 : yu = xu
          · subst e1
            rw [if_pos rfl] at HSK
            have HT2 : Hid (sdH yu (t.ss.take (k + 1)) = true) := hid (by rw [HSH.out]; simp)
            clear HSH
            by_cases e2 : yn = xn
            · rw [decide_eq_true e2] at s1
              rw [if_pos e2] at HSK
              go_wp2
              go_quiet (fail)
              replace HC2 := hid (HC2.out.kept (below_drewN wr nq))
              replace d0 := cell_below d0 (below_drewN wr nq)
              replace d1 := cell_below d1 (below_drewN wr nq)
              clear x1 z1 x2 z2 x5 z5
              replace HF := hid (HF1.out.trans HC2.out.f)
              have x1 := (HBX.out.rcf HF.out (by decide)).cellF
              have z1 := (HBX.out.rcf HF.out (by decide)).lt
              have x2 := (HBY.out.rcf HF.out (by decide)).cellF
              have z2 := (HBY.out.rcf HF.out (by decide)).lt
              have x5 := (HBS.out.rcf HC2.out.f (by decide)).cellF
              have z5 := (HBS.out.rcf HC2.out.f (by decide)).lt
              generalize wr.drewN nq = Wd at *
              go_wp2
              go_quiet (fail)
              go_wp2
              exact ⟨⟨k + 1, va, vc, by rw [HSK.out]; simp, by rw [HT2.out], by simp, by omega, hid ((HC2.out.kept (below_drewN Wd nq)).is (by rw [HSK.out]; simp))⟩, by simp [numAt]; omega⟩
            · rw [decide_eq_false e2] at s1
              rw [if_neg e2] at HSK
              go_wp2
              go_quiet (fail)
              replace HC2 := hid (HC2.out.kept (below_drewN wr nq))
              replace d0 := cell_below d0 (below_drewN wr nq)
              replace d1 := cell_below d1 (below_drewN wr nq)
              clear x1 z1 x2 z2 x5 z5
              replace HF := hid (HF1.out.trans HC2.out.f)
              have x1 := (HBX.out.rcf HF.out (by decide)).cellF
              have z1 := (HBX.out.rcf HF.out (by decide)).lt
              have x2 := (HBY.out.rcf HF.out (by decide)).cellF
              have z2 := (HBY.out.rcf HF.out (by decide)).lt
              have x5 := (HBS.out.rcf HC2.out.f (by decide)).cellF
              have z5 := (HBS.out.rcf HC2.out.f (by decide)).lt
              generalize wr.drewN nq = Wd at *
              go_wp2
              go_quiet (fail)
              replace HC2 := hid (HC2.out.kept (below_drewN Wd nq))
              replace d0 := cell_below d0 (below_drewN Wd nq)
              replace d1 := cell_below d1 (below_drewN Wd nq)
              clear x1 z1 x2 z2 x5 z5
              replace HF := hid (HF1.out.trans HC2.out.f)
              have x1 := (HBX.out.rcf HF.out (by decide)).cellF
              have z1 := (HBX.out.rcf HF.out (by decide)).lt
              have x2 := (HBY.out.rcf HF.out (by decide)).cellF
              have z2 := (HBY.out.rcf HF.out (by decide)).lt
              have x5 := (HBS.out.rcf HC2.out.f (by decide)).cellF
              have z5 := (HBS.out.rcf HC2.out.f (by decide)).lt
              generalize Wd.drewN nq = We at *
              obtain ⟨a1, c1, X1, R1, O1⟩ := HC2.out.app HLK.out ⟨3, 7, s.name, yu⟩
              go_wp2_with (first | (at_builtin; refine wpList_append_ran rfl _ _ 31 31 rfl rfl _ _ (.slice a1 (LL.length + 1) c1) X1 rfl rfl R1.out ?_))
              exact ⟨⟨k + 1, a1, c1, by rw [HSK.out]; simp, by rw [HT2.out], by simp, by omega, hid (O1.out.is HSK.out.symm)⟩, by simp [numAt]; omega⟩
          · rw [if_neg e1] at HSK
            have q1 : (yu == xu) = false := by simpa using e1
            have HT2 : Hid (sdH xu (t.ss.take (k + 1)) = hh) := hid (by rw [HSH.out, q1]; simp)
            clear HSH e1
            go_wp2
            go_quiet (fail)
            go_wp2
            exact ⟨⟨k + 1, va, vc, by rw [HSK.out]; simp, by rw [HT2.out], by simp, by omega, hid ((HC2.out.kept (below_drewN wr nq)).is (by rw [HSK.out]; simp))⟩, by simp [numAt]; omega⟩
        · have k2 : ¬ (k : Int) < (t.ss.length : Int) := by omega
          have HE : Hid (t.ss.take k = t.ss) := hid (List.take_of_length_le (by omega))
          have HLK : Hid ((C0 ++ (t.ss.take k).flatMap (sd1 s.name ⟨xn, xu⟩)).length ≤ 4000000) := hid (by have := HE2.out ⟨xn, xu⟩ k; have := HLN.out; rw [List.length_append]; omega)
          rw [HE.out] at HC2 HLK ⊢
          rw [← List.append_assoc] at HST2
          clear HE
          generalize C0 ++ t.ss.flatMap (sd1 s.name ⟨xn, xu⟩) = LL at *
          have HFU : Hid (∀ (L' : List CH) (a' : Option Addr) (c' : Nat) (W' : World), OcF w0 W1 a' c' L' W' → OcF w0 U a' c' L' W') := hid fun L' a' c' W' h => ⟨h.o, HF1.out.trans h.f, h.z⟩
          generalize sdH xu t.ss = hh at *
          cases hh with
          | true =>
            rw [if_pos rfl] at HST2
            go_wp2
            exact ⟨⟨i + 1, va, vc, by rw [HST2.out]; simp, by simp, by omega, hid ((HFU.out _ _ _ _ HC2.out).is (by rw [HST2.out]; simp))⟩, by simp [numAt]; omega⟩
          | false =>
            rw [if_neg (by simp)] at HST2
            obtain ⟨a1, c1, X1, R1, O1⟩ := HC2.out.app HLK.out ⟨4, 3, s.name, xu⟩
            go_wp2_with (first | (at_builtin; refine wpList_append_ran rfl _ _ 31 31 rfl rfl _ _ (.slice a1 (LL.length + 1) c1) X1 rfl rfl R1.out ?_))
            exact ⟨⟨i + 1, a1, c1, by rw [HST2.out]; simp, by simp, by omega, hid ((HFU.out _ _ _ _ O1.out).is HST2.out.symm)⟩, by simp [numAt]; omega⟩
    · have k1 : ¬ (i : Int) < (s.ss.length : Int) := by omega
      have HE : Hid (s.ss.take i = s.ss) := hid (List.take_of_length_le (by omega))
      have HLN : Hid ((cs ++ (s.ss.take i).flatMap (sdL s.name t.ss)).length ≤ 2100000) := hid (by have := HE1.out i; rw [List.length_append]; omega)
      rw [HE.out] at HC HLN ⊢
      clear HE
      generalize hC0 : cs ++ s.ss.flatMap (sdL s.name t.ss) = C0 at *
      replace hC0 := hid hC0
      go_wp2
      generalize wr = W5 at *
      go_loopw [0, 11] (fun v r wq => ∃ (k : Nat) (va : Option Addr) (vc : Nat), v = .slice va (C0 ++ (t.ss.take k).flatMap (sd2 s.name s.ss)).length vc ∧ r = .int .i64 k ∧ k ≤ t.ss.length ∧ Hid (OcF w0 U va vc (C0 ++ (t.ss.take k).flatMap (sd2 s.name s.ss)) wq)) (fun _ r wq => t.ss.length - numAt wq r)
      case atStart => exact ⟨0, va, vc, by simp, rfl, by omega, hid (HC.out.is (by simp))⟩
      case round =>
        clear HC HF x1 z1 x2 z2
        obtain ⟨k, va, vc, rfl, rfl, hk, HC⟩ := hrel
        have HF := hid HC.out.f
        have x1 := (HBX.out.rcf HF.out (by decide)).cellF
        have z1 := (HBX.out.rcf HF.out (by decide)).lt
        have x2 := (HBY.out.rcf HF.out (by decide)).cellF
        have z2 := (HBY.out.rcf HF.out (by decide)).lt
        by_cases hlt2 : k < t.ss.length
        · have k2 : (k : Int) < (t.ss.length : Int) := by omega
          have HRO := hid (H0.out.trans (HF.out.below H0.out.size))
          obtain ⟨b2, o2, rfl, hb2, d0, d1⟩ := rowY (HT.out.kept HRO.out) hlt2
          have HSK : Hid (C0 ++ (t.ss.take (k + 1)).flatMap (sd2 s.name s.ss) = (C0 ++ (t.ss.take k).flatMap (sd2 s.name s.ss)) ++ (if sdH t.ss[k].num s.ss = true then [] else [⟨3, 4, s.name, t.ss[k].num⟩])) := hid (by rw [flat_snoc _ _ _ hlt2, List.append_assoc]; rfl)
          have HLK : Hid ((C0 ++ (t.ss.take k).flatMap (sd2 s.name s.ss)).length ≤ 4000000) := hid (by have := HE3.out k; have := HLN.out; rw [List.length_append]; omega)
          generalize t.ss[k] = y at *
          generalize C0 ++ (t.ss.take k).flatMap (sd2 s.name s.ss) = LL at *
          obtain ⟨yn, yu⟩ := y
          dsimp only at d0 d1 HSK
          go_wp2
          generalize wr = W6 at *
          go_loopw [12, 13] (fun h r wq => ∃ (i : Nat), h = .bool (sdH yu (s.ss.take i)) ∧ r = .int .i64 i ∧ i ≤ s.ss.length ∧ Hid (Below W6.heap.size W6 wq)) (fun _ r wq => s.ss.length - numAt wq r)
          case atStart => exact ⟨0, rfl, rfl, by omega, hid (Below.refl _ _)⟩
          case round =>
            clear x1 z1 x2 z2 hb2
            obtain ⟨i, rfl, rfl, hi, hbq⟩ := hrel
            replace HC := hid (HC.out.kept hbq.out)
            replace HF := hid HC.out.f
            replace HRO := hid (H0.out.trans (HF.out.below H0.out.size))
            replace d0 := cell_below d0 hbq.out
            replace d1 := cell_below d1 hbq.out
            have hb2 := World.block_lt_of_cell? _ _ d0
            have x1 := (HBX.out.rcf HF.out (by decide)).cellF
            have z1 := (HBX.out.rcf HF.out (by decide)).lt
            have x2 := (HBY.out.rcf HF.out (by decide)).cellF
            have z2 := (HBY.out.rcf HF.out (by decide)).lt
            by_cases hlt : i < s.ss.length
            · have k1 : (i : Int) < (s.ss.length : Int) := by omega
              obtain ⟨b1, o1, rfl, hb1, c0, c1⟩ := rowY (HS.out.kept HRO.out) hlt
              have HSH := hid (sdH_snoc yu s.ss i hlt)
              generalize s.ss[i] = x at *
              generalize sdH yu (s.ss.take i) = hh at *
              cases hh with
              | true =>
                go_wp2
                go_quiet (fail)
                go_wp2
                exact ⟨⟨i + 1, by rw [HSH.out]; rfl, by simp, by omega, hid (bl_drewN hbq.out nq)⟩, by simp [numAt]; omega⟩
              | false =>
                go_wp2
                go_quiet (fail)
                go_wp2
                exact ⟨⟨i + 1, by rw [HSH.out]; simp, by simp, by omega, hid (bl_drewN hbq.out nq)⟩, by simp [numAt]; omega⟩
            · have k1 : ¬ (i : Int) < (s.ss.length : Int) := by omega
              have HE : Hid (s.ss.take i = s.ss) := hid (List.take_of_length_le (by omega))
              rw [HE.out]
              clear HE
              generalize sdH yu s.ss = hh at *
              cases hh with
              | true =>
                rw [if_pos rfl] at HSK
                go_wp2
                exact ⟨⟨k + 1, va, vc, by rw [HSK.out]; simp, by simp, by omega, hid (HC.out.is (by rw [HSK.out]; simp))⟩, by simp [numAt]; omega⟩
              | false =>
                rw [if_neg (by simp)] at HSK
                obtain ⟨a1, c1, X1, R1, O1⟩ := (HC.out.kept (below_drew1 wr)).app HLK.out ⟨3, 4, s.name, yu⟩
                go_wp2
                go_region_law (first | (refine step_append18 rfl _ _ 31 31 rfl rfl _ _ (.slice a1 (LL.length + 1) c1) X1 rfl rfl R1.out ?_))
                all_goals go_wp2
                all_goals exact ⟨⟨k + 1, a1, c1, by rw [HSK.out]; simp, by simp, by omega, hid (O1.out.is HSK.out.symm)⟩, by simp [numAt]; omega⟩
        · have k2 : ¬ (k : Int) < (t.ss.length : Int) := by omega
          have HE : Hid (t.ss.take k = t.ss) := hid (List.take_of_length_le (by omega))
          rw [HE.out] at HC ⊢
          clear HE
          generalize hLL : C0 ++ t.ss.flatMap (sd2 s.name s.ss) = LL at *
          replace hLL := hid hLL
          go_wp2
          go_ret
          have HTOT : cs ++ (s.ss.flatMap (sdL s.name t.ss) ++ t.ss.flatMap (sd2 s.name s.ss)) = LL := by rw [← List.append_assoc, hC0.out, hLL.out]
          clear hLL
          subst HTOT
          exact ⟨va, vc, by simp, HC.out.o, (RcF.ofBelow HL.out).trans HC.out.f, HC.out.z⟩
end Go.Proofs.YtmjgonckadcbkaaGreatDoor
