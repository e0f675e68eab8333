/-
  Is a type the other one, but for fresh fields?
  'plain' says what at most additive means.
  The layer is awake.
  A name's names (the document's).
-/
import Derived.Test.YtmfaakimhgkedaaGreatDoorCEV15
import Derived.Test.YtmfaakimhgkedaaGreatDoorCEV11
import Derived.Test.YtmfaakimhgkedaaGreatDoorCTP
namespace Go.Proofs.YtmfaakimhgkedaaGreatDoor
open Go.RowKit
set_option maxRecDepth 1000000
set_option linter.unusedVariables false
set_option linter.unusedSimpArgs false
set_option maxHeartbeats 2000000
/-- What 'plain' asks. -/
def PlP (a b : List TV) (s t : TT) : Prop := s.enum = t.enum ∧ s.ss.length = t.ss.length ∧ (∀ x ∈ s.ss, x ∈ t.ss) ∧ MbE a b s t ∧ numB s.rs t.rs = true ∧ numB t.rs s.rs = true
/-- What it must know of the two types. -/
structure PlK (a b : List TV) (s t : TT) : Prop where
  ok1 : ∀ f ∈ s.fs, FdOk a s f
  ok2 : ∀ f ∈ t.fs, FdOk b t f
  kd : ∀ f ∈ s.fs, f.kind ≤ 17
  ri1 : Rise s.fs
  ri2 : Rise t.fs
  rg1 : ∀ x ∈ s.rs, RgOk x
  rg2 : ∀ x ∈ t.rs, RgOk x
  s1 : ∀ x ∈ s.ss, TxA x.name
  s2 : ∀ x ∈ t.ss, TxA x.name
  f1 : ∀ x ∈ s.fs, TxA x.name
  f2 : ∀ x ∈ t.fs, TxA x.name
  o1 : ∀ x ∈ s.os, TxA x
  o2 : ∀ x ∈ t.os, TxA x
  n1 : ∀ x ∈ a, TxA x.t.name
  n2 : ∀ x ∈ b, TxA x.t.name
/-- Where the search for a field's number stands. -/
def AtI (s t : TT) (i at' : Nat) : Prop := at' ≤ t.fs.length ∧ ∀ j (hj : j < t.fs.length), j < at' → ∀ k (hk : k < s.fs.length), i ≤ k → t.fs[j].num < s.fs[k].num
theorem at_find {fs : List FT} {n : Int} (hr : Rise fs) {at' : Nat} (ha : at' ≤ fs.length) (h : ∀ j (hj : j < fs.length), j < at' → fs[j].num < n) : (at' = fs.length → fs.find? (fdI n) = none) ∧ ∀ (hl : at' < fs.length), ¬ fs[at'].num < n → fs.find? (fdI n) = if fs[at'].num = n then some fs[at'] else none := by
  constructor
  · intro e
    rw [List.find?_eq_none]
    intro x hx
    obtain ⟨j, hj, rfl⟩ := List.getElem_of_mem hx
    have := h j hj (by omega)
    unfold fdI
    simp
    omega
  · intro hl hn
    split
    · rename_i e
      rw [List.find?_eq_some_iff_getElem]
      refine ⟨by unfold fdI; simp [e], at', hl, rfl, fun j hj => ?_⟩
      have := h j (by omega) hj
      unfold fdI
      simp
      omega
    · rename_i e
      rw [List.find?_eq_none]
      intro x hx
      obtain ⟨j, hj, rfl⟩ := List.getElem_of_mem hx
      unfold fdI
      simp
      rcases Nat.lt_trichotomy j at' with q | q | q
      · have := h j hj q; omega
      · subst q; exact e
      · have := hr at' j q hj hl; omega
theorem refN_at {l : List TV} {f : FT} (h : f.kind = 16 ∨ f.kind = 17) {k : Nat} (hk : k < l.length) (e : f.ref = k) : refN l f = l[k].t.name := by
  unfold refN
  rw [if_pos h, e]
  simp [hk]
theorem refN_no {l : List TV} {f : FT} (h : ¬ (f.kind = 16 ∨ f.kind = 17)) : refN l f = [] := by unfold refN; rw [if_neg h]
theorem oneN_at {t : TT} {f : FT} (h : f.lab = 4) {k : Nat} (hk : k < t.os.length) (e : f.one = k) : oneN t f = t.os[k] := by
  unfold oneN
  rw [if_pos h, e]
  simp [hk]
theorem oneN_no {t : TT} {f : FT} (h : ¬ f.lab = 4) : oneN t f = [] := by unfold oneN; rw [if_neg h]
theorem rowN {w : World} {l : List (List Int)} {a : Option Addr} {n c : Nat} (h : RowS w AnyZ 1 (.slice a n c) l.length (l.flatMap cN)) {j : Nat} (hj : j < l.length) : ∃ b o, a = some ⟨b, o, none⟩ ∧ b < w.heap.size ∧ w.cell? ⟨b, o + j, none⟩ = some (.string (strOfNums l[j])) := by
  obtain ⟨b, o, e, hc⟩ := rowAt (g := cN) (K := 1) (fun _ => rfl) h (i := j) (x := l[j]) (by simp [hj])
  have := hc 0 _ rfl
  rw [Nat.mul_one, Nat.add_zero] at this
  exact ⟨b, o, e, World.block_lt_of_cell? _ _ this, this⟩
theorem plainT18 (w : World) (a b : List TV) (ta tb : Option Addr) (tc td : Nat) (ha : RowS w AnyZ 6 (.slice ta a.length tc) a.length (a.flatMap cTV)) (hb : RowS w AnyZ 6 (.slice tb b.length td) b.length (b.flatMap cTV)) (s t : TT) (fa oa sa ra fb ob sb rb : Option Addr) (fc oc sc rc fd od sd rd : Nat) (hs : TyR w ⟨s, .slice fa s.fs.length fc, .slice oa s.os.length oc, .slice sa s.ss.length sc, .slice ra s.rs.length rc⟩) (ht : TyR w ⟨t, .slice fb t.fs.length fd, .slice ob t.os.length od, .slice sb t.ss.length sd, .slice rb t.rs.length rd⟩) (hk : PlK a b s t) : Calls Tryz.prog 17 #[.agg #[.slice ta a.length tc], .agg #[.slice tb b.length td], aTY s fa oa sa ra fc oc sc rc, aTY t fb ob sb rb fd od sd rd] w (EvE w (PlP a b s t)) := by
  have HA := hid ha
  have HB := hid hb
  have HS := hid hs
  have HT := hid ht
  have HK := hid hk
  obtain ⟨_, _, e, m1⟩ := rowS_sl hs.f
  clear e
  obtain ⟨_, _, e, m2⟩ := rowS_sl ht.f
  clear e
  obtain ⟨_, _, e, m3⟩ := rowS_sl hs.s
  clear e
  obtain ⟨_, _, e, m4⟩ := rowS_sl ht.s
  clear e
  dsimp only at m1 m2 m3 m4
  have n1 : (s.fs.length : Int) ≤ 9223372036854775807 := by omega
  have n2 : (t.fs.length : Int) ≤ 9223372036854775807 := by omega
  have n3 : (s.ss.length : Int) ≤ 9223372036854775807 := by omega
  have n4 : (t.ss.length : Int) ≤ 9223372036854775807 := by omega
  clear ha hb hs ht hk m1 m2 m3 m4
  unfold aTY
  go_enter Tryz.func17, Tryz.ntmps17
  have BA : Blk ((((w.alloc (.cells #[.slice ta a.length tc] 24)).alloc (.cells #[.slice tb b.length td] 24)).alloc (.cells #[.string (strOfNums s.name), .bool s.enum, .slice fa s.fs.length fc, .slice oa s.os.length oc, .slice sa s.ss.length sc, .slice ra s.rs.length rc] 50)).alloc (.cells #[.string (strOfNums t.name), .bool t.enum, .slice fb t.fs.length fd, .slice ob t.os.length od, .slice sb t.ss.length sd, .slice rb t.rs.length rd] 50)) w.heap.size 24 #[.slice ta a.length tc] := (((Blk.new _ _ _).kept (below_alloc _)).kept (below_alloc _)).kept (below_alloc _)
  have BB : Blk ((((w.alloc (.cells #[.slice ta a.length tc] 24)).alloc (.cells #[.slice tb b.length td] 24)).alloc (.cells #[.string (strOfNums s.name), .bool s.enum, .slice fa s.fs.length fc, .slice oa s.os.length oc, .slice sa s.ss.length sc, .slice ra s.rs.length rc] 50)).alloc (.cells #[.string (strOfNums t.name), .bool t.enum, .slice fb t.fs.length fd, .slice ob t.os.length od, .slice sb t.ss.length sd, .slice rb t.rs.length rd] 50)) (w.heap.size + 1) 24 #[.slice tb b.length td] := ((Blk.newAt (by simp)).kept (below_alloc _)).kept (below_alloc _)
  have BX : Blk ((((w.alloc (.cells #[.slice ta a.length tc] 24)).alloc (.cells #[.slice tb b.length td] 24)).alloc (.cells #[.string (strOfNums s.name), .bool s.enum, .slice fa s.fs.length fc, .slice oa s.os.length oc, .slice sa s.ss.length sc, .slice ra s.rs.length rc] 50)).alloc (.cells #[.string (strOfNums t.name), .bool t.enum, .slice fb t.fs.length fd, .slice ob t.os.length od, .slice sb t.ss.length sd, .slice rb t.rs.length rd] 50)) (w.heap.size + 1 + 1) 50 #[.string (strOfNums s.name), .bool s.enum, .slice fa s.fs.length fc, .slice oa s.os.length oc, .slice sa s.ss.length sc, .slice ra s.rs.length rc] := (Blk.newAt (by simp)).kept (below_alloc _)
  have BY : Blk ((((w.alloc (.cells #[.slice ta a.length tc] 24)).alloc (.cells #[.slice tb b.length td] 24)).alloc (.cells #[.string (strOfNums s.name), .bool s.enum, .slice fa s.fs.length fc, .slice oa s.os.length oc, .slice sa s.ss.length sc, .slice ra s.rs.length rc] 50)).alloc (.cells #[.string (strOfNums t.name), .bool t.enum, .slice fb t.fs.length fd, .slice ob t.os.length od, .slice sb t.ss.length sd, .slice rb t.rs.length rd] 50)) (w.heap.size + 1 + 1 + 1) 50 #[.string (strOfNums t.name), .bool t.enum, .slice fb t.fs.length fd, .slice ob t.os.length od, .slice sb t.ss.length sd, .slice rb t.rs.length rd] := Blk.newAt (by simp)
  have HL : Hid (Below w.heap.size w ((((w.alloc (.cells #[.slice ta a.length tc] 24)).alloc (.cells #[.slice tb b.length td] 24)).alloc (.cells #[.string (strOfNums s.name), .bool s.enum, .slice fa s.fs.length fc, .slice oa s.os.length oc, .slice sa s.ss.length sc, .slice ra s.rs.length rc] 50)).alloc (.cells #[.string (strOfNums t.name), .bool t.enum, .slice fb t.fs.length fd, .slice ob t.os.length od, .slice sb t.ss.length sd, .slice rb t.rs.length rd] 50))) := hid (by exact blBy)
  go_upto_region 1 with fail
  generalize ((((w.alloc (.cells #[.slice ta a.length tc] 24)).alloc (.cells #[.slice tb b.length td] 24)).alloc (.cells #[.string (strOfNums s.name), .bool s.enum, .slice fa s.fs.length fc, .slice oa s.os.length oc, .slice sa s.ss.length sc, .slice ra s.rs.length rc] 50)).alloc (.cells #[.string (strOfNums t.name), .bool t.enum, .slice fb t.fs.length fd, .slice ob t.os.length od, .slice sb t.ss.length sd, .slice rb t.rs.length rd] 50)) = U at *
  have HBA := hid BA
  have HBB := hid BB
  have HBX := hid BX
  have HBY := hid BY
  clear BA BB BX BY
  have hb : Hid (Below U.heap.size U U) := hid (Below.refl _ _)
  have x1 := (HBA.out.kept hb.out).cellF
  have z1 := (HBA.out.kept hb.out).lt
  have x2 := (HBB.out.kept hb.out).cellF
  have z2 := (HBB.out.kept hb.out).lt
  have x3 := (HBX.out.kept hb.out).cellF
  have z3 := (HBX.out.kept hb.out).lt
  have x4 := (HBY.out.kept hb.out).cellF
  have z4 := (HBY.out.kept hb.out).lt
  by_cases he : s.enum = t.enum
  case neg =>
    have HNO : Hid (¬ PlP a b s t) := hid fun h => he h.1
    have q1 : (s.enum == t.enum) = false := by simpa using he
    clear he
    go_wp2
    go_ret
    exact EvE.no HNO.out (below_trans HL.out (by have := hb.out; first | exact this | exact bl_drewN this _ | exact blBy))
  case pos =>
  have q1 : (s.enum == t.enum) = true := by simp [he]
  by_cases hl : s.ss.length = t.ss.length
  case neg =>
    have HNO : Hid (¬ PlP a b s t) := hid fun h => hl h.2.1
    have q2 : ((s.ss.length : Int) != (t.ss.length : Int)) = true := by simp; omega
    clear he hl
    go_wp2
    go_ret
    exact EvE.no HNO.out (below_trans HL.out (by have := hb.out; first | exact this | exact bl_drewN this _ | exact blBy))
  case pos =>
  have q2 : ((s.ss.length : Int) != (t.ss.length : Int)) = false := by simp; omega
  have HE1 : Hid (s.enum = t.enum) := hid he
  have HE2 : Hid (s.ss.length = t.ss.length) := hid hl
  clear he hl
  go_wp2
  go_loopw [9] (fun r wr => ∃ i : Nat, r = .int .i64 i ∧ i ≤ s.ss.length ∧ Hid (∀ x ∈ s.ss.take i, x ∈ t.ss) ∧ Hid (Below U.heap.size U wr)) (fun r wr => s.ss.length - numAt wr r)
  case atStart => exact ⟨0, rfl, by omega, hid (by simp), hid (Below.refl _ _)⟩
  case round =>
    clear x1 x2 x3 x4 z1 z2 z3 z4 hb
    obtain ⟨i, rfl, hi, HM, hb⟩ := hrel
    have x1 := (HBA.out.kept hb.out).cellF
    have z1 := (HBA.out.kept hb.out).lt
    have x2 := (HBB.out.kept hb.out).cellF
    have z2 := (HBB.out.kept hb.out).lt
    have x3 := (HBX.out.kept hb.out).cellF
    have z3 := (HBX.out.kept hb.out).lt
    have x4 := (HBY.out.kept hb.out).cellF
    have z4 := (HBY.out.kept hb.out).lt
    by_cases hlt : i < s.ss.length
    · have k1 : (i : Int) < (s.ss.length : Int) := by omega
      have HXI : Hid (∀ x, x ∈ s.ss.take (i + 1) ↔ x ∈ s.ss.take i ∨ x = s.ss[i]) := hid fun x => by rw [List.take_succ_eq_append_getElem hlt, List.mem_append, List.mem_singleton]
      have HIN := hid (List.getElem_mem hlt)
      have HTX := hid (HK.out.s1 _ (List.getElem_mem hlt))
      go_wp2
      generalize wr = W1 at *
      go_loopw [10, 11] (fun v r wq => ∃ k : Nat, v = .bool ((t.ss.take k).any (syB s.ss[i])) ∧ r = .int .i64 k ∧ k ≤ t.ss.length ∧ Hid (Below U.heap.size U wq)) (fun _ r wq => t.ss.length - numAt wq r)
      case atStart => exact ⟨0, rfl, rfl, by omega, hb⟩
      case round =>
        clear x1 x2 x3 x4 z1 z2 z3 z4 hb
        obtain ⟨k, rfl, rfl, hk, hb⟩ := hrel
        have x1 := (HBA.out.kept hb.out).cellF
        have z1 := (HBA.out.kept hb.out).lt
        have x2 := (HBB.out.kept hb.out).cellF
        have z2 := (HBB.out.kept hb.out).lt
        have x3 := (HBX.out.kept hb.out).cellF
        have z3 := (HBX.out.kept hb.out).lt
        have x4 := (HBY.out.kept hb.out).cellF
        have z4 := (HBY.out.kept hb.out).lt
        by_cases hlt2 : k < t.ss.length
        · have k2 : (k : Int) < (t.ss.length : Int) := by omega
          obtain ⟨b1, o1, rfl, hb1, c0, c1⟩ := rowY ((HS.out.s.kept HL.out).kept hb.out) hlt
          obtain ⟨b2, o2, rfl, hb2, d0, d1⟩ := rowY ((HT.out.s.kept HL.out).kept hb.out) hlt2
          have HST : Hid ((t.ss.take (k + 1)).any (syB s.ss[i]) = ((t.ss.take k).any (syB s.ss[i]) || syB s.ss[i] t.ss[k])) := hid (by rw [List.take_succ_eq_append_getElem hlt2, List.any_append]; simp)
          have HTY := hid (HK.out.s2 _ (List.getElem_mem hlt2))
          have hgd := gdSY
          have heq := fun W => eqSY s.ss[i] t.ss[k] HTX.out HTY.out W
          clear HXI HIN
          generalize s.ss[i] = x at *
          generalize t.ss[k] = y at *
          generalize (t.ss.take k).any (syB x) = ha at *
          cases ha with
          | true =>
            go_wp2
            go_quiet (fail)
            go_wp2
            exact ⟨⟨k + 1, by rw [HST.out]; rfl, by simp, by omega, hid (by have := hb.out; first | exact this | exact bl_drewN this _ | exact blBy)⟩, by simp [numAt]; omega⟩
          | false =>
            generalize syB x y = sy at *
            go_wp2
            go_quiet (fail)
            go_wp2
            exact ⟨⟨k + 1, by rw [HST.out]; rfl, by simp, by omega, hid (by have := hb.out; first | exact this | exact bl_drewN this _ | exact blBy)⟩, by simp [numAt]; omega⟩
        · have k2 : ¬ (k : Int) < (t.ss.length : Int) := by omega
          have HE : Hid (t.ss.take k = t.ss) := hid (List.take_of_length_le (by omega))
          rw [HE.out]
          cases q : t.ss.any (syB s.ss[i]) with
          | false =>
            have HNO : Hid (¬ PlP a b s t) := hid fun h => by
              rw [List.any_eq_false] at q
              exact q _ (h.2.2.1 _ HIN.out) ((syB_iff _ _).2 rfl)
            clear HE q
            go_wp2
            go_ret
            exact EvE.no HNO.out (below_trans HL.out (by have := hb.out; first | exact this | exact bl_drewN this _ | exact blBy))
          | true =>
            have HM2 : Hid (∀ x ∈ s.ss.take (i + 1), x ∈ t.ss) := hid fun x hx => by
              rcases (HXI.out x).1 hx with h | h
              · exact HM.out x h
              · rw [List.any_eq_true] at q
                obtain ⟨y, hy, e⟩ := q
                rw [h, (syB_iff _ _).1 e]
                exact hy
            clear HE q HM
            go_wp2
            exact ⟨⟨i + 1, by simp, by omega, HM2, hb⟩, by simp [numAt]; omega⟩
    · have k1 : ¬ (i : Int) < (s.ss.length : Int) := by omega
      have HSY : Hid (∀ x ∈ s.ss, x ∈ t.ss) := hid (by have := HM.out; rwa [List.take_of_length_le (by omega)] at this)
      clear HM k1 hi
      go_wp2
      generalize wr = W5 at *
      go_loopw [12, 13] (fun v r wq => ∃ (i at' : Nat), v = .int .i64 at' ∧ r = .int .i64 i ∧ i ≤ s.fs.length ∧ Hid (AtI s t i at') ∧ Hid (∀ f ∈ s.fs.take i, ∃ g, t.fs.find? (fdI f.num) = some g ∧ FdE a b s t f g) ∧ Hid (Below U.heap.size U wq)) (fun _ r wq => s.fs.length - numAt wq r)
      case atStart => exact ⟨0, 0, rfl, rfl, by omega, hid ⟨by omega, fun j hj h => by omega⟩, hid (by simp), hb⟩
      case round =>
        clear x1 x2 x3 x4 z1 z2 z3 z4 hb
        obtain ⟨i, at', rfl, rfl, hi, HAT, HM, hb⟩ := hrel
        have x1 := (HBA.out.kept hb.out).cellF
        have z1 := (HBA.out.kept hb.out).lt
        have x2 := (HBB.out.kept hb.out).cellF
        have z2 := (HBB.out.kept hb.out).lt
        have x3 := (HBX.out.kept hb.out).cellF
        have z3 := (HBX.out.kept hb.out).lt
        have x4 := (HBY.out.kept hb.out).cellF
        have z4 := (HBY.out.kept hb.out).lt
        by_cases hlt : i < s.fs.length
        · have k1 : (i : Int) < (s.fs.length : Int) := by omega
          have HXI : Hid (∀ x, x ∈ s.fs.take (i + 1) ↔ x ∈ s.fs.take i ∨ x = s.fs[i]) := hid fun x => by rw [List.take_succ_eq_append_getElem hlt, List.mem_append, List.mem_singleton]
          have HIN := hid (List.getElem_mem hlt)
          have HAJ : Hid (at' ≤ t.fs.length ∧ ∀ j (hj : j < t.fs.length), j < at' → t.fs[j].num < s.fs[i].num) := hid ⟨HAT.out.1, fun j hj h => HAT.out.2 j hj h i hlt (Nat.le_refl _)⟩
          clear HAT
          go_wp2
          generalize wr = W6 at *
          go_loopw [12] (fun v wq => ∃ (at' : Nat), v = .int .i64 at' ∧ Hid (at' ≤ t.fs.length ∧ ∀ j (hj : j < t.fs.length), j < at' → t.fs[j].num < s.fs[i].num) ∧ Hid (Below U.heap.size U wq)) (fun v wq => t.fs.length - numAt wq v)
          case atStart => exact ⟨at', rfl, HAJ, hb⟩
          case round =>
            clear x1 x2 x3 x4 z1 z2 z3 z4 hb HAJ
            obtain ⟨ak, rfl, HAJ, hb⟩ := hrel
            have x1 := (HBA.out.kept hb.out).cellF
            have z1 := (HBA.out.kept hb.out).lt
            have x2 := (HBB.out.kept hb.out).cellF
            have z2 := (HBB.out.kept hb.out).lt
            have x3 := (HBX.out.kept hb.out).cellF
            have z3 := (HBX.out.kept hb.out).lt
            have x4 := (HBY.out.kept hb.out).cellF
            have z4 := (HBY.out.kept hb.out).lt
            have hle := HAJ.out.1
            have HFI := hid (at_find (n := s.fs[i].num) HK.out.ri2 HAJ.out.1 HAJ.out.2)
            obtain ⟨b1, o1, rfl, hb1, c0, c1, c2, c3, c4, c5, c6⟩ := row7 ((HS.out.f.kept HL.out).kept hb.out) hlt
            by_cases hl2 : ak < t.fs.length
            · have k2 : (ak : Int) < (t.fs.length : Int) := by omega
              obtain ⟨b2, o2, rfl, hb2, d0, d1, d2, d3, d4, d5, d6⟩ := row7 ((HT.out.f.kept HL.out).kept hb.out) hl2
              by_cases hn : t.fs[ak].num < s.fs[i].num
              · have HAJ2 : Hid (ak + 1 ≤ t.fs.length ∧ ∀ j (hj : j < t.fs.length), j < ak + 1 → t.fs[j].num < s.fs[i].num) := hid ⟨by omega, fun j hj h => by
                  by_cases e : j = ak
                  · subst e; exact hn
                  · exact HAJ.out.2 j hj (by omega)⟩
                clear c0 c2 c3 c4 c5 c6 d0 d2 d3 d4 d5 d6 HFI HAJ
                have t1 : (t.fs[ak].num < s.fs[i].num) = True := eq_true hn
                generalize t.fs[ak].num = u1 at *
                generalize s.fs[i].num = u2 at *
                clear hn
                go_wp2
                go_quiet (fail)
                go_wp2
                exact ⟨⟨ak + 1, by simp, HAJ2, hid (by have := hb.out; first | exact this | exact bl_drewN this _ | exact blBy)⟩, by simp [numAt]; omega⟩
              · have t1 : (t.fs[ak].num < s.fs[i].num) = False := eq_false hn
                have HAT2 : Hid (AtI s t (i + 1) ak) := hid ⟨hle, fun j hj h k hk hik => by
                  have h1 := HAJ.out.2 j hj h
                  have h2 := HK.out.ri1 i k (by omega) hk hlt
                  omega⟩
                have HFF := hid (HFI.out.2 hl2 hn)
                have HO1 := hid (HK.out.ok1 _ (List.getElem_mem hlt))
                have HO2 := hid (HK.out.ok2 _ (List.getElem_mem hl2))
                have HKD := hid (HK.out.kd _ (List.getElem_mem hlt))
                have s1 := str_eq (HK.out.f1 _ (List.getElem_mem hlt)).1 (HK.out.f2 _ (List.getElem_mem hl2)).1
                have k3 : ((ak : Int) == (t.fs.length : Int)) = false := by rw [beq_eq_false_iff_ne]; omega
                clear HFI HAJ hn
                generalize s.fs[i] = f at *
                generalize t.fs[ak] = g at *
                have HNE : Hid (¬ (g.num = f.num ∧ FdE a b s t f g) → ¬ PlP a b s t) := hid fun hn h => by
                  obtain ⟨g', hg, hf⟩ := h.2.2.2.1 _ HIN.out
                  rw [HFF.out] at hg
                  split at hg
                  · rename_i e
                    cases hg
                    exact hn ⟨e, hf⟩
                  · cases hg
                have HYE : Hid (g.num = f.num → FdE a b s t f g → ∀ x ∈ s.fs.take (i + 1), ∃ g, t.fs.find? (fdI x.num) = some g ∧ FdE a b s t x g) := hid fun e hf x hx => by
                  rcases (HXI.out x).1 hx with h | h
                  · exact HM.out x h
                  · subst h
                    exact ⟨g, by rw [HFF.out, if_pos e], hf⟩
                clear HFF HXI HIN HM
                unfold FdE at HNE HYE
                obtain ⟨fn, fu, fk, fr, fl, fo, fy⟩ := f
                obtain ⟨gn, gu, gk, gr, gl, go, gy⟩ := g
                dsimp only at c0 c1 c2 c3 c4 c5 c6 d0 d1 d2 d3 d4 d5 d6 t1 s1 HO1 HO2 HKD HNE HYE
                go_wp2
                go_quiet (fail)
                replace c0 := cell_below c0 (below_drewN wr nq)
                replace c1 := cell_below c1 (below_drewN wr nq)
                replace c2 := cell_below c2 (below_drewN wr nq)
                replace c3 := cell_below c3 (below_drewN wr nq)
                replace c4 := cell_below c4 (below_drewN wr nq)
                replace c5 := cell_below c5 (below_drewN wr nq)
                replace c6 := cell_below c6 (below_drewN wr nq)
                replace d0 := cell_below d0 (below_drewN wr nq)
                replace d1 := cell_below d1 (below_drewN wr nq)
                replace d2 := cell_below d2 (below_drewN wr nq)
                replace d3 := cell_below d3 (below_drewN wr nq)
                replace d4 := cell_below d4 (below_drewN wr nq)
                replace d5 := cell_below d5 (below_drewN wr nq)
                replace d6 := cell_below d6 (below_drewN wr nq)
                replace hb1 := World.block_lt_of_cell? _ _ c0
                replace hb2 := World.block_lt_of_cell? _ _ d0
                replace hb : Hid (Below U.heap.size U (wr.drewN nq)) := hid (bl_drewN hb.out nq)
                clear x1 x2 x3 x4 z1 z2 z3 z4
                have x1 := (HBA.out.kept hb.out).cellF
                have z1 := (HBA.out.kept hb.out).lt
                have x2 := (HBB.out.kept hb.out).cellF
                have z2 := (HBB.out.kept hb.out).lt
                have x3 := (HBX.out.kept hb.out).cellF
                have z3 := (HBX.out.kept hb.out).lt
                have x4 := (HBY.out.kept hb.out).cellF
                have z4 := (HBY.out.kept hb.out).lt
                generalize wr.drewN nq = Wd at *
                by_cases e1 : fu = gu
                case neg =>
                  have HNO := hid (HNE.out (fun h => e1 h.1.symm))
                  have p1 : (fu != gu) = true := by simpa using e1
                  clear HNE HYE
                  go_wp2
                  try (go_quiet (fail); go_wp2)
                  try (go_quiet (fail); go_wp2)
                  try (go_quiet (fail); go_wp2)
                  go_ret
                  exact EvE.no HNO.out (below_trans HL.out (by have := hb.out; first | exact this | exact bl_drewN this _ | exact blBy))
                case pos =>
                have p1 : (fu != gu) = false := by simp [e1]
                by_cases e2 : fn = gn
                case neg =>
                  have HNO := hid (HNE.out (fun h => e2 h.2.1))
                  rw [decide_eq_false e2] at s1
                  clear HNE HYE
                  go_wp2
                  try (go_quiet (fail); go_wp2)
                  try (go_quiet (fail); go_wp2)
                  try (go_quiet (fail); go_wp2)
                  go_ret
                  exact EvE.no HNO.out (below_trans HL.out (by have := hb.out; first | exact this | exact bl_drewN this _ | exact blBy))
                case pos =>
                rw [decide_eq_true e2] at s1
                by_cases e3 : fk = gk
                case neg =>
                  have HNO := hid (HNE.out (fun h => e3 h.2.2.1))
                  have p3 : (fk != gk) = true := by simpa using e3
                  clear HNE HYE
                  go_wp2
                  try (go_quiet (fail); go_wp2)
                  try (go_quiet (fail); go_wp2)
                  try (go_quiet (fail); go_wp2)
                  go_ret
                  exact EvE.no HNO.out (below_trans HL.out (by have := hb.out; first | exact this | exact bl_drewN this _ | exact blBy))
                case pos =>
                have p3 : (fk != gk) = false := by simp [e3]
                by_cases e4 : fl = gl
                case neg =>
                  have HNO := hid (HNE.out (fun h => e4 h.2.2.2.2.1))
                  have p4 : (fl != gl) = true := by simpa using e4
                  clear HNE HYE
                  go_wp2
                  try (go_quiet (fail); go_wp2)
                  try (go_quiet (fail); go_wp2)
                  try (go_quiet (fail); go_wp2)
                  go_ret
                  exact EvE.no HNO.out (below_trans HL.out (by have := hb.out; first | exact this | exact bl_drewN this _ | exact blBy))
                case pos =>
                have p4 : (fl != gl) = false := by simp [e4]
                by_cases e5 : fy = gy
                case neg =>
                  have HNO := hid (HNE.out (fun h => e5 h.2.2.2.2.2.2))
                  have p5 : (fy != gy) = true := by simpa using e5
                  clear HNE HYE
                  go_wp2
                  try (go_quiet (fail); go_wp2)
                  try (go_quiet (fail); go_wp2)
                  try (go_quiet (fail); go_wp2)
                  go_ret
                  exact EvE.no HNO.out (below_trans HL.out (by have := hb.out; first | exact this | exact bl_drewN this _ | exact blBy))
                case pos =>
                have p5 : (fy != gy) = false := by simp [e5]
                subst e1 e2 e3 e4 e5
                have BF : Blk ((Wd.alloc (.cells #[.string (strOfNums fn), .int .i64 fu, .int .i64 fk, .int .i64 fr, .int .i64 fl, .int .i64 fo, .int .i64 fy] 79)).alloc (.cells #[.string (strOfNums fn), .int .i64 fu, .int .i64 fk, .int .i64 gr, .int .i64 fl, .int .i64 go, .int .i64 fy] 79)) Wd.heap.size 79 #[.string (strOfNums fn), .int .i64 fu, .int .i64 fk, .int .i64 fr, .int .i64 fl, .int .i64 fo, .int .i64 fy] := (Blk.new _ _ _).kept (below_alloc _)
                have BG : Blk ((Wd.alloc (.cells #[.string (strOfNums fn), .int .i64 fu, .int .i64 fk, .int .i64 fr, .int .i64 fl, .int .i64 fo, .int .i64 fy] 79)).alloc (.cells #[.string (strOfNums fn), .int .i64 fu, .int .i64 fk, .int .i64 gr, .int .i64 fl, .int .i64 go, .int .i64 fy] 79)) (Wd.heap.size + 1) 79 #[.string (strOfNums fn), .int .i64 fu, .int .i64 fk, .int .i64 gr, .int .i64 fl, .int .i64 go, .int .i64 fy] := Blk.newAt (by simp)
                replace HNE : Hid (¬ (refN a ⟨fn, fu, fk, fr, fl, fo, fy⟩ = refN b ⟨fn, fu, fk, gr, fl, go, fy⟩ ∧ oneN s ⟨fn, fu, fk, fr, fl, fo, fy⟩ = oneN t ⟨fn, fu, fk, gr, fl, go, fy⟩) → ¬ PlP a b s t) := hid fun h => HNE.out (fun q => h ⟨q.2.2.2.1, q.2.2.2.2.2.1⟩)
                replace HYE : Hid (refN a ⟨fn, fu, fk, fr, fl, fo, fy⟩ = refN b ⟨fn, fu, fk, gr, fl, go, fy⟩ → oneN s ⟨fn, fu, fk, fr, fl, fo, fy⟩ = oneN t ⟨fn, fu, fk, gr, fl, go, fy⟩ → ∀ x ∈ s.fs.take (i + 1), ∃ g, t.fs.find? (fdI x.num) = some g ∧ FdE a b s t x g) := hid fun h1 h2 => HYE.out rfl ⟨rfl, rfl, h1, rfl, h2, rfl⟩
                have HW2 : Hid (Below U.heap.size U ((Wd.alloc (.cells #[.string (strOfNums fn), .int .i64 fu, .int .i64 fk, .int .i64 fr, .int .i64 fl, .int .i64 fo, .int .i64 fy] 79)).alloc (.cells #[.string (strOfNums fn), .int .i64 fu, .int .i64 fk, .int .i64 gr, .int .i64 fl, .int .i64 go, .int .i64 fy] 79))) := hid (by have := hb.out; exact blBy)
                go_wp2
                replace hb := HW2
                clear x1 x2 x3 x4 z1 z2 z3 z4
                clear HW2 c0 c1 c2 c3 c4 c5 c6 d0 d1 d2 d3 d4 d5 d6 hb1 hb2
                generalize hpf : Wd.heap.size = pf at *
                generalize ((Wd.alloc (.cells #[.string (strOfNums fn), .int .i64 fu, .int .i64 fk, .int .i64 fr, .int .i64 fl, .int .i64 fo, .int .i64 fy] 79)).alloc (.cells #[.string (strOfNums fn), .int .i64 fu, .int .i64 fk, .int .i64 gr, .int .i64 fl, .int .i64 go, .int .i64 fy] 79)) = We at *
                clear hpf
                have x5 := BF.cellF
                have z5 := BF.lt
                have x6 := BG.cellF
                have z6 := BG.lt
                clear BF BG
                have x1 := (HBA.out.kept hb.out).cellF
                have z1 := (HBA.out.kept hb.out).lt
                have x2 := (HBB.out.kept hb.out).cellF
                have z2 := (HBB.out.kept hb.out).lt
                have x3 := (HBX.out.kept hb.out).cellF
                have z3 := (HBX.out.kept hb.out).lt
                have x4 := (HBY.out.kept hb.out).cellF
                have z4 := (HBY.out.kept hb.out).lt
                by_cases h16 : 16 ≤ fk
                · have t16 : (16 ≤ fk) = True := eq_true h16
                  have hkd : fk = 16 ∨ fk = 17 := by have := HKD.out; omega
                  obtain ⟨ja, eja, hja⟩ := HO1.out.1 hkd
                  obtain ⟨jb, ejb, hjb⟩ := HO2.out.1 hkd
                  dsimp only at eja ejb
                  subst eja ejb
                  have w1 := refN_at (l := a) (f := ⟨fn, fu, fk, (ja : Int), fl, fo, fy⟩) hkd hja rfl
                  have w2 := refN_at (l := b) (f := ⟨fn, fu, fk, (jb : Int), fl, go, fy⟩) hkd hjb rfl
                  obtain ⟨b3, o3, rfl, hb3, m3, -⟩ := row6 ((HA.out.kept HL.out).kept hb.out) hja
                  obtain ⟨b4, o4, rfl, hb4, m4, -⟩ := row6 ((HB.out.kept HL.out).kept hb.out) hjb
                  have s3 := str_eq (HK.out.n1 _ (List.getElem_mem hja)).1 (HK.out.n2 _ (List.getElem_mem hjb)).1
                  have k7 : (ja : Int) < (a.length : Int) := by omega
                  have k8 : (jb : Int) < (b.length : Int) := by omega
                  rw [w1, w2] at HNE HYE
                  clear w1 w2 h16
                  generalize a[ja].t.name = na at *
                  generalize b[jb].t.name = nb at *
                  by_cases hR : na = nb
                  · rw [decide_eq_true hR] at s3
                    by_cases h4 : fl = 4
                    · have l4 : (fl == 4) = true := by simp [h4]
                      obtain ⟨ia, eia, hia⟩ := HO1.out.2 h4
                      obtain ⟨ib, eib, hib⟩ := HO2.out.2 h4
                      dsimp only at eia eib
                      subst eia eib
                      have w3 := oneN_at (t := s) (f := ⟨fn, fu, fk, (ja : Int), fl, (ia : Int), fy⟩) h4 hia rfl
                      have w4 := oneN_at (t := t) (f := ⟨fn, fu, fk, (jb : Int), fl, (ib : Int), fy⟩) h4 hib rfl
                      obtain ⟨b5, o5, rfl, hb5, m5⟩ := rowN ((HS.out.o.kept HL.out).kept hb.out) hia
                      obtain ⟨b6, o6, rfl, hb6, m6⟩ := rowN ((HT.out.o.kept HL.out).kept hb.out) hib
                      have s4 := str_eq (HK.out.o1 _ (List.getElem_mem hia)).1 (HK.out.o2 _ (List.getElem_mem hib)).1
                      have k5 : (ia : Int) < (s.os.length : Int) := by omega
                      have k6 : (ib : Int) < (t.os.length : Int) := by omega
                      rw [w3, w4] at HNE HYE
                      clear w3 w4
                      generalize s.os[ia] = oa1 at *
                      generalize t.os[ib] = ob1 at *
                      by_cases h5 : oa1 = ob1
                      · rw [decide_eq_true h5] at s4
                        have HM2 := hid (HYE.out hR h5)
                        clear HNE HYE
                        go_quiet (fail)
                        go_wp2
                        exact ⟨⟨i + 1, ak, rfl, by simp, by omega, HAT2, HM2, hid (by have := hb.out; first | exact this | exact bl_drewN this _ | exact blBy)⟩, by simp [numAt]; omega⟩
                      · rw [decide_eq_false h5] at s4
                        have HNO := hid (HNE.out (fun h => h5 h.2))
                        clear HNE HYE
                        go_quiet (fail)
                        go_wp2
                        go_ret
                        exact EvE.no HNO.out (below_trans HL.out (by have := hb.out; first | exact this | exact bl_drewN this _ | exact blBy))
                    · have l4 : (fl == 4) = false := by simpa using h4
                      have w3 := oneN_no (t := s) (f := ⟨fn, fu, fk, (ja : Int), fl, fo, fy⟩) h4
                      have w4 := oneN_no (t := t) (f := ⟨fn, fu, fk, (jb : Int), fl, go, fy⟩) h4
                      rw [w3, w4] at HNE HYE
                      clear w3 w4
                      have HM2 := hid (HYE.out hR rfl)
                      clear HNE HYE
                      go_quiet (fail)
                      go_wp2
                      exact ⟨⟨i + 1, ak, rfl, by simp, by omega, HAT2, HM2, hid (by have := hb.out; first | exact this | exact bl_drewN this _ | exact blBy)⟩, by simp [numAt]; omega⟩
                  · rw [decide_eq_false hR] at s3
                    have HNO := hid (HNE.out (fun h => hR h.1))
                    clear HNE HYE
                    go_quiet (fail)
                    go_wp2
                    go_ret
                    exact EvE.no HNO.out (below_trans HL.out (by have := hb.out; first | exact this | exact bl_drewN this _ | exact blBy))
                · have t16 : (16 ≤ fk) = False := eq_false h16
                  have w1 := refN_no (l := a) (f := ⟨fn, fu, fk, fr, fl, fo, fy⟩) (by dsimp only; omega)
                  have w2 := refN_no (l := b) (f := ⟨fn, fu, fk, gr, fl, go, fy⟩) (by dsimp only; omega)
                  rw [w1, w2] at HNE HYE
                  clear w1 w2 h16
                  by_cases h4 : fl = 4
                  · have l4 : (fl == 4) = true := by simp [h4]
                    obtain ⟨ia, eia, hia⟩ := HO1.out.2 h4
                    obtain ⟨ib, eib, hib⟩ := HO2.out.2 h4
                    dsimp only at eia eib
                    subst eia eib
                    have w3 := oneN_at (t := s) (f := ⟨fn, fu, fk, fr, fl, (ia : Int), fy⟩) h4 hia rfl
                    have w4 := oneN_at (t := t) (f := ⟨fn, fu, fk, gr, fl, (ib : Int), fy⟩) h4 hib rfl
                    obtain ⟨b5, o5, rfl, hb5, m5⟩ := rowN ((HS.out.o.kept HL.out).kept hb.out) hia
                    obtain ⟨b6, o6, rfl, hb6, m6⟩ := rowN ((HT.out.o.kept HL.out).kept hb.out) hib
                    have s4 := str_eq (HK.out.o1 _ (List.getElem_mem hia)).1 (HK.out.o2 _ (List.getElem_mem hib)).1
                    have k5 : (ia : Int) < (s.os.length : Int) := by omega
                    have k6 : (ib : Int) < (t.os.length : Int) := by omega
                    rw [w3, w4] at HNE HYE
                    clear w3 w4
                    generalize s.os[ia] = oa1 at *
                    generalize t.os[ib] = ob1 at *
                    by_cases h5 : oa1 = ob1
                    · rw [decide_eq_true h5] at s4
                      have HM2 := hid (HYE.out rfl h5)
                      clear HNE HYE
                      go_quiet (fail)
                      go_wp2
                      exact ⟨⟨i + 1, ak, rfl, by simp, by omega, HAT2, HM2, hid (by have := hb.out; first | exact this | exact bl_drewN this _ | exact blBy)⟩, by simp [numAt]; omega⟩
                    · rw [decide_eq_false h5] at s4
                      have HNO := hid (HNE.out (fun h => h5 h.2))
                      clear HNE HYE
                      go_quiet (fail)
                      go_wp2
                      go_ret
                      exact EvE.no HNO.out (below_trans HL.out (by have := hb.out; first | exact this | exact bl_drewN this _ | exact blBy))
                  · have l4 : (fl == 4) = false := by simpa using h4
                    have w3 := oneN_no (t := s) (f := ⟨fn, fu, fk, fr, fl, fo, fy⟩) h4
                    have w4 := oneN_no (t := t) (f := ⟨fn, fu, fk, gr, fl, go, fy⟩) h4
                    rw [w3, w4] at HNE HYE
                    clear w3 w4
                    have HM2 := hid (HYE.out rfl rfl)
                    clear HNE HYE
                    go_quiet (fail)
                    go_wp2
                    exact ⟨⟨i + 1, ak, rfl, by simp, by omega, HAT2, HM2, hid (by have := hb.out; first | exact this | exact bl_drewN this _ | exact blBy)⟩, by simp [numAt]; omega⟩
            · have k2 : ¬ (ak : Int) < (t.fs.length : Int) := by omega
              have e3 : ak = t.fs.length := by omega
              have HNO : Hid (¬ PlP a b s t) := hid fun h => by
                obtain ⟨g, hg, -⟩ := h.2.2.2.1 _ HIN.out
                rw [HFI.out.1 e3] at hg
                cases hg
              have k3 : ((ak : Int) == (t.fs.length : Int)) = true := by simp; omega
              clear e3 HFI HAJ hle
              go_wp2
              try (go_quiet (fail); go_wp2)
              try (go_quiet (fail); go_wp2)
              go_ret
              exact EvE.no HNO.out (below_trans HL.out (by have := hb.out; first | exact this | exact bl_drewN this _ | exact blBy))
        · have k1 : ¬ (i : Int) < (s.fs.length : Int) := by omega
          have HMB : Hid (MbE a b s t) := hid (by have := HM.out; rw [List.take_of_length_le (by omega)] at this; exact this)
          have HN1 := hid fun W (hW : Below w.heap.size w W) => numbersT18 W s.rs t.rs ra rb rc rd (HS.out.r.kept hW) (HT.out.r.kept hW) HK.out.rg2
          have HN2 := hid fun W (hW : Below w.heap.size w W) => numbersT18 W t.rs s.rs rb ra rd rc (HT.out.r.kept hW) (HS.out.r.kept hW) HK.out.rg1
          have HYES : Hid (numB s.rs t.rs = true → numB t.rs s.rs = true → PlP a b s t) := hid fun h1 h2 => ⟨HE1.out, HE2.out, HSY.out, HMB.out, h1, h2⟩
          have HNO1 : Hid (numB s.rs t.rs = false → ¬ PlP a b s t) := hid fun h1 h => by rw [h.2.2.2.2.1] at h1; cases h1
          have HNO2 : Hid (numB t.rs s.rs = false → ¬ PlP a b s t) := hid fun h1 h => by rw [h.2.2.2.2.2] at h1; cases h1
          clear HM k1 HMB HSY HE1 HE2 HA HB HS HT HK
          generalize numB s.rs t.rs = r1 at *
          generalize numB t.rs s.rs = r2 at *
          go_wp2_with fail
          refine (HN1.out _ (below_trans HL.out hb.out)).mono ?_
          rintro e w7 ⟨rfl, hb7⟩
          cases r1 with
          | false =>
            have HNO : Hid (¬ PlP a b s t) := hid (by have := HNO1.out; simpa using this)
            replace hb := hid (below_trans hb.out hb7)
            clear hb7
            go_wp2
            go_ret
            exact EvE.no HNO.out (below_trans HL.out (by have := hb.out; first | exact this | exact bl_drewN this _ | exact blBy))
          | true =>
            replace hb := hid (below_trans hb.out hb7)
            clear x1 x2 x3 x4 z1 z2 z3 z4 hb7
            have x1 := (HBA.out.kept hb.out).cellF
            have z1 := (HBA.out.kept hb.out).lt
            have x2 := (HBB.out.kept hb.out).cellF
            have z2 := (HBB.out.kept hb.out).lt
            have x3 := (HBX.out.kept hb.out).cellF
            have z3 := (HBX.out.kept hb.out).lt
            have x4 := (HBY.out.kept hb.out).cellF
            have z4 := (HBY.out.kept hb.out).lt
            go_wp2_with fail
            refine (HN2.out _ (below_trans HL.out hb.out)).mono ?_
            rintro e w8 ⟨rfl, hb8⟩
            cases r2 with
            | false =>
              have HNO : Hid (¬ PlP a b s t) := hid (by have := HNO2.out; simpa using this)
              replace hb := hid (below_trans hb.out hb8)
              clear hb8
              go_wp2
              go_ret
              exact EvE.no HNO.out (below_trans HL.out (by have := hb.out; first | exact this | exact bl_drewN this _ | exact blBy))
            | true =>
              have HY : Hid (PlP a b s t) := hid (by have := HYES.out; simpa using this)
              replace hb := hid (below_trans hb.out hb8)
              clear hb8
              go_wp2
              go_ret
              exact EvE.yes HY.out (below_trans HL.out (by have := hb.out; first | exact this | exact bl_drewN this _ | exact blBy))
set_option maxHeartbeats 1000000
theorem pig {α : Type} : ∀ (xs ys : List α), xs.Nodup → (∀ x ∈ xs, x ∈ ys) → xs.length ≤ ys.length
  | [], ys, _, _ => by simp
  | x :: xs, ys, hn, h => by
    obtain ⟨l1, l2, rfl⟩ := List.append_of_mem (h x (by simp))
    rw [List.nodup_cons] at hn
    have := pig xs (l1 ++ l2) hn.2 (fun z hz => by
      have h1 := h z (by simp [hz])
      simp only [List.mem_append, List.mem_cons] at h1 ⊢
      rcases h1 with h1 | h1 | h1
      · exact .inl h1
      · subst h1; exact absurd hz hn.1
      · exact .inr h1)
    simp only [List.length_append, List.length_cons] at this ⊢
    omega
theorem pig_back {α : Type} {xs ys : List α} (hx : xs.Nodup) (h : ∀ x ∈ xs, x ∈ ys) (hl : xs.length = ys.length) : ∀ y ∈ ys, y ∈ xs := by
  intro y hy
  apply Classical.byContradiction
  intro hn
  obtain ⟨l1, l2, rfl⟩ := List.append_of_mem hy
  have := pig xs (l1 ++ l2) hx (fun z hz => by
    have h1 := h z hz
    simp only [List.mem_append, List.mem_cons] at h1 ⊢
    rcases h1 with h1 | h1 | h1
    · exact .inl h1
    · subst h1; exact absurd hz hn
    · exact .inr h1)
  simp only [List.length_append, List.length_cons] at this hl
  omega
theorem nums_nodup {ss : List SY} (h : dfB ((ss.map SY.num).map litI) = true) : ss.Nodup := by
  rw [dfB_iff _ (fun x hx => by obtain ⟨y, _, rfl⟩ := List.mem_map.1 hx; trivial), List.Nodup, List.pairwise_map, List.pairwise_map] at h
  exact h.imp (fun h e => h (by rw [e]))
/-- What a good type has, as far as 'plain' asks. -/
structure TyP (t : TT) : Prop where
  e1 : t.enum = true → t.fs = [] ∧ t.rs = [] ∧ t.ss.Nodup ∧ ∀ s ∈ t.ss, ∀ r ∈ t.ss, s.num = r.num → s = r
  e2 : t.enum = false → t.ss = [] ∧ Srt t.rs 0
  kd : ∀ f ∈ t.fs, f.kind ≤ 17
theorem good_TyP {l : List TV} (hg : goodB l = true) {k : Nat} (hk : k < l.length) : TyP l[k].t := by
  have h := good_at hg hk
  unfold stepB at h
  simp only [Bool.and_eq_true] at h
  have h2 := h.2.2.2
  unfold typB at h2
  by_cases he : l[k].t.enum = true
  · rw [if_pos he, Bool.and_eq_true, decide_eq_true_eq] at h2
    have hf : l[k].t.fs = [] := List.eq_nil_of_length_eq_zero (by omega)
    have hr : l[k].t.rs = [] := List.eq_nil_of_length_eq_zero (by omega)
    have hd : dfB ((l[k].t.ss.map SY.num).map litI) = true := by
      have h3 := h2.2
      cases hs : l[k].t.ss with
      | nil => rw [hs] at h3; simp [symB] at h3
      | cons s r =>
        rw [hs] at h3
        unfold symB at h3
        simp only [Bool.and_eq_true] at h3
        exact h3.2.2.2.2.2
    exact ⟨fun _ => ⟨hf, hr, nums_nodup hd, nums_ne hd⟩, (fun e => by rw [he] at e; cases e), fun f hfm => by rw [hf] at hfm; cases hfm⟩
  · rw [if_neg he, Bool.and_eq_true, decide_eq_true_eq] at h2
    have h3 := h2.2
    unfold msgB at h3
    simp only [Bool.and_eq_true, decide_eq_true_eq, List.all_eq_true] at h3
    obtain ⟨-, a3, -, a5, -⟩ := h3
    refine ⟨fun e => absurd e he, fun _ => ⟨List.eq_nil_of_length_eq_zero h2.1, free_srt _ 0 a5⟩, fun f hf => ?_⟩
    have := a3 f hf
    unfold fldB at this
    simp only [Bool.and_eq_true, decide_eq_true_eq] at this
    exact this.1.2
theorem sy_pl {xs ys : List SY} (nx : xs.Nodup) (ny : ys.Nodup) (ux : ∀ s ∈ xs, ∀ r ∈ xs, s.num = r.num → s = r) (uy : ∀ s ∈ ys, ∀ r ∈ ys, s.num = r.num → s = r) : SyE xs ys ↔ xs.length = ys.length ∧ ∀ x ∈ xs, x ∈ ys := by
  constructor
  · rintro ⟨h1, h2⟩
    have hs : ∀ x ∈ xs, x ∈ ys := fun x hx => by
      obtain ⟨y, hy, e⟩ := h1 x hx
      obtain ⟨y1, y2⟩ := syI_eq hy
      have : y = x := by cases x; cases y; simp at e y2; subst e y2; rfl
      exact this ▸ y1
    have hr : ∀ y ∈ ys, y ∈ xs := fun y hy => by
      obtain ⟨x, hx⟩ := h2 y hy
      obtain ⟨x1, x2⟩ := syI_eq hx
      have := uy x (hs x x1) y hy x2
      exact this ▸ x1
    exact ⟨Nat.le_antisymm (pig _ _ nx hs) (pig _ _ ny hr), hs⟩
  · rintro ⟨hl, hs⟩
    have hr := pig_back nx hs hl
    exact ⟨fun s h => ⟨s, sy_find uy (hs s h), rfl⟩, fun s h => ⟨s, sy_find ux (hr s h)⟩⟩
theorem ty_pl {a b : List TV} {s t : TT} (hs : TyP s) (ht : TyP t) : TyE a b s t ↔ PlP a b s t := by
  unfold TyE PlP
  constructor
  · rintro ⟨e, h1, h2⟩
    cases he : s.enum with
    | true =>
      obtain ⟨a1, a2, a3, a4⟩ := hs.e1 he
      obtain ⟨b1, b2, b3, b4⟩ := ht.e1 (e ▸ he)
      obtain ⟨c1, c2⟩ := (sy_pl a3 b3 a4 b4).1 (h1 he)
      rw [← e, he]
      refine ⟨rfl, c1, c2, fun f hf => ?_, ?_, ?_⟩
      · rw [a1] at hf; cases hf
      · rw [a2, b2]; rfl
      · rw [a2, b2]; rfl
    | false =>
      obtain ⟨a1, a2⟩ := hs.e2 he
      obtain ⟨b1, b2⟩ := ht.e2 (e ▸ he)
      obtain ⟨c1, c2⟩ := h2 he
      obtain ⟨d1, d2⟩ := (jn_same a2 b2).1 c2
      rw [← e, he]
      exact ⟨rfl, by rw [a1, b1], fun x hx => (by rw [a1] at hx; cases hx), c1, (num_iff (srt_le a2)).2 d1, (num_iff (srt_le b2)).2 d2⟩
  · rintro ⟨e, h1, h2, h3, h4, h5⟩
    refine ⟨e, fun he => ?_, fun he => ?_⟩
    · obtain ⟨a1, a2, a3, a4⟩ := hs.e1 he
      obtain ⟨b1, b2, b3, b4⟩ := ht.e1 (e ▸ he)
      exact (sy_pl a3 b3 a4 b4).2 ⟨h1, h2⟩
    · obtain ⟨a1, a2⟩ := hs.e2 he
      obtain ⟨b1, b2⟩ := ht.e2 (e ▸ he)
      exact ⟨h3, (jn_same a2 b2).2 ⟨(num_iff (srt_le a2)).1 h4, (num_iff (srt_le b2)).1 h5⟩⟩
theorem good_PlK {a b : List TV} (ga : goodB a = true) (gb : goodB b = true) (ka : ∀ x ∈ a, OkV x) (kb : ∀ x ∈ b, OkV x) {i k : Nat} (hi : i < a.length) (hk : k < b.length) : PlK a b a[i].t b[k].t := by
  have p1 := good_TyG ga ka hi
  have p2 := good_TyG gb kb hk
  have q1 := good_TyP ga hi
  have q2 := good_TyP gb hk
  have n0 : ∀ {fs : List FT}, fs = [] → Rise fs := fun h => by subst h; intro i j _ hj; simp at hj
  refine ⟨?_, ?_, q1.kd, ?_, ?_, ?_, ?_, p1.ss, p2.ss, p1.fs, p2.fs, p1.os, p2.os, fun x hx => (ka x hx).ok.nm, fun x hx => (kb x hx).ok.nm⟩
  · cases he : a[i].t.enum with
    | true => intro f hf; rw [(q1.e1 he).1] at hf; cases hf
    | false => exact p1.fd he
  · cases he : b[k].t.enum with
    | true => intro f hf; rw [(q2.e1 he).1] at hf; cases hf
    | false => exact p2.fd he
  · cases he : a[i].t.enum with
    | true => exact n0 (q1.e1 he).1
    | false => exact p1.ri he
  · cases he : b[k].t.enum with
    | true => exact n0 (q2.e1 he).1
    | false => exact p2.ri he
  · cases he : a[i].t.enum with
    | true => intro f hf; rw [(q1.e1 he).2.1] at hf; cases hf
    | false => exact p1.rg he
  · cases he : b[k].t.enum with
    | true => intro f hf; rw [(q2.e1 he).2.1] at hf; cases hf
    | false => exact p2.rg he
def mor1 : List CH := [⟨2, 6, [77], 4⟩]
theorem awake18 (w : World) (m : Int) (hm : w.cell? ⟨0, 0, none⟩ = some (.int .i64 m)) : Calls Tryz.prog 7 #[] w fun e w' => e = .returned (.bool true) ∧ Below w.heap.size w w' := by
  have HM := hid hm
  clear hm
  have HD : Hid (∀ (W : World) (h g : Nat) (fa ta tb : Option Addr) (fc : Nat), Below w.heap.size w W → TbR W (.slice ta 2 2) (simL h) → TbR W (.slice tb 2 2) (morL g fa fc) → Calls Tryz.prog 6 #[.agg #[.slice ta 2 2], .agg #[.slice tb 2 2]] W fun e w' => ∃ va vc, e = .returned (.tuple #[.slice va 1 vc, .int .i64 2, .int .i64 0]) ∧ RowS w' AnyZ 4 (.slice va mor1.length vc) mor1.length (mor1.flatMap cCH) ∧ Below W.heap.size W w') := hid fun W h g fa ta tb fc hW hA hB => by
    refine (diffT W (simL h) (morL g fa fc) ta tb 2 2 hA hB (simOk h) (morOk g fa fc) (fun x hx => by simp [simL] at hx; rcases hx with rfl | rfl <;> simp [simE, simM]) (fun x hx => by simp [morL] at hx; rcases hx with rfl | rfl <;> simp [simE]) m (cell_below HM.out hW)).mono ?_
    rintro e w' ⟨h1, h2, -⟩
    obtain ⟨va, vc, rfl, h3⟩ := h2 ⟨simGood h, morGood g fa fc⟩
    rw [simMore] at h3 ⊢
    exact ⟨va, vc, rfl, own_row h3 (fun _ _ => trivial), h1⟩
  have HS := hid (fun (W : World) (aa ba : Option Addr) (ac bc : Nat) (hA : RowS W AnyZ 4 (.slice aa mor1.length ac) mor1.length (mor1.flatMap cCH)) (hB : RowS W AnyZ 4 (.slice ba mor1.length bc) mor1.length (mor1.flatMap cCH)) => sameCT W mor1 mor1 aa ba ac bc hA hB (fun x hx => by simp [mor1] at hx; subst hx; exact ⟨by decide, by decide⟩) (fun x hx => by simp [mor1] at hx; subst hx; exact ⟨by decide, by decide⟩))
  go_enter Tryz.func7, Tryz.ntmps7
  go_wp2_with fail
  refine (simpleW _).mono ?_
  rintro e w1 ⟨rfl, ht1, hb1⟩
  have HT1 : Hid (TbR w1 (.slice (some ⟨w.heap.size + 1 + 1 + 1, 0, none⟩) 2 2) (simL w.heap.size)) := hid ht1
  have HB1 : Hid (Below w.heap.size w w1) := hid (bl_then (by exact blBy) hb1)
  clear ht1 hb1
  go_wp2_with fail
  refine (moreW _).mono ?_
  rintro e w2 ⟨h, fa, fc, ta, rfl, ht2, hb2⟩
  replace HT1 := hid (HT1.out.kept hb2)
  have HT2 := hid ht2
  replace HB1 := hid (below_trans HB1.out hb2)
  clear ht2 hb2
  go_wp2_with fail
  refine (HD.out _ _ _ _ _ _ _ HB1.out HT1.out HT2.out).mono ?_
  rintro e w3 ⟨va, vc, rfl, hr, hb3⟩
  have HR := hid hr
  have HB3 := hid (below_trans HB1.out hb3)
  clear hr hb3 HT1 HT2 HB1 HD
  go_wp2_with fail
  refine (HS.out _ _ _ _ _ (HR.out.kept (below_alloc _)) (rowOf (Blk.new _ _ _) 4 1 _ rfl rfl (by decide))).mono ?_
  rintro e w4 ⟨r, rfl, hr, hb4⟩
  have er : r = true := by simpa using hr
  subst er
  have HB4 : Hid (Below w.heap.size w w4) := hid (bl_then (by have := HB3.out; exact blBy) hb4)
  clear hb4
  go_wp2
  go_ret
  exact ⟨rfl, HB4.out⟩
theorem cutI_none : ∀ (l : List Int), (∀ c ∈ l, c ≠ 46) → cutI l = [l]
  | [], _ => rfl
  | c :: r, h => by
    rw [cutI, if_neg (h c (by simp)), cutI_none r (fun c hc => h c (by simp [hc]))]
    rfl
theorem cutI_at : ∀ (a b : List Int), (∀ c ∈ a, c ≠ 46) → cutI (a ++ 46 :: b) = a :: cutI b
  | [], b, _ => by simp [cutI]
  | c :: r, b, h => by
    rw [List.cons_append, cutI, if_neg (h c (by simp)), cutI_at r b (fun c hc => h c (by simp [hc]))]
    rfl
/-- While it is cut: P stands, from fr on there is no dot up to i. -/
structure Cut (xs : List Int) (P : List (List Int)) (fr i : Nat) : Prop where
  is : cutI xs = P ++ cutI (xs.drop fr)
  le : fr ≤ i
  no : ∀ c ∈ (xs.take i).drop fr, c ≠ 46
  few : P.length ≤ i
theorem Cut.start (xs : List Int) : Cut xs [] 0 0 := ⟨by simp, by omega, by simp, by simp⟩
theorem Cut.step {xs : List Int} {P : List (List Int)} {fr i : Nat} (h : Cut xs P fr i) (hi : i < xs.length) (hx : xs[i] ≠ 46) : Cut xs P fr (i + 1) := by
  refine ⟨h.is, by have := h.le; omega, fun c hc => ?_, by have := h.few; omega⟩
  rw [List.take_succ_eq_append_getElem hi, List.drop_append_of_le_length (by simp; have := h.le; omega)] at hc
  rcases List.mem_append.1 hc with q | q
  · exact h.no c q
  · simp at q; subst q; exact hx
theorem Cut.dot {xs : List Int} {P : List (List Int)} {fr i : Nat} (h : Cut xs P fr i) (hi : i < xs.length) (hx : xs[i] = 46) : Cut xs (P ++ [(xs.take i).drop fr]) (i + 1) (i + 1) := by
  refine ⟨?_, by omega, by simp, by have := h.few; simp; omega⟩
  have e : xs.drop fr = (xs.take i).drop fr ++ 46 :: xs.drop (i + 1) := by
    have e1 : xs = xs.take i ++ 46 :: xs.drop (i + 1) := by rw [← hx, List.getElem_cons_drop, List.take_append_drop]
    conv => lhs; rw [e1]
    rw [List.drop_append_of_le_length (by simp; have := h.le; omega)]
  rw [h.is, e, cutI_at _ _ h.no, List.append_assoc]
  rfl
theorem Cut.fin {xs : List Int} {P : List (List Int)} {fr : Nat} (h : Cut xs P fr xs.length) : P ++ [(xs.take xs.length).drop fr] = cutI xs := by
  rw [h.is, List.take_length, cutI_none]
  have := h.no
  rw [List.take_length] at this
  exact this
theorem partsR (xs : List Int) (w : World) (hb : ∀ c ∈ xs, 0 ≤ c ∧ c ≤ 255) (hl : xs.length < 4000000) : Calls Tryz.prog 43 #[.string (strOfNums xs)] w fun e w' => (∃ a c, e = .returned (.slice a (cutI xs).length c) ∧ Hid (RowS w' AnyZ 1 (.slice a (cutI xs).length c) (cutI xs).length ((cutI xs).flatMap cN))) ∧ Below w.heap.size w w' := by
  have HB := hid hb
  have HSZ : (strOfNums xs).size = xs.length := strOfNums_size xs
  have h63 : (xs.length : Int) ≤ 9223372036854775807 := by omega
  clear hb
  go_enter Tryz.func43, Tryz.ntmps43
  go_wp2
  go_loopw [3, 4, 5] (fun v f r wr => ∃ (i fr : Nat) (P : List (List Int)) (va : Option Addr) (vc : Nat), v = .slice va P.length vc ∧ f = .int .i64 fr ∧ r = .int .i64 i ∧ i ≤ xs.length + 1 ∧ Hid ((i ≤ xs.length ∧ Cut xs P fr i) ∨ (i = xs.length + 1 ∧ P = cutI xs)) ∧ Hid (wr.ownsRow w.heap.size 9 1 (.slice va P.length vc) P.length (P.flatMap cN)) ∧ Hid (Below w.heap.size w wr)) (fun _ _ r wr => xs.length + 1 - numAt wr r)
  case atStart => exact ⟨0, 0, [], none, 0, rfl, rfl, rfl, by omega, hid (.inl ⟨by omega, Cut.start xs⟩), hid (World.ownsRow_nil _ _ _ _), hid (Below.refl _ _)⟩
  case round =>
    obtain ⟨i, fr, P, va, vc, rfl, rfl, rfl, hi, HC, HV, hb⟩ := hrel
    rcases HC.out with ⟨hil, hc⟩ | ⟨he, hp⟩
    case inr =>
      subst hp
      have h2 : ¬ (i : Int) ≤ (xs.length : Int) := by omega
      have h3 : ((i : Int) ≤ (xs.length : Int)) = False := eq_false h2
      clear he HC
      go_wp2
      go_ret
      exact ⟨⟨va, vc, rfl, hid (own_row HV.out (fun _ _ => trivial))⟩, hb.out⟩
    have h2 : (i : Int) ≤ (xs.length : Int) := by omega
    have hfr : fr ≤ i := hc.le
    have hfew : P.length ≤ i := hc.few
    have hfr2 : (fr : Int) ≤ (i : Int) := by omega
    have HS : Hid ((strOfNums xs).extract fr i = strOfNums ((xs.take i).drop fr)) := hid (str_cut xs fr i)
    obtain ⟨la, lc, x1, HRUN, HV1, HG1⟩ := appendSt w.heap.size (.slice va P.length vc) P ((xs.take i).drop fr) wr HV.out hb.out.size (by omega)
    rw [← HS.out] at HRUN
    have hb1 : Hid (Below w.heap.size w x1) := hid (hb.out.trans (grow_bel HG1.out HV.out (Nat.le_refl _) hb.out.size))
    have HL : Hid ((P ++ [(xs.take i).drop fr]).length = P.length + 1) := hid (by simp)
    have HC1 := hid hc
    clear hc HC HG1 HS
    by_cases hlt : i < xs.length
    case neg =>
      have ei : i = xs.length := by omega
      have k1 : ((i : Int) == (xs.length : Int)) = true := by simp [ei]
      have HE : Hid (P ++ [(xs.take i).drop fr] = cutI xs) := hid (by subst ei; exact HC1.out.fin)
      have hi2 : i + 1 = xs.length + 1 := by omega
      replace hi2 := hid hi2
      clear hlt ei
      go_wp2_with (first | (at_builtin; refine wpList_append_ran rfl _ _ 46 46 rfl rfl _ _ (.slice la (P.length + 1) lc) x1 rfl rfl HRUN.out ?_))
      exact ⟨⟨i + 1, i + 1, P ++ [(xs.take i).drop fr], la, lc, by rw [HL.out], by simp, by simp, by omega, hid (.inr ⟨hi2.out, HE.out⟩), hid (by have := HV1.out; rw [← HL.out] at this; exact this), hb1⟩, by simp [numAt]; omega⟩
    have hlt2 : (i : Int) < (xs.length : Int) := by omega
    have k1 : ((i : Int) == (xs.length : Int)) = false := by rw [beq_eq_false_iff_ne]; omega
    have hix := index_str HB.out i hlt .i64
    have e1 : xs[i]?.getD 0 = xs[i] := by simp [hlt]
    rw [e1] at hix
    by_cases hd : xs[i] = 46
    · have HN := hid (HC1.out.dot hlt hd)
      rw [hd] at hix
      clear e1 hd
      go_wp2_with (first | (at_builtin; refine wpList_append_ran rfl _ _ 46 46 rfl rfl _ _ (.slice la (P.length + 1) lc) x1 rfl rfl HRUN.out ?_))
      exact ⟨⟨i + 1, i + 1, P ++ [(xs.take i).drop fr], la, lc, by rw [HL.out], by simp, by simp, by omega, hid (.inl ⟨by omega, HN.out⟩), hid (by have := HV1.out; rw [← HL.out] at this; exact this), hb1⟩, by simp [numAt]; omega⟩
    · have HN := hid (HC1.out.step hlt hd)
      have k2 : (xs[i] == 46) = false := by simpa using hd
      clear e1 hd HRUN
      generalize xs[i] = d at hix k2
      go_wp2
      exact ⟨⟨i + 1, fr, P, va, vc, rfl, rfl, by simp, by omega, hid (.inl ⟨by omega, HN.out⟩), HV, hb⟩, by simp [numAt]; omega⟩
end Go.Proofs.YtmfaakimhgkedaaGreatDoor
