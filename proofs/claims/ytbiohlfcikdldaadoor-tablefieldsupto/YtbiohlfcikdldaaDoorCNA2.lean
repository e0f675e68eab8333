/-
  A field by itself (the document's): enums.
  A field by itself (the document's): messages.
  A field by itself (the document's): whole.
-/
import Derived.Test.YtbiohlfcikdldaaDoorCND
namespace Go.Proofs.YtbiohlfcikdldaaDoor
open Go.RowKit
set_option maxRecDepth 1000000
set_option linter.unusedVariables false
set_option linter.unusedSimpArgs false
set_option maxHeartbeats 1000000
theorem fieldEnum (nm : List Int) (num ref lab one key : Int) (w : World) (l : List TV) (ta : Option Addr) (tc : Nat) (t : TT) (fa oa sa ra : Option Addr) (fc oc sc rc : Nat) (h : TbR w (.slice ta l.length tc) l) (hl : t.os.length ≤ 9223372036854775807) (n1 : 1 ≤ num) (n2 : num ≤ 536870911) (l1 : 0 ≤ lab) (l2 : lab ≤ 5)  : Calls Tryd.prog 59 #[.agg #[.slice ta l.length tc], .agg #[.string (strOfNums t.name), .bool t.enum, .slice fa t.fs.length fc, .slice oa t.os.length oc, .slice sa t.ss.length sc, .slice ra t.rs.length rc], .agg #[.string (strOfNums nm), .int .i64 num, .int .i64 16, .int .i64 ref, .int .i64 lab, .int .i64 one, .int .i64 key]] w fun e w' => e = .returned (.bool (docB l t.os.length ⟨nm, num, 16, ref, lab, one, key⟩)) ∧ Below w.heap.size w w' := by
  obtain ⟨_, _, e, hn⟩ := rowS_sl h.row
  clear e
  have h63 : (l.length : Int) ≤ 9223372036854775807 := by omega
  have h64 : (t.os.length : Int) ≤ 9223372036854775807 := by omega
  have m1 : (num < 1) = False := eq_false (by omega)
  have m2 : (536870911 < num) = False := eq_false (by omega)
  have m3 : (lab < 0) = False := eq_false (by omega)
  have m4 : (5 < lab) = False := eq_false (by omega)
  have HD : Hid (docB l t.os.length ⟨nm, num, 16, ref, lab, one, key⟩ = (refB l ⟨nm, num, 16, ref, lab, one, key⟩ && (labB ⟨nm, num, 16, ref, lab, one, key⟩ && (oneB t.os.length ⟨nm, num, 16, ref, lab, one, key⟩ && keyB ⟨nm, num, 16, ref, lab, one, key⟩)))) := hid (by unfold docB fldB; rw [decide_eq_true (by dsimp only; omega), decide_eq_true (by dsimp only; omega)]; rfl)
  have HK := hid (isKeyR key)
  have HN := hid (numericR 16)
  clear n1 n2
  have HKX : Hid (¬ (16 : Int) = 17) := hid (by omega)
  have HR0 : Hid (refB l ⟨nm, num, 16, ref, lab, one, key⟩ = (match l[ref.toNat]? with | some x => decide (0 ≤ ref) && (x.t.enum == true) | none => false)) := hid (by unfold refB; rw [if_pos (by simp)]; rfl)
  by_cases r1 : ref < 0
  case pos =>
    have r2 : (ref < 0) = True := eq_true r1
    have HR : Hid (refB l ⟨nm, num, 16, ref, lab, one, key⟩ = false) := hid (by rw [HR0.out]; split <;> simp; intro _; omega)
    clear r1 h HR0
    go_enter Tryd.func59, Tryd.ntmps59
    go_wp2
    have Ba : Blk (((w.alloc (.cells #[.slice ta l.length tc] 24)).alloc (.cells #[.string (strOfNums t.name), .bool t.enum, .slice fa t.fs.length fc, .slice oa t.os.length oc, .slice sa t.ss.length sc, .slice ra t.rs.length rc] 62)).alloc (.cells #[.string (strOfNums nm), .int .i64 num, .int .i64 16, .int .i64 ref, .int .i64 lab, .int .i64 one, .int .i64 key] 39)) w.heap.size 24 #[.slice ta l.length tc] := (((Blk.new _ _ _).kept (below_alloc _)).kept (below_alloc _))
    have Bb : Blk (((w.alloc (.cells #[.slice ta l.length tc] 24)).alloc (.cells #[.string (strOfNums t.name), .bool t.enum, .slice fa t.fs.length fc, .slice oa t.os.length oc, .slice sa t.ss.length sc, .slice ra t.rs.length rc] 62)).alloc (.cells #[.string (strOfNums nm), .int .i64 num, .int .i64 16, .int .i64 ref, .int .i64 lab, .int .i64 one, .int .i64 key] 39)) (w.heap.size + 1) 62 #[.string (strOfNums t.name), .bool t.enum, .slice fa t.fs.length fc, .slice oa t.os.length oc, .slice sa t.ss.length sc, .slice ra t.rs.length rc] := ((Blk.newAt (by simp)).kept (below_alloc _))
    have Bc : Blk (((w.alloc (.cells #[.slice ta l.length tc] 24)).alloc (.cells #[.string (strOfNums t.name), .bool t.enum, .slice fa t.fs.length fc, .slice oa t.os.length oc, .slice sa t.ss.length sc, .slice ra t.rs.length rc] 62)).alloc (.cells #[.string (strOfNums nm), .int .i64 num, .int .i64 16, .int .i64 ref, .int .i64 lab, .int .i64 one, .int .i64 key] 39)) (w.heap.size + 1 + 1) 39 #[.string (strOfNums nm), .int .i64 num, .int .i64 16, .int .i64 ref, .int .i64 lab, .int .i64 one, .int .i64 key] := (Blk.newAt (by simp))
    have hb0 : Hid (Below w.heap.size w (((w.alloc (.cells #[.slice ta l.length tc] 24)).alloc (.cells #[.string (strOfNums t.name), .bool t.enum, .slice fa t.fs.length fc, .slice oa t.os.length oc, .slice sa t.ss.length sc, .slice ra t.rs.length rc] 62)).alloc (.cells #[.string (strOfNums nm), .int .i64 num, .int .i64 16, .int .i64 ref, .int .i64 lab, .int .i64 one, .int .i64 key] 39))) := hid (by exact blBy)
    generalize (((w.alloc (.cells #[.slice ta l.length tc] 24)).alloc (.cells #[.string (strOfNums t.name), .bool t.enum, .slice fa t.fs.length fc, .slice oa t.os.length oc, .slice sa t.ss.length sc, .slice ra t.rs.length rc] 62)).alloc (.cells #[.string (strOfNums nm), .int .i64 num, .int .i64 16, .int .i64 ref, .int .i64 lab, .int .i64 one, .int .i64 key] 39)) = W at *
    have xa := Ba.cellF
    have za := Ba.lt
    have xb := Bb.cellF
    have zb := Bb.lt
    have xc := Bc.cellF
    have zc := Bc.lt
    clear Ba Bb Bc
    go_region
    go_wp2
    go_ret
    exact ⟨ret_bool (by rw [HD.out, HR.out]; rfl), by have := hb0.out; exact blBy⟩
  by_cases r3 : (l.length : Int) ≤ ref
  case pos =>
    have r2 : (ref < 0) = False := eq_false r1
    have r4 : ((l.length : Int) ≤ ref) = True := eq_true r3
    have HR : Hid (refB l ⟨nm, num, 16, ref, lab, one, key⟩ = false) := hid (by rw [HR0.out, List.getElem?_eq_none (by omega)])
    clear r1 r3 h HR0
    go_enter Tryd.func59, Tryd.ntmps59
    go_wp2
    have Ba : Blk (((w.alloc (.cells #[.slice ta l.length tc] 24)).alloc (.cells #[.string (strOfNums t.name), .bool t.enum, .slice fa t.fs.length fc, .slice oa t.os.length oc, .slice sa t.ss.length sc, .slice ra t.rs.length rc] 62)).alloc (.cells #[.string (strOfNums nm), .int .i64 num, .int .i64 16, .int .i64 ref, .int .i64 lab, .int .i64 one, .int .i64 key] 39)) w.heap.size 24 #[.slice ta l.length tc] := (((Blk.new _ _ _).kept (below_alloc _)).kept (below_alloc _))
    have Bb : Blk (((w.alloc (.cells #[.slice ta l.length tc] 24)).alloc (.cells #[.string (strOfNums t.name), .bool t.enum, .slice fa t.fs.length fc, .slice oa t.os.length oc, .slice sa t.ss.length sc, .slice ra t.rs.length rc] 62)).alloc (.cells #[.string (strOfNums nm), .int .i64 num, .int .i64 16, .int .i64 ref, .int .i64 lab, .int .i64 one, .int .i64 key] 39)) (w.heap.size + 1) 62 #[.string (strOfNums t.name), .bool t.enum, .slice fa t.fs.length fc, .slice oa t.os.length oc, .slice sa t.ss.length sc, .slice ra t.rs.length rc] := ((Blk.newAt (by simp)).kept (below_alloc _))
    have Bc : Blk (((w.alloc (.cells #[.slice ta l.length tc] 24)).alloc (.cells #[.string (strOfNums t.name), .bool t.enum, .slice fa t.fs.length fc, .slice oa t.os.length oc, .slice sa t.ss.length sc, .slice ra t.rs.length rc] 62)).alloc (.cells #[.string (strOfNums nm), .int .i64 num, .int .i64 16, .int .i64 ref, .int .i64 lab, .int .i64 one, .int .i64 key] 39)) (w.heap.size + 1 + 1) 39 #[.string (strOfNums nm), .int .i64 num, .int .i64 16, .int .i64 ref, .int .i64 lab, .int .i64 one, .int .i64 key] := (Blk.newAt (by simp))
    have hb0 : Hid (Below w.heap.size w (((w.alloc (.cells #[.slice ta l.length tc] 24)).alloc (.cells #[.string (strOfNums t.name), .bool t.enum, .slice fa t.fs.length fc, .slice oa t.os.length oc, .slice sa t.ss.length sc, .slice ra t.rs.length rc] 62)).alloc (.cells #[.string (strOfNums nm), .int .i64 num, .int .i64 16, .int .i64 ref, .int .i64 lab, .int .i64 one, .int .i64 key] 39))) := hid (by exact blBy)
    generalize (((w.alloc (.cells #[.slice ta l.length tc] 24)).alloc (.cells #[.string (strOfNums t.name), .bool t.enum, .slice fa t.fs.length fc, .slice oa t.os.length oc, .slice sa t.ss.length sc, .slice ra t.rs.length rc] 62)).alloc (.cells #[.string (strOfNums nm), .int .i64 num, .int .i64 16, .int .i64 ref, .int .i64 lab, .int .i64 one, .int .i64 key] 39)) = W at *
    have xa := Ba.cellF
    have za := Ba.lt
    have xb := Bb.cellF
    have zb := Bb.lt
    have xc := Bc.cellF
    have zc := Bc.lt
    clear Ba Bb Bc
    go_region
    go_wp2
    go_ret
    exact ⟨ret_bool (by rw [HD.out, HR.out]; rfl), by have := hb0.out; exact blBy⟩
  obtain ⟨k, rfl⟩ := Int.eq_ofNat_of_zero_le (show 0 ≤ ref by omega)
  have hkl : k < l.length := by omega
  have r2 : ((k : Int) < 0) = False := eq_false r1
  have r4 : ((l.length : Int) ≤ (k : Int)) = False := eq_false r3
  have r5 : (k : Int) < (l.length : Int) := by omega
  obtain ⟨b, o, rfl, hc⟩ := rowAt (g := cTV) (fun _ => rfl) h.row (i := k) (x := l[k]) (by simp [hkl])
  have c0 : w.cell? ⟨b, o + k * 6 + 1, none⟩ = some (.bool l[k].t.enum) := hc 1 _ rfl
  have HR1 : Hid (refB l ⟨nm, num, 16, (k : Int), lab, one, key⟩ = (l[k].t.enum == true)) := hid (by rw [HR0.out]; simp [hkl])
  clear r1 r3 h HR0 hc
  generalize l[k].t.enum = en at *
  cases en with
  | false =>
    have HR : Hid (refB l ⟨nm, num, 16, (k : Int), lab, one, key⟩ = false) := hid (by rw [HR1.out]; rfl)
    go_enter Tryd.func59, Tryd.ntmps59
    go_wp2
    have Ba : Blk (((w.alloc (.cells #[.slice (some ⟨b, o, none⟩) l.length tc] 24)).alloc (.cells #[.string (strOfNums t.name), .bool t.enum, .slice fa t.fs.length fc, .slice oa t.os.length oc, .slice sa t.ss.length sc, .slice ra t.rs.length rc] 62)).alloc (.cells #[.string (strOfNums nm), .int .i64 num, .int .i64 16, .int .i64 (k : Int), .int .i64 lab, .int .i64 one, .int .i64 key] 39)) w.heap.size 24 #[.slice (some ⟨b, o, none⟩) l.length tc] := (((Blk.new _ _ _).kept (below_alloc _)).kept (below_alloc _))
    have Bb : Blk (((w.alloc (.cells #[.slice (some ⟨b, o, none⟩) l.length tc] 24)).alloc (.cells #[.string (strOfNums t.name), .bool t.enum, .slice fa t.fs.length fc, .slice oa t.os.length oc, .slice sa t.ss.length sc, .slice ra t.rs.length rc] 62)).alloc (.cells #[.string (strOfNums nm), .int .i64 num, .int .i64 16, .int .i64 (k : Int), .int .i64 lab, .int .i64 one, .int .i64 key] 39)) (w.heap.size + 1) 62 #[.string (strOfNums t.name), .bool t.enum, .slice fa t.fs.length fc, .slice oa t.os.length oc, .slice sa t.ss.length sc, .slice ra t.rs.length rc] := ((Blk.newAt (by simp)).kept (below_alloc _))
    have Bc : Blk (((w.alloc (.cells #[.slice (some ⟨b, o, none⟩) l.length tc] 24)).alloc (.cells #[.string (strOfNums t.name), .bool t.enum, .slice fa t.fs.length fc, .slice oa t.os.length oc, .slice sa t.ss.length sc, .slice ra t.rs.length rc] 62)).alloc (.cells #[.string (strOfNums nm), .int .i64 num, .int .i64 16, .int .i64 (k : Int), .int .i64 lab, .int .i64 one, .int .i64 key] 39)) (w.heap.size + 1 + 1) 39 #[.string (strOfNums nm), .int .i64 num, .int .i64 16, .int .i64 (k : Int), .int .i64 lab, .int .i64 one, .int .i64 key] := (Blk.newAt (by simp))
    have hb0 : Hid (Below w.heap.size w (((w.alloc (.cells #[.slice (some ⟨b, o, none⟩) l.length tc] 24)).alloc (.cells #[.string (strOfNums t.name), .bool t.enum, .slice fa t.fs.length fc, .slice oa t.os.length oc, .slice sa t.ss.length sc, .slice ra t.rs.length rc] 62)).alloc (.cells #[.string (strOfNums nm), .int .i64 num, .int .i64 16, .int .i64 (k : Int), .int .i64 lab, .int .i64 one, .int .i64 key] 39))) := hid (by exact blBy)
    have c9 := cell_below c0 hb0.out
    clear c0
    generalize (((w.alloc (.cells #[.slice (some ⟨b, o, none⟩) l.length tc] 24)).alloc (.cells #[.string (strOfNums t.name), .bool t.enum, .slice fa t.fs.length fc, .slice oa t.os.length oc, .slice sa t.ss.length sc, .slice ra t.rs.length rc] 62)).alloc (.cells #[.string (strOfNums nm), .int .i64 num, .int .i64 16, .int .i64 (k : Int), .int .i64 lab, .int .i64 one, .int .i64 key] 39)) = W at *
    have xa := Ba.cellF
    have za := Ba.lt
    have xb := Bb.cellF
    have zb := Bb.lt
    have xc := Bc.cellF
    have zc := Bc.lt
    clear Ba Bb Bc
    have hbl2 : b < W.heap.size := World.block_lt_of_cell? _ _ c9
    go_region
    go_wp2
    go_ret
    exact ⟨ret_bool (by rw [HD.out, HR.out]; rfl), by have := hb0.out; exact blBy⟩
  | true =>
  have HR : Hid (refB l ⟨nm, num, 16, (k : Int), lab, one, key⟩ = true) := hid (by rw [HR1.out]; rfl)
  go_enter Tryd.func59, Tryd.ntmps59
  go_wp2
  have Ba : Blk (((w.alloc (.cells #[.slice (some ⟨b, o, none⟩) l.length tc] 24)).alloc (.cells #[.string (strOfNums t.name), .bool t.enum, .slice fa t.fs.length fc, .slice oa t.os.length oc, .slice sa t.ss.length sc, .slice ra t.rs.length rc] 62)).alloc (.cells #[.string (strOfNums nm), .int .i64 num, .int .i64 16, .int .i64 (k : Int), .int .i64 lab, .int .i64 one, .int .i64 key] 39)) w.heap.size 24 #[.slice (some ⟨b, o, none⟩) l.length tc] := (((Blk.new _ _ _).kept (below_alloc _)).kept (below_alloc _))
  have Bb : Blk (((w.alloc (.cells #[.slice (some ⟨b, o, none⟩) l.length tc] 24)).alloc (.cells #[.string (strOfNums t.name), .bool t.enum, .slice fa t.fs.length fc, .slice oa t.os.length oc, .slice sa t.ss.length sc, .slice ra t.rs.length rc] 62)).alloc (.cells #[.string (strOfNums nm), .int .i64 num, .int .i64 16, .int .i64 (k : Int), .int .i64 lab, .int .i64 one, .int .i64 key] 39)) (w.heap.size + 1) 62 #[.string (strOfNums t.name), .bool t.enum, .slice fa t.fs.length fc, .slice oa t.os.length oc, .slice sa t.ss.length sc, .slice ra t.rs.length rc] := ((Blk.newAt (by simp)).kept (below_alloc _))
  have Bc : Blk (((w.alloc (.cells #[.slice (some ⟨b, o, none⟩) l.length tc] 24)).alloc (.cells #[.string (strOfNums t.name), .bool t.enum, .slice fa t.fs.length fc, .slice oa t.os.length oc, .slice sa t.ss.length sc, .slice ra t.rs.length rc] 62)).alloc (.cells #[.string (strOfNums nm), .int .i64 num, .int .i64 16, .int .i64 (k : Int), .int .i64 lab, .int .i64 one, .int .i64 key] 39)) (w.heap.size + 1 + 1) 39 #[.string (strOfNums nm), .int .i64 num, .int .i64 16, .int .i64 (k : Int), .int .i64 lab, .int .i64 one, .int .i64 key] := (Blk.newAt (by simp))
  have hb0 : Hid (Below w.heap.size w (((w.alloc (.cells #[.slice (some ⟨b, o, none⟩) l.length tc] 24)).alloc (.cells #[.string (strOfNums t.name), .bool t.enum, .slice fa t.fs.length fc, .slice oa t.os.length oc, .slice sa t.ss.length sc, .slice ra t.rs.length rc] 62)).alloc (.cells #[.string (strOfNums nm), .int .i64 num, .int .i64 16, .int .i64 (k : Int), .int .i64 lab, .int .i64 one, .int .i64 key] 39))) := hid (by exact blBy)
  have c9 := cell_below c0 hb0.out
  clear c0
  generalize (((w.alloc (.cells #[.slice (some ⟨b, o, none⟩) l.length tc] 24)).alloc (.cells #[.string (strOfNums t.name), .bool t.enum, .slice fa t.fs.length fc, .slice oa t.os.length oc, .slice sa t.ss.length sc, .slice ra t.rs.length rc] 62)).alloc (.cells #[.string (strOfNums nm), .int .i64 num, .int .i64 16, .int .i64 (k : Int), .int .i64 lab, .int .i64 one, .int .i64 key] 39)) = W at *
  have xa := Ba.cellF
  have za := Ba.lt
  have xb := Bb.cellF
  have zb := Bb.lt
  have xc := Bc.cellF
  have zc := Bc.lt
  clear Ba Bb Bc
  have hbl2 : b < W.heap.size := World.block_lt_of_cell? _ _ c9
  go_region
  have hlab : lab = 0 ∨ lab = 1 ∨ lab = 2 ∨ lab = 3 ∨ lab = 4 ∨ lab = 5 := by omega
  clear m3 m4 l1 l2
  rcases hlab with rfl | rfl | rfl | rfl | rfl | rfl
  · skip
    by_cases o1 : one = 0
    case neg =>
      have o2 : (one != 0) = true := by simpa using o1
      replace o1 := hid o1
      go_wp2_with (first | (go_at_call 45; refine (HN.out _).mono ?_; rintro e w1 ⟨rfl, rfl⟩) | (go_at_call 87; refine (HK.out _).mono ?_; rintro e w1 ⟨rfl, rfl⟩))
      go_ret
      exact ⟨ret_bool (by rw [HD.out, HR.out]; simp [oneB, o1.out]), by have := hb0.out; exact blBy⟩
    have o2 : (one != 0) = false := by simpa using o1
    replace o1 := hid o1
    go_wp2_with (first | (go_at_call 45; refine (HN.out _).mono ?_; rintro e w1 ⟨rfl, rfl⟩) | (go_at_call 87; refine (HK.out _).mono ?_; rintro e w1 ⟨rfl, rfl⟩))
    go_ret
    exact ⟨ret_bool (by rw [HD.out, HR.out]; simp [labB, HKX.out, oneB, keyB, o1.out]; by_cases hk : key = 0 <;> simp [hk]), by have := hb0.out; exact blBy⟩
  · skip
    by_cases o1 : one = 0
    case neg =>
      have o2 : (one != 0) = true := by simpa using o1
      replace o1 := hid o1
      go_wp2_with (first | (go_at_call 45; refine (HN.out _).mono ?_; rintro e w1 ⟨rfl, rfl⟩) | (go_at_call 87; refine (HK.out _).mono ?_; rintro e w1 ⟨rfl, rfl⟩))
      go_ret
      exact ⟨ret_bool (by rw [HD.out, HR.out]; simp [oneB, o1.out]), by have := hb0.out; exact blBy⟩
    have o2 : (one != 0) = false := by simpa using o1
    replace o1 := hid o1
    go_wp2_with (first | (go_at_call 45; refine (HN.out _).mono ?_; rintro e w1 ⟨rfl, rfl⟩) | (go_at_call 87; refine (HK.out _).mono ?_; rintro e w1 ⟨rfl, rfl⟩))
    go_ret
    exact ⟨ret_bool (by rw [HD.out, HR.out]; simp [labB, oneB, keyB, o1.out]; by_cases hk : key = 0 <;> simp [hk]), by have := hb0.out; exact blBy⟩
  · skip
    by_cases o1 : one = 0
    case neg =>
      have o2 : (one != 0) = true := by simpa using o1
      replace o1 := hid o1
      go_wp2_with (first | (go_at_call 45; refine (HN.out _).mono ?_; rintro e w1 ⟨rfl, rfl⟩) | (go_at_call 87; refine (HK.out _).mono ?_; rintro e w1 ⟨rfl, rfl⟩))
      go_ret
      exact ⟨ret_bool (by rw [HD.out, HR.out]; simp [oneB, o1.out]), by have := hb0.out; exact blBy⟩
    have o2 : (one != 0) = false := by simpa using o1
    replace o1 := hid o1
    go_wp2_with (first | (go_at_call 45; refine (HN.out _).mono ?_; rintro e w1 ⟨rfl, rfl⟩) | (go_at_call 87; refine (HK.out _).mono ?_; rintro e w1 ⟨rfl, rfl⟩))
    go_ret
    exact ⟨ret_bool (by rw [HD.out, HR.out]; simp [labB, oneB, keyB, o1.out]; by_cases hk : key = 0 <;> simp [hk]), by have := hb0.out; exact blBy⟩
  · skip
    cases q : knum 16 with
    | false =>
      rw [q] at HN
      go_wp2_with (first | (go_at_call 45; refine (HN.out _).mono ?_; rintro e w1 ⟨rfl, rfl⟩) | (go_at_call 87; refine (HK.out _).mono ?_; rintro e w1 ⟨rfl, rfl⟩))
      go_ret
      exact ⟨ret_bool (by rw [HD.out, HR.out]; simp [labB, q]), by have := hb0.out; exact blBy⟩
    | true =>
      rw [q] at HN
      by_cases o1 : one = 0
      case neg =>
        have o2 : (one != 0) = true := by simpa using o1
        replace o1 := hid o1
        go_wp2_with (first | (go_at_call 45; refine (HN.out _).mono ?_; rintro e w1 ⟨rfl, rfl⟩) | (go_at_call 87; refine (HK.out _).mono ?_; rintro e w1 ⟨rfl, rfl⟩))
        go_ret
        exact ⟨ret_bool (by rw [HD.out, HR.out]; simp [oneB, o1.out]), by have := hb0.out; exact blBy⟩
      have o2 : (one != 0) = false := by simpa using o1
      replace o1 := hid o1
      go_wp2_with (first | (go_at_call 45; refine (HN.out _).mono ?_; rintro e w1 ⟨rfl, rfl⟩) | (go_at_call 87; refine (HK.out _).mono ?_; rintro e w1 ⟨rfl, rfl⟩))
      go_ret
      exact ⟨ret_bool (by rw [HD.out, HR.out]; simp [labB, q, oneB, keyB, o1.out]; by_cases hk : key = 0 <;> simp [hk]), by have := hb0.out; exact blBy⟩
  · skip
    by_cases o1 : one < 0
    · have o2 : (one < 0) = True := eq_true o1
      have HO : Hid (one < 0) := hid o1
      clear o1
      go_wp2_with (first | (go_at_call 45; refine (HN.out _).mono ?_; rintro e w1 ⟨rfl, rfl⟩) | (go_at_call 87; refine (HK.out _).mono ?_; rintro e w1 ⟨rfl, rfl⟩))
      go_ret
      exact ⟨ret_bool (by rw [HD.out, HR.out]; have := HO.out; simp [labB, oneB]; intro _ h2; omega), by have := hb0.out; exact blBy⟩
    by_cases o3 : (t.os.length : Int) ≤ one
    · have o2 : (one < 0) = False := eq_false o1
      have o4 : ((t.os.length : Int) ≤ one) = True := eq_true o3
      have HO : Hid ((t.os.length : Int) ≤ one) := hid o3
      clear o1 o3
      go_wp2_with (first | (go_at_call 45; refine (HN.out _).mono ?_; rintro e w1 ⟨rfl, rfl⟩) | (go_at_call 87; refine (HK.out _).mono ?_; rintro e w1 ⟨rfl, rfl⟩))
      go_ret
      exact ⟨ret_bool (by rw [HD.out, HR.out]; have := HO.out; simp [labB, oneB]; intro _ h2; omega), by have := hb0.out; exact blBy⟩
    have o2 : (one < 0) = False := eq_false o1
    have o4 : ((t.os.length : Int) ≤ one) = False := eq_false o3
    have HO : Hid (¬ one < 0 ∧ ¬ (t.os.length : Int) ≤ one) := hid ⟨o1, o3⟩
    clear o1 o3
    go_wp2_with (first | (go_at_call 45; refine (HN.out _).mono ?_; rintro e w1 ⟨rfl, rfl⟩) | (go_at_call 87; refine (HK.out _).mono ?_; rintro e w1 ⟨rfl, rfl⟩))
    go_ret
    exact ⟨ret_bool (by rw [HD.out, HR.out]; have := HO.out; simp [labB, oneB, keyB]; rw [show (decide (0 ≤ one) && decide (one < (t.os.length : Int))) = true by simp; omega]; by_cases hk : key = 0 <;> simp [hk]), by have := hb0.out; exact blBy⟩
  · skip
    by_cases o1 : one = 0
    case neg =>
      have o2 : (one != 0) = true := by simpa using o1
      replace o1 := hid o1
      go_wp2_with (first | (go_at_call 45; refine (HN.out _).mono ?_; rintro e w1 ⟨rfl, rfl⟩) | (go_at_call 87; refine (HK.out _).mono ?_; rintro e w1 ⟨rfl, rfl⟩))
      go_ret
      exact ⟨ret_bool (by rw [HD.out, HR.out]; simp [oneB, o1.out]), by have := hb0.out; exact blBy⟩
    have o2 : (one != 0) = false := by simpa using o1
    replace o1 := hid o1
    go_wp2_with (first | (go_at_call 45; refine (HN.out _).mono ?_; rintro e w1 ⟨rfl, rfl⟩) | (go_at_call 87; refine (HK.out _).mono ?_; rintro e w1 ⟨rfl, rfl⟩))
    go_ret
    exact ⟨ret_bool (by rw [HD.out, HR.out]; simp [labB, oneB, keyB, o1.out]), by have := hb0.out; exact blBy⟩
theorem fieldMsg (nm : List Int) (num ref lab one key : Int) (w : World) (l : List TV) (ta : Option Addr) (tc : Nat) (t : TT) (fa oa sa ra : Option Addr) (fc oc sc rc : Nat) (h : TbR w (.slice ta l.length tc) l) (hl : t.os.length ≤ 9223372036854775807) (n1 : 1 ≤ num) (n2 : num ≤ 536870911) (l1 : 0 ≤ lab) (l2 : lab ≤ 5)  : Calls Tryd.prog 59 #[.agg #[.slice ta l.length tc], .agg #[.string (strOfNums t.name), .bool t.enum, .slice fa t.fs.length fc, .slice oa t.os.length oc, .slice sa t.ss.length sc, .slice ra t.rs.length rc], .agg #[.string (strOfNums nm), .int .i64 num, .int .i64 17, .int .i64 ref, .int .i64 lab, .int .i64 one, .int .i64 key]] w fun e w' => e = .returned (.bool (docB l t.os.length ⟨nm, num, 17, ref, lab, one, key⟩)) ∧ Below w.heap.size w w' := by
  obtain ⟨_, _, e, hn⟩ := rowS_sl h.row
  clear e
  have h63 : (l.length : Int) ≤ 9223372036854775807 := by omega
  have h64 : (t.os.length : Int) ≤ 9223372036854775807 := by omega
  have m1 : (num < 1) = False := eq_false (by omega)
  have m2 : (536870911 < num) = False := eq_false (by omega)
  have m3 : (lab < 0) = False := eq_false (by omega)
  have m4 : (5 < lab) = False := eq_false (by omega)
  have HD : Hid (docB l t.os.length ⟨nm, num, 17, ref, lab, one, key⟩ = (refB l ⟨nm, num, 17, ref, lab, one, key⟩ && (labB ⟨nm, num, 17, ref, lab, one, key⟩ && (oneB t.os.length ⟨nm, num, 17, ref, lab, one, key⟩ && keyB ⟨nm, num, 17, ref, lab, one, key⟩)))) := hid (by unfold docB fldB; rw [decide_eq_true (by dsimp only; omega), decide_eq_true (by dsimp only; omega)]; rfl)
  have HK := hid (isKeyR key)
  have HN := hid (numericR 17)
  clear n1 n2
  have HKX : Hid (¬ (16 : Int) = 17) := hid (by omega)
  have HR0 : Hid (refB l ⟨nm, num, 17, ref, lab, one, key⟩ = (match l[ref.toNat]? with | some x => decide (0 ≤ ref) && (x.t.enum == false) | none => false)) := hid (by unfold refB; rw [if_pos (by simp)]; rfl)
  by_cases r1 : ref < 0
  case pos =>
    have r2 : (ref < 0) = True := eq_true r1
    have HR : Hid (refB l ⟨nm, num, 17, ref, lab, one, key⟩ = false) := hid (by rw [HR0.out]; split <;> simp; intro _; omega)
    clear r1 h HR0
    go_enter Tryd.func59, Tryd.ntmps59
    go_wp2
    have Ba : Blk (((w.alloc (.cells #[.slice ta l.length tc] 24)).alloc (.cells #[.string (strOfNums t.name), .bool t.enum, .slice fa t.fs.length fc, .slice oa t.os.length oc, .slice sa t.ss.length sc, .slice ra t.rs.length rc] 62)).alloc (.cells #[.string (strOfNums nm), .int .i64 num, .int .i64 17, .int .i64 ref, .int .i64 lab, .int .i64 one, .int .i64 key] 39)) w.heap.size 24 #[.slice ta l.length tc] := (((Blk.new _ _ _).kept (below_alloc _)).kept (below_alloc _))
    have Bb : Blk (((w.alloc (.cells #[.slice ta l.length tc] 24)).alloc (.cells #[.string (strOfNums t.name), .bool t.enum, .slice fa t.fs.length fc, .slice oa t.os.length oc, .slice sa t.ss.length sc, .slice ra t.rs.length rc] 62)).alloc (.cells #[.string (strOfNums nm), .int .i64 num, .int .i64 17, .int .i64 ref, .int .i64 lab, .int .i64 one, .int .i64 key] 39)) (w.heap.size + 1) 62 #[.string (strOfNums t.name), .bool t.enum, .slice fa t.fs.length fc, .slice oa t.os.length oc, .slice sa t.ss.length sc, .slice ra t.rs.length rc] := ((Blk.newAt (by simp)).kept (below_alloc _))
    have Bc : Blk (((w.alloc (.cells #[.slice ta l.length tc] 24)).alloc (.cells #[.string (strOfNums t.name), .bool t.enum, .slice fa t.fs.length fc, .slice oa t.os.length oc, .slice sa t.ss.length sc, .slice ra t.rs.length rc] 62)).alloc (.cells #[.string (strOfNums nm), .int .i64 num, .int .i64 17, .int .i64 ref, .int .i64 lab, .int .i64 one, .int .i64 key] 39)) (w.heap.size + 1 + 1) 39 #[.string (strOfNums nm), .int .i64 num, .int .i64 17, .int .i64 ref, .int .i64 lab, .int .i64 one, .int .i64 key] := (Blk.newAt (by simp))
    have hb0 : Hid (Below w.heap.size w (((w.alloc (.cells #[.slice ta l.length tc] 24)).alloc (.cells #[.string (strOfNums t.name), .bool t.enum, .slice fa t.fs.length fc, .slice oa t.os.length oc, .slice sa t.ss.length sc, .slice ra t.rs.length rc] 62)).alloc (.cells #[.string (strOfNums nm), .int .i64 num, .int .i64 17, .int .i64 ref, .int .i64 lab, .int .i64 one, .int .i64 key] 39))) := hid (by exact blBy)
    generalize (((w.alloc (.cells #[.slice ta l.length tc] 24)).alloc (.cells #[.string (strOfNums t.name), .bool t.enum, .slice fa t.fs.length fc, .slice oa t.os.length oc, .slice sa t.ss.length sc, .slice ra t.rs.length rc] 62)).alloc (.cells #[.string (strOfNums nm), .int .i64 num, .int .i64 17, .int .i64 ref, .int .i64 lab, .int .i64 one, .int .i64 key] 39)) = W at *
    have xa := Ba.cellF
    have za := Ba.lt
    have xb := Bb.cellF
    have zb := Bb.lt
    have xc := Bc.cellF
    have zc := Bc.lt
    clear Ba Bb Bc
    go_region
    go_wp2
    go_ret
    exact ⟨ret_bool (by rw [HD.out, HR.out]; rfl), by have := hb0.out; exact blBy⟩
  by_cases r3 : (l.length : Int) ≤ ref
  case pos =>
    have r2 : (ref < 0) = False := eq_false r1
    have r4 : ((l.length : Int) ≤ ref) = True := eq_true r3
    have HR : Hid (refB l ⟨nm, num, 17, ref, lab, one, key⟩ = false) := hid (by rw [HR0.out, List.getElem?_eq_none (by omega)])
    clear r1 r3 h HR0
    go_enter Tryd.func59, Tryd.ntmps59
    go_wp2
    have Ba : Blk (((w.alloc (.cells #[.slice ta l.length tc] 24)).alloc (.cells #[.string (strOfNums t.name), .bool t.enum, .slice fa t.fs.length fc, .slice oa t.os.length oc, .slice sa t.ss.length sc, .slice ra t.rs.length rc] 62)).alloc (.cells #[.string (strOfNums nm), .int .i64 num, .int .i64 17, .int .i64 ref, .int .i64 lab, .int .i64 one, .int .i64 key] 39)) w.heap.size 24 #[.slice ta l.length tc] := (((Blk.new _ _ _).kept (below_alloc _)).kept (below_alloc _))
    have Bb : Blk (((w.alloc (.cells #[.slice ta l.length tc] 24)).alloc (.cells #[.string (strOfNums t.name), .bool t.enum, .slice fa t.fs.length fc, .slice oa t.os.length oc, .slice sa t.ss.length sc, .slice ra t.rs.length rc] 62)).alloc (.cells #[.string (strOfNums nm), .int .i64 num, .int .i64 17, .int .i64 ref, .int .i64 lab, .int .i64 one, .int .i64 key] 39)) (w.heap.size + 1) 62 #[.string (strOfNums t.name), .bool t.enum, .slice fa t.fs.length fc, .slice oa t.os.length oc, .slice sa t.ss.length sc, .slice ra t.rs.length rc] := ((Blk.newAt (by simp)).kept (below_alloc _))
    have Bc : Blk (((w.alloc (.cells #[.slice ta l.length tc] 24)).alloc (.cells #[.string (strOfNums t.name), .bool t.enum, .slice fa t.fs.length fc, .slice oa t.os.length oc, .slice sa t.ss.length sc, .slice ra t.rs.length rc] 62)).alloc (.cells #[.string (strOfNums nm), .int .i64 num, .int .i64 17, .int .i64 ref, .int .i64 lab, .int .i64 one, .int .i64 key] 39)) (w.heap.size + 1 + 1) 39 #[.string (strOfNums nm), .int .i64 num, .int .i64 17, .int .i64 ref, .int .i64 lab, .int .i64 one, .int .i64 key] := (Blk.newAt (by simp))
    have hb0 : Hid (Below w.heap.size w (((w.alloc (.cells #[.slice ta l.length tc] 24)).alloc (.cells #[.string (strOfNums t.name), .bool t.enum, .slice fa t.fs.length fc, .slice oa t.os.length oc, .slice sa t.ss.length sc, .slice ra t.rs.length rc] 62)).alloc (.cells #[.string (strOfNums nm), .int .i64 num, .int .i64 17, .int .i64 ref, .int .i64 lab, .int .i64 one, .int .i64 key] 39))) := hid (by exact blBy)
    generalize (((w.alloc (.cells #[.slice ta l.length tc] 24)).alloc (.cells #[.string (strOfNums t.name), .bool t.enum, .slice fa t.fs.length fc, .slice oa t.os.length oc, .slice sa t.ss.length sc, .slice ra t.rs.length rc] 62)).alloc (.cells #[.string (strOfNums nm), .int .i64 num, .int .i64 17, .int .i64 ref, .int .i64 lab, .int .i64 one, .int .i64 key] 39)) = W at *
    have xa := Ba.cellF
    have za := Ba.lt
    have xb := Bb.cellF
    have zb := Bb.lt
    have xc := Bc.cellF
    have zc := Bc.lt
    clear Ba Bb Bc
    go_region
    go_wp2
    go_ret
    exact ⟨ret_bool (by rw [HD.out, HR.out]; rfl), by have := hb0.out; exact blBy⟩
  obtain ⟨k, rfl⟩ := Int.eq_ofNat_of_zero_le (show 0 ≤ ref by omega)
  have hkl : k < l.length := by omega
  have r2 : ((k : Int) < 0) = False := eq_false r1
  have r4 : ((l.length : Int) ≤ (k : Int)) = False := eq_false r3
  have r5 : (k : Int) < (l.length : Int) := by omega
  obtain ⟨b, o, rfl, hc⟩ := rowAt (g := cTV) (fun _ => rfl) h.row (i := k) (x := l[k]) (by simp [hkl])
  have c0 : w.cell? ⟨b, o + k * 6 + 1, none⟩ = some (.bool l[k].t.enum) := hc 1 _ rfl
  have HR1 : Hid (refB l ⟨nm, num, 17, (k : Int), lab, one, key⟩ = (l[k].t.enum == false)) := hid (by rw [HR0.out]; simp [hkl])
  clear r1 r3 h HR0 hc
  generalize l[k].t.enum = en at *
  cases en with
  | true =>
    have HR : Hid (refB l ⟨nm, num, 17, (k : Int), lab, one, key⟩ = false) := hid (by rw [HR1.out]; rfl)
    go_enter Tryd.func59, Tryd.ntmps59
    go_wp2
    have Ba : Blk (((w.alloc (.cells #[.slice (some ⟨b, o, none⟩) l.length tc] 24)).alloc (.cells #[.string (strOfNums t.name), .bool t.enum, .slice fa t.fs.length fc, .slice oa t.os.length oc, .slice sa t.ss.length sc, .slice ra t.rs.length rc] 62)).alloc (.cells #[.string (strOfNums nm), .int .i64 num, .int .i64 17, .int .i64 (k : Int), .int .i64 lab, .int .i64 one, .int .i64 key] 39)) w.heap.size 24 #[.slice (some ⟨b, o, none⟩) l.length tc] := (((Blk.new _ _ _).kept (below_alloc _)).kept (below_alloc _))
    have Bb : Blk (((w.alloc (.cells #[.slice (some ⟨b, o, none⟩) l.length tc] 24)).alloc (.cells #[.string (strOfNums t.name), .bool t.enum, .slice fa t.fs.length fc, .slice oa t.os.length oc, .slice sa t.ss.length sc, .slice ra t.rs.length rc] 62)).alloc (.cells #[.string (strOfNums nm), .int .i64 num, .int .i64 17, .int .i64 (k : Int), .int .i64 lab, .int .i64 one, .int .i64 key] 39)) (w.heap.size + 1) 62 #[.string (strOfNums t.name), .bool t.enum, .slice fa t.fs.length fc, .slice oa t.os.length oc, .slice sa t.ss.length sc, .slice ra t.rs.length rc] := ((Blk.newAt (by simp)).kept (below_alloc _))
    have Bc : Blk (((w.alloc (.cells #[.slice (some ⟨b, o, none⟩) l.length tc] 24)).alloc (.cells #[.string (strOfNums t.name), .bool t.enum, .slice fa t.fs.length fc, .slice oa t.os.length oc, .slice sa t.ss.length sc, .slice ra t.rs.length rc] 62)).alloc (.cells #[.string (strOfNums nm), .int .i64 num, .int .i64 17, .int .i64 (k : Int), .int .i64 lab, .int .i64 one, .int .i64 key] 39)) (w.heap.size + 1 + 1) 39 #[.string (strOfNums nm), .int .i64 num, .int .i64 17, .int .i64 (k : Int), .int .i64 lab, .int .i64 one, .int .i64 key] := (Blk.newAt (by simp))
    have hb0 : Hid (Below w.heap.size w (((w.alloc (.cells #[.slice (some ⟨b, o, none⟩) l.length tc] 24)).alloc (.cells #[.string (strOfNums t.name), .bool t.enum, .slice fa t.fs.length fc, .slice oa t.os.length oc, .slice sa t.ss.length sc, .slice ra t.rs.length rc] 62)).alloc (.cells #[.string (strOfNums nm), .int .i64 num, .int .i64 17, .int .i64 (k : Int), .int .i64 lab, .int .i64 one, .int .i64 key] 39))) := hid (by exact blBy)
    have c9 := cell_below c0 hb0.out
    clear c0
    generalize (((w.alloc (.cells #[.slice (some ⟨b, o, none⟩) l.length tc] 24)).alloc (.cells #[.string (strOfNums t.name), .bool t.enum, .slice fa t.fs.length fc, .slice oa t.os.length oc, .slice sa t.ss.length sc, .slice ra t.rs.length rc] 62)).alloc (.cells #[.string (strOfNums nm), .int .i64 num, .int .i64 17, .int .i64 (k : Int), .int .i64 lab, .int .i64 one, .int .i64 key] 39)) = W at *
    have xa := Ba.cellF
    have za := Ba.lt
    have xb := Bb.cellF
    have zb := Bb.lt
    have xc := Bc.cellF
    have zc := Bc.lt
    clear Ba Bb Bc
    have hbl2 : b < W.heap.size := World.block_lt_of_cell? _ _ c9
    go_region
    go_wp2
    go_ret
    exact ⟨ret_bool (by rw [HD.out, HR.out]; rfl), by have := hb0.out; exact blBy⟩
  | false =>
  have HR : Hid (refB l ⟨nm, num, 17, (k : Int), lab, one, key⟩ = true) := hid (by rw [HR1.out]; rfl)
  go_enter Tryd.func59, Tryd.ntmps59
  go_wp2
  have Ba : Blk (((w.alloc (.cells #[.slice (some ⟨b, o, none⟩) l.length tc] 24)).alloc (.cells #[.string (strOfNums t.name), .bool t.enum, .slice fa t.fs.length fc, .slice oa t.os.length oc, .slice sa t.ss.length sc, .slice ra t.rs.length rc] 62)).alloc (.cells #[.string (strOfNums nm), .int .i64 num, .int .i64 17, .int .i64 (k : Int), .int .i64 lab, .int .i64 one, .int .i64 key] 39)) w.heap.size 24 #[.slice (some ⟨b, o, none⟩) l.length tc] := (((Blk.new _ _ _).kept (below_alloc _)).kept (below_alloc _))
  have Bb : Blk (((w.alloc (.cells #[.slice (some ⟨b, o, none⟩) l.length tc] 24)).alloc (.cells #[.string (strOfNums t.name), .bool t.enum, .slice fa t.fs.length fc, .slice oa t.os.length oc, .slice sa t.ss.length sc, .slice ra t.rs.length rc] 62)).alloc (.cells #[.string (strOfNums nm), .int .i64 num, .int .i64 17, .int .i64 (k : Int), .int .i64 lab, .int .i64 one, .int .i64 key] 39)) (w.heap.size + 1) 62 #[.string (strOfNums t.name), .bool t.enum, .slice fa t.fs.length fc, .slice oa t.os.length oc, .slice sa t.ss.length sc, .slice ra t.rs.length rc] := ((Blk.newAt (by simp)).kept (below_alloc _))
  have Bc : Blk (((w.alloc (.cells #[.slice (some ⟨b, o, none⟩) l.length tc] 24)).alloc (.cells #[.string (strOfNums t.name), .bool t.enum, .slice fa t.fs.length fc, .slice oa t.os.length oc, .slice sa t.ss.length sc, .slice ra t.rs.length rc] 62)).alloc (.cells #[.string (strOfNums nm), .int .i64 num, .int .i64 17, .int .i64 (k : Int), .int .i64 lab, .int .i64 one, .int .i64 key] 39)) (w.heap.size + 1 + 1) 39 #[.string (strOfNums nm), .int .i64 num, .int .i64 17, .int .i64 (k : Int), .int .i64 lab, .int .i64 one, .int .i64 key] := (Blk.newAt (by simp))
  have hb0 : Hid (Below w.heap.size w (((w.alloc (.cells #[.slice (some ⟨b, o, none⟩) l.length tc] 24)).alloc (.cells #[.string (strOfNums t.name), .bool t.enum, .slice fa t.fs.length fc, .slice oa t.os.length oc, .slice sa t.ss.length sc, .slice ra t.rs.length rc] 62)).alloc (.cells #[.string (strOfNums nm), .int .i64 num, .int .i64 17, .int .i64 (k : Int), .int .i64 lab, .int .i64 one, .int .i64 key] 39))) := hid (by exact blBy)
  have c9 := cell_below c0 hb0.out
  clear c0
  generalize (((w.alloc (.cells #[.slice (some ⟨b, o, none⟩) l.length tc] 24)).alloc (.cells #[.string (strOfNums t.name), .bool t.enum, .slice fa t.fs.length fc, .slice oa t.os.length oc, .slice sa t.ss.length sc, .slice ra t.rs.length rc] 62)).alloc (.cells #[.string (strOfNums nm), .int .i64 num, .int .i64 17, .int .i64 (k : Int), .int .i64 lab, .int .i64 one, .int .i64 key] 39)) = W at *
  have xa := Ba.cellF
  have za := Ba.lt
  have xb := Bb.cellF
  have zb := Bb.lt
  have xc := Bc.cellF
  have zc := Bc.lt
  clear Ba Bb Bc
  have hbl2 : b < W.heap.size := World.block_lt_of_cell? _ _ c9
  go_region
  have hlab : lab = 0 ∨ lab = 1 ∨ lab = 2 ∨ lab = 3 ∨ lab = 4 ∨ lab = 5 := by omega
  clear m3 m4 l1 l2
  rcases hlab with rfl | rfl | rfl | rfl | rfl | rfl
  · skip
    go_wp2
    go_ret
    exact ⟨ret_bool (by rw [HD.out, HR.out]; simp [labB]), by have := hb0.out; exact blBy⟩
  · skip
    by_cases o1 : one = 0
    case neg =>
      have o2 : (one != 0) = true := by simpa using o1
      replace o1 := hid o1
      go_wp2_with (first | (go_at_call 45; refine (HN.out _).mono ?_; rintro e w1 ⟨rfl, rfl⟩) | (go_at_call 87; refine (HK.out _).mono ?_; rintro e w1 ⟨rfl, rfl⟩))
      go_ret
      exact ⟨ret_bool (by rw [HD.out, HR.out]; simp [oneB, o1.out]), by have := hb0.out; exact blBy⟩
    have o2 : (one != 0) = false := by simpa using o1
    replace o1 := hid o1
    go_wp2_with (first | (go_at_call 45; refine (HN.out _).mono ?_; rintro e w1 ⟨rfl, rfl⟩) | (go_at_call 87; refine (HK.out _).mono ?_; rintro e w1 ⟨rfl, rfl⟩))
    go_ret
    exact ⟨ret_bool (by rw [HD.out, HR.out]; simp [labB, oneB, keyB, o1.out]; by_cases hk : key = 0 <;> simp [hk]), by have := hb0.out; exact blBy⟩
  · skip
    by_cases o1 : one = 0
    case neg =>
      have o2 : (one != 0) = true := by simpa using o1
      replace o1 := hid o1
      go_wp2_with (first | (go_at_call 45; refine (HN.out _).mono ?_; rintro e w1 ⟨rfl, rfl⟩) | (go_at_call 87; refine (HK.out _).mono ?_; rintro e w1 ⟨rfl, rfl⟩))
      go_ret
      exact ⟨ret_bool (by rw [HD.out, HR.out]; simp [oneB, o1.out]), by have := hb0.out; exact blBy⟩
    have o2 : (one != 0) = false := by simpa using o1
    replace o1 := hid o1
    go_wp2_with (first | (go_at_call 45; refine (HN.out _).mono ?_; rintro e w1 ⟨rfl, rfl⟩) | (go_at_call 87; refine (HK.out _).mono ?_; rintro e w1 ⟨rfl, rfl⟩))
    go_ret
    exact ⟨ret_bool (by rw [HD.out, HR.out]; simp [labB, oneB, keyB, o1.out]; by_cases hk : key = 0 <;> simp [hk]), by have := hb0.out; exact blBy⟩
  · skip
    cases q : knum 17 with
    | false =>
      rw [q] at HN
      go_wp2_with (first | (go_at_call 45; refine (HN.out _).mono ?_; rintro e w1 ⟨rfl, rfl⟩) | (go_at_call 87; refine (HK.out _).mono ?_; rintro e w1 ⟨rfl, rfl⟩))
      go_ret
      exact ⟨ret_bool (by rw [HD.out, HR.out]; simp [labB, q]), by have := hb0.out; exact blBy⟩
    | true =>
      rw [q] at HN
      by_cases o1 : one = 0
      case neg =>
        have o2 : (one != 0) = true := by simpa using o1
        replace o1 := hid o1
        go_wp2_with (first | (go_at_call 45; refine (HN.out _).mono ?_; rintro e w1 ⟨rfl, rfl⟩) | (go_at_call 87; refine (HK.out _).mono ?_; rintro e w1 ⟨rfl, rfl⟩))
        go_ret
        exact ⟨ret_bool (by rw [HD.out, HR.out]; simp [oneB, o1.out]), by have := hb0.out; exact blBy⟩
      have o2 : (one != 0) = false := by simpa using o1
      replace o1 := hid o1
      go_wp2_with (first | (go_at_call 45; refine (HN.out _).mono ?_; rintro e w1 ⟨rfl, rfl⟩) | (go_at_call 87; refine (HK.out _).mono ?_; rintro e w1 ⟨rfl, rfl⟩))
      go_ret
      exact ⟨ret_bool (by rw [HD.out, HR.out]; simp [labB, q, oneB, keyB, o1.out]; by_cases hk : key = 0 <;> simp [hk]), by have := hb0.out; exact blBy⟩
  · skip
    by_cases o1 : one < 0
    · have o2 : (one < 0) = True := eq_true o1
      have HO : Hid (one < 0) := hid o1
      clear o1
      go_wp2_with (first | (go_at_call 45; refine (HN.out _).mono ?_; rintro e w1 ⟨rfl, rfl⟩) | (go_at_call 87; refine (HK.out _).mono ?_; rintro e w1 ⟨rfl, rfl⟩))
      go_ret
      exact ⟨ret_bool (by rw [HD.out, HR.out]; have := HO.out; simp [labB, oneB]; intro _ h2; omega), by have := hb0.out; exact blBy⟩
    by_cases o3 : (t.os.length : Int) ≤ one
    · have o2 : (one < 0) = False := eq_false o1
      have o4 : ((t.os.length : Int) ≤ one) = True := eq_true o3
      have HO : Hid ((t.os.length : Int) ≤ one) := hid o3
      clear o1 o3
      go_wp2_with (first | (go_at_call 45; refine (HN.out _).mono ?_; rintro e w1 ⟨rfl, rfl⟩) | (go_at_call 87; refine (HK.out _).mono ?_; rintro e w1 ⟨rfl, rfl⟩))
      go_ret
      exact ⟨ret_bool (by rw [HD.out, HR.out]; have := HO.out; simp [labB, oneB]; intro _ h2; omega), by have := hb0.out; exact blBy⟩
    have o2 : (one < 0) = False := eq_false o1
    have o4 : ((t.os.length : Int) ≤ one) = False := eq_false o3
    have HO : Hid (¬ one < 0 ∧ ¬ (t.os.length : Int) ≤ one) := hid ⟨o1, o3⟩
    clear o1 o3
    go_wp2_with (first | (go_at_call 45; refine (HN.out _).mono ?_; rintro e w1 ⟨rfl, rfl⟩) | (go_at_call 87; refine (HK.out _).mono ?_; rintro e w1 ⟨rfl, rfl⟩))
    go_ret
    exact ⟨ret_bool (by rw [HD.out, HR.out]; have := HO.out; simp [labB, oneB, keyB]; rw [show (decide (0 ≤ one) && decide (one < (t.os.length : Int))) = true by simp; omega]; by_cases hk : key = 0 <;> simp [hk]), by have := hb0.out; exact blBy⟩
  · skip
    by_cases o1 : one = 0
    case neg =>
      have o2 : (one != 0) = true := by simpa using o1
      replace o1 := hid o1
      go_wp2_with (first | (go_at_call 45; refine (HN.out _).mono ?_; rintro e w1 ⟨rfl, rfl⟩) | (go_at_call 87; refine (HK.out _).mono ?_; rintro e w1 ⟨rfl, rfl⟩))
      go_ret
      exact ⟨ret_bool (by rw [HD.out, HR.out]; simp [oneB, o1.out]), by have := hb0.out; exact blBy⟩
    have o2 : (one != 0) = false := by simpa using o1
    replace o1 := hid o1
    go_wp2_with (first | (go_at_call 45; refine (HN.out _).mono ?_; rintro e w1 ⟨rfl, rfl⟩) | (go_at_call 87; refine (HK.out _).mono ?_; rintro e w1 ⟨rfl, rfl⟩))
    go_ret
    exact ⟨ret_bool (by rw [HD.out, HR.out]; simp [labB, oneB, keyB, o1.out]), by have := hb0.out; exact blBy⟩
theorem fieldR (f : FT) (w : World) (l : List TV) (ta : Option Addr) (tc : Nat) (t : TT) (fa oa sa ra : Option Addr) (fc oc sc rc : Nat) (h : TbR w (.slice ta l.length tc) l) (hl : t.os.length ≤ 9223372036854775807) : Calls Tryd.prog 59 #[.agg #[.slice ta l.length tc], .agg #[.string (strOfNums t.name), .bool t.enum, .slice fa t.fs.length fc, .slice oa t.os.length oc, .slice sa t.ss.length sc, .slice ra t.rs.length rc], .agg #[.string (strOfNums f.name), .int .i64 f.num, .int .i64 f.kind, .int .i64 f.ref, .int .i64 f.lab, .int .i64 f.one, .int .i64 f.key]] w fun e w' => e = .returned (.bool (docB l t.os.length f)) ∧ Below w.heap.size w w' := by
  obtain ⟨nm, num, kind, ref, lab, one, key⟩ := f
  dsimp only
  by_cases q0 : num < 1
  case pos =>
    have HX : Hid (docB l t.os.length ⟨nm, num, kind, ref, lab, one, key⟩ = false) := hid (by unfold docB; rw [decide_eq_false (by dsimp only; omega)]; rfl)
    have e0 : (num < 1) = True := eq_true q0
    clear h hl q0
    go_enter Tryd.func59, Tryd.ntmps59
    go_wp2
    go_ret
    exact ⟨ret_bool HX.out.symm, by exact blBy⟩
  by_cases q1 : 536870911 < num
  case pos =>
    have HX : Hid (docB l t.os.length ⟨nm, num, kind, ref, lab, one, key⟩ = false) := hid (by unfold docB; rw [decide_eq_false (by dsimp only; omega)]; rfl)
    have e0 : (num < 1) = False := eq_false q0
    have e1 : (536870911 < num) = True := eq_true q1
    clear h hl q0 q1
    go_enter Tryd.func59, Tryd.ntmps59
    go_wp2
    go_ret
    exact ⟨ret_bool HX.out.symm, by exact blBy⟩
  by_cases q2 : kind < 1
  case pos =>
    have HX : Hid (docB l t.os.length ⟨nm, num, kind, ref, lab, one, key⟩ = false) := hid (by unfold docB fldB; rw [decide_eq_false (p := 1 ≤ _ ∧ _ ≤ 17) (by dsimp only; omega)]; simp)
    have e0 : (num < 1) = False := eq_false q0
    have e1 : (536870911 < num) = False := eq_false q1
    have e2 : (kind < 1) = True := eq_true q2
    clear h hl q0 q1 q2
    go_enter Tryd.func59, Tryd.ntmps59
    go_wp2
    go_ret
    exact ⟨ret_bool HX.out.symm, by exact blBy⟩
  by_cases q3 : 17 < kind
  case pos =>
    have HX : Hid (docB l t.os.length ⟨nm, num, kind, ref, lab, one, key⟩ = false) := hid (by unfold docB fldB; rw [decide_eq_false (p := 1 ≤ _ ∧ _ ≤ 17) (by dsimp only; omega)]; simp)
    have e0 : (num < 1) = False := eq_false q0
    have e1 : (536870911 < num) = False := eq_false q1
    have e2 : (kind < 1) = False := eq_false q2
    have e3 : (17 < kind) = True := eq_true q3
    clear h hl q0 q1 q2 q3
    go_enter Tryd.func59, Tryd.ntmps59
    go_wp2
    go_ret
    exact ⟨ret_bool HX.out.symm, by exact blBy⟩
  by_cases q4 : lab < 0
  case pos =>
    have HX : Hid (docB l t.os.length ⟨nm, num, kind, ref, lab, one, key⟩ = false) := hid (by unfold docB fldB labB; dsimp only; rw [if_neg (by omega), if_neg (by omega), decide_eq_false (p := 0 < lab ∧ lab ≤ 5) (by omega)]; simp)
    have e0 : (num < 1) = False := eq_false q0
    have e1 : (536870911 < num) = False := eq_false q1
    have e2 : (kind < 1) = False := eq_false q2
    have e3 : (17 < kind) = False := eq_false q3
    have e4 : (lab < 0) = True := eq_true q4
    clear h hl q0 q1 q2 q3 q4
    go_enter Tryd.func59, Tryd.ntmps59
    go_wp2
    go_ret
    exact ⟨ret_bool HX.out.symm, by exact blBy⟩
  by_cases q5 : 5 < lab
  case pos =>
    have HX : Hid (docB l t.os.length ⟨nm, num, kind, ref, lab, one, key⟩ = false) := hid (by unfold docB fldB labB; dsimp only; rw [if_neg (by omega), if_neg (by omega), decide_eq_false (p := 0 < lab ∧ lab ≤ 5) (by omega)]; simp)
    have e0 : (num < 1) = False := eq_false q0
    have e1 : (536870911 < num) = False := eq_false q1
    have e2 : (kind < 1) = False := eq_false q2
    have e3 : (17 < kind) = False := eq_false q3
    have e4 : (lab < 0) = False := eq_false q4
    have e5 : (5 < lab) = True := eq_true q5
    clear h hl q0 q1 q2 q3 q4 q5
    go_enter Tryd.func59, Tryd.ntmps59
    go_wp2
    go_ret
    exact ⟨ret_bool HX.out.symm, by exact blBy⟩
  by_cases k1 : kind < 16
  · exact fieldLow nm num kind ref lab one key w l ta tc t fa oa sa ra fc oc sc rc h hl (by omega) (by omega) (by omega) (by omega) (by omega) k1
  by_cases k2 : kind = 16
  · subst k2; exact fieldEnum nm num ref lab one key w l ta tc t fa oa sa ra fc oc sc rc h hl (by omega) (by omega) (by omega) (by omega)
  have k3 : kind = 17 := by omega
  subst k3
  exact fieldMsg nm num ref lab one key w l ta tc t fa oa sa ra fc oc sc rc h hl (by omega) (by omega) (by omega) (by omega)
end Go.Proofs.YtbiohlfcikdldaaDoor
