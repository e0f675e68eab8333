/-
  A field by itself (the document's): messages.
  A field by itself (the document's): whole.
  A type by its name: both answers.
  A name's names (the document's).
-/
import Derived.Test.YtjjhhkmkmempkaaDoorCTY
import Derived.Test.YtjjhhkmkmempkaaDoorCTP
namespace Go.Proofs.YtjjhhkmkmempkaaDoor
open Go.RowKit
set_option maxRecDepth 1000000
set_option linter.unusedVariables false
set_option linter.unusedSimpArgs false
set_option maxHeartbeats 1000000
theorem fieldMsg (nm : List Int) (num ref lab one key : Int) (w : World) (l : List TV) (ta : Option Addr) (tc : Nat) (t : TT) (fa oa sa ra : Option Addr) (fc oc sc rc : Nat) (h : TbR w (.slice ta l.length tc) l) (hl : t.os.length ≤ 9223372036854775807) (n1 : 1 ≤ num) (n2 : num ≤ 536870911) (l1 : 0 ≤ lab) (l2 : lab ≤ 5)  : Calls Tryd.prog 60 #[.agg #[.slice ta l.length tc], .agg #[.string (strOfNums t.name), .bool t.enum, .slice fa t.fs.length fc, .slice oa t.os.length oc, .slice sa t.ss.length sc, .slice ra t.rs.length rc], .agg #[.string (strOfNums nm), .int .i64 num, .int .i64 17, .int .i64 ref, .int .i64 lab, .int .i64 one, .int .i64 key]] w fun e w' => e = .returned (.bool (docB l t.os.length ⟨nm, num, 17, ref, lab, one, key⟩)) ∧ Below w.heap.size w w' := by
  obtain ⟨_, _, e, hn⟩ := rowS_sl h.row
  clear e
  have h63 : (l.length : Int) ≤ 9223372036854775807 := by omega
  have h64 : (t.os.length : Int) ≤ 9223372036854775807 := by omega
  have m1 : (num < 1) = False := eq_false (by omega)
  have m2 : (536870911 < num) = False := eq_false (by omega)
  have m3 : (lab < 0) = False := eq_false (by omega)
  have m4 : (5 < lab) = False := eq_false (by omega)
  have HD : Hid (docB l t.os.length ⟨nm, num, 17, ref, lab, one, key⟩ = (refB l ⟨nm, num, 17, ref, lab, one, key⟩ && (labB ⟨nm, num, 17, ref, lab, one, key⟩ && (oneB t.os.length ⟨nm, num, 17, ref, lab, one, key⟩ && keyB ⟨nm, num, 17, ref, lab, one, key⟩)))) := hid (by unfold docB fldB; rw [decide_eq_true (by dsimp only; omega), decide_eq_true (by dsimp only; omega)]; rfl)
  have HK := hid (isKeyR key)
  have HN := hid (numericR 17)
  clear n1 n2
  have HKX : Hid (¬ (16 : Int) = 17) := hid (by omega)
  have HR0 : Hid (refB l ⟨nm, num, 17, ref, lab, one, key⟩ = (match l[ref.toNat]? with | some x => decide (0 ≤ ref) && (x.t.enum == false) | none => false)) := hid (by unfold refB; rw [if_pos (by simp)]; rfl)
  by_cases r1 : ref < 0
  case pos =>
    have r2 : (ref < 0) = True := eq_true r1
    have HR : Hid (refB l ⟨nm, num, 17, ref, lab, one, key⟩ = false) := hid (by rw [HR0.out]; split <;> simp; intro _; omega)
    clear r1 h HR0
    go_enter Tryd.func60, Tryd.ntmps60
    go_wp2
    have Ba : Blk (((w.alloc (.cells #[.slice ta l.length tc] 24)).alloc (.cells #[.string (strOfNums t.name), .bool t.enum, .slice fa t.fs.length fc, .slice oa t.os.length oc, .slice sa t.ss.length sc, .slice ra t.rs.length rc] 62)).alloc (.cells #[.string (strOfNums nm), .int .i64 num, .int .i64 17, .int .i64 ref, .int .i64 lab, .int .i64 one, .int .i64 key] 39)) w.heap.size 24 #[.slice ta l.length tc] := (((Blk.new _ _ _).kept (below_alloc _)).kept (below_alloc _))
    have Bb : Blk (((w.alloc (.cells #[.slice ta l.length tc] 24)).alloc (.cells #[.string (strOfNums t.name), .bool t.enum, .slice fa t.fs.length fc, .slice oa t.os.length oc, .slice sa t.ss.length sc, .slice ra t.rs.length rc] 62)).alloc (.cells #[.string (strOfNums nm), .int .i64 num, .int .i64 17, .int .i64 ref, .int .i64 lab, .int .i64 one, .int .i64 key] 39)) (w.heap.size + 1) 62 #[.string (strOfNums t.name), .bool t.enum, .slice fa t.fs.length fc, .slice oa t.os.length oc, .slice sa t.ss.length sc, .slice ra t.rs.length rc] := ((Blk.newAt (by simp)).kept (below_alloc _))
    have Bc : Blk (((w.alloc (.cells #[.slice ta l.length tc] 24)).alloc (.cells #[.string (strOfNums t.name), .bool t.enum, .slice fa t.fs.length fc, .slice oa t.os.length oc, .slice sa t.ss.length sc, .slice ra t.rs.length rc] 62)).alloc (.cells #[.string (strOfNums nm), .int .i64 num, .int .i64 17, .int .i64 ref, .int .i64 lab, .int .i64 one, .int .i64 key] 39)) (w.heap.size + 1 + 1) 39 #[.string (strOfNums nm), .int .i64 num, .int .i64 17, .int .i64 ref, .int .i64 lab, .int .i64 one, .int .i64 key] := (Blk.newAt (by simp))
    have hb0 : Hid (Below w.heap.size w (((w.alloc (.cells #[.slice ta l.length tc] 24)).alloc (.cells #[.string (strOfNums t.name), .bool t.enum, .slice fa t.fs.length fc, .slice oa t.os.length oc, .slice sa t.ss.length sc, .slice ra t.rs.length rc] 62)).alloc (.cells #[.string (strOfNums nm), .int .i64 num, .int .i64 17, .int .i64 ref, .int .i64 lab, .int .i64 one, .int .i64 key] 39))) := hid (by exact blBy)
    generalize (((w.alloc (.cells #[.slice ta l.length tc] 24)).alloc (.cells #[.string (strOfNums t.name), .bool t.enum, .slice fa t.fs.length fc, .slice oa t.os.length oc, .slice sa t.ss.length sc, .slice ra t.rs.length rc] 62)).alloc (.cells #[.string (strOfNums nm), .int .i64 num, .int .i64 17, .int .i64 ref, .int .i64 lab, .int .i64 one, .int .i64 key] 39)) = W at *
    have xa := Ba.cellF
    have za := Ba.lt
    have xb := Bb.cellF
    have zb := Bb.lt
    have xc := Bc.cellF
    have zc := Bc.lt
    clear Ba Bb Bc
    go_region
    go_wp2
    go_ret
    exact ⟨ret_bool (by rw [HD.out, HR.out]; rfl), by have := hb0.out; exact blBy⟩
  by_cases r3 : (l.length : Int) ≤ ref
  case pos =>
    have r2 : (ref < 0) = False := eq_false r1
    have r4 : ((l.length : Int) ≤ ref) = True := eq_true r3
    have HR : Hid (refB l ⟨nm, num, 17, ref, lab, one, key⟩ = false) := hid (by rw [HR0.out, List.getElem?_eq_none (by omega)])
    clear r1 r3 h HR0
    go_enter Tryd.func60, Tryd.ntmps60
    go_wp2
    have Ba : Blk (((w.alloc (.cells #[.slice ta l.length tc] 24)).alloc (.cells #[.string (strOfNums t.name), .bool t.enum, .slice fa t.fs.length fc, .slice oa t.os.length oc, .slice sa t.ss.length sc, .slice ra t.rs.length rc] 62)).alloc (.cells #[.string (strOfNums nm), .int .i64 num, .int .i64 17, .int .i64 ref, .int .i64 lab, .int .i64 one, .int .i64 key] 39)) w.heap.size 24 #[.slice ta l.length tc] := (((Blk.new _ _ _).kept (below_alloc _)).kept (below_alloc _))
    have Bb : Blk (((w.alloc (.cells #[.slice ta l.length tc] 24)).alloc (.cells #[.string (strOfNums t.name), .bool t.enum, .slice fa t.fs.length fc, .slice oa t.os.length oc, .slice sa t.ss.length sc, .slice ra t.rs.length rc] 62)).alloc (.cells #[.string (strOfNums nm), .int .i64 num, .int .i64 17, .int .i64 ref, .int .i64 lab, .int .i64 one, .int .i64 key] 39)) (w.heap.size + 1) 62 #[.string (strOfNums t.name), .bool t.enum, .slice fa t.fs.length fc, .slice oa t.os.length oc, .slice sa t.ss.length sc, .slice ra t.rs.length rc] := ((Blk.newAt (by simp)).kept (below_alloc _))
    have Bc : Blk (((w.alloc (.cells #[.slice ta l.length tc] 24)).alloc (.cells #[.string (strOfNums t.name), .bool t.enum, .slice fa t.fs.length fc, .slice oa t.os.length oc, .slice sa t.ss.length sc, .slice ra t.rs.length rc] 62)).alloc (.cells #[.string (strOfNums nm), .int .i64 num, .int .i64 17, .int .i64 ref, .int .i64 lab, .int .i64 one, .int .i64 key] 39)) (w.heap.size + 1 + 1) 39 #[.string (strOfNums nm), .int .i64 num, .int .i64 17, .int .i64 ref, .int .i64 lab, .int .i64 one, .int .i64 key] := (Blk.newAt (by simp))
    have hb0 : Hid (Below w.heap.size w (((w.alloc (.cells #[.slice ta l.length tc] 24)).alloc (.cells #[.string (strOfNums t.name), .bool t.enum, .slice fa t.fs.length fc, .slice oa t.os.length oc, .slice sa t.ss.length sc, .slice ra t.rs.length rc] 62)).alloc (.cells #[.string (strOfNums nm), .int .i64 num, .int .i64 17, .int .i64 ref, .int .i64 lab, .int .i64 one, .int .i64 key] 39))) := hid (by exact blBy)
    generalize (((w.alloc (.cells #[.slice ta l.length tc] 24)).alloc (.cells #[.string (strOfNums t.name), .bool t.enum, .slice fa t.fs.length fc, .slice oa t.os.length oc, .slice sa t.ss.length sc, .slice ra t.rs.length rc] 62)).alloc (.cells #[.string (strOfNums nm), .int .i64 num, .int .i64 17, .int .i64 ref, .int .i64 lab, .int .i64 one, .int .i64 key] 39)) = W at *
    have xa := Ba.cellF
    have za := Ba.lt
    have xb := Bb.cellF
    have zb := Bb.lt
    have xc := Bc.cellF
    have zc := Bc.lt
    clear Ba Bb Bc
    go_region
    go_wp2
    go_ret
    exact ⟨ret_bool (by rw [HD.out, HR.out]; rfl), by have := hb0.out; exact blBy⟩
  obtain ⟨k, rfl⟩ := Int.eq_ofNat_of_zero_le (show 0 ≤ ref by omega)
  have hkl : k < l.length := by omega
  have r2 : ((k : Int) < 0) = False := eq_false r1
  have r4 : ((l.length : Int) ≤ (k : Int)) = False := eq_false r3
  have r5 : (k : Int) < (l.length : Int) := by omega
  obtain ⟨b, o, rfl, hc⟩ := rowAt (g := cTV) (fun _ => rfl) h.row (i := k) (x := l[k]) (by simp [hkl])
  have c0 : w.cell? ⟨b, o + k * 6 + 1, none⟩ = some (.bool l[k].t.enum) := hc 1 _ rfl
  have HR1 : Hid (refB l ⟨nm, num, 17, (k : Int), lab, one, key⟩ = (l[k].t.enum == false)) := hid (by rw [HR0.out]; simp [hkl])
  clear r1 r3 h HR0 hc
  generalize l[k].t.enum = en at *
  cases en with
  | true =>
    have HR : Hid (refB l ⟨nm, num, 17, (k : Int), lab, one, key⟩ = false) := hid (by rw [HR1.out]; rfl)
    go_enter Tryd.func60, Tryd.ntmps60
    go_wp2
    have Ba : Blk (((w.alloc (.cells #[.slice (some ⟨b, o, none⟩) l.length tc] 24)).alloc (.cells #[.string (strOfNums t.name), .bool t.enum, .slice fa t.fs.length fc, .slice oa t.os.length oc, .slice sa t.ss.length sc, .slice ra t.rs.length rc] 62)).alloc (.cells #[.string (strOfNums nm), .int .i64 num, .int .i64 17, .int .i64 (k : Int), .int .i64 lab, .int .i64 one, .int .i64 key] 39)) w.heap.size 24 #[.slice (some ⟨b, o, none⟩) l.length tc] := (((Blk.new _ _ _).kept (below_alloc _)).kept (below_alloc _))
    have Bb : Blk (((w.alloc (.cells #[.slice (some ⟨b, o, none⟩) l.length tc] 24)).alloc (.cells #[.string (strOfNums t.name), .bool t.enum, .slice fa t.fs.length fc, .slice oa t.os.length oc, .slice sa t.ss.length sc, .slice ra t.rs.length rc] 62)).alloc (.cells #[.string (strOfNums nm), .int .i64 num, .int .i64 17, .int .i64 (k : Int), .int .i64 lab, .int .i64 one, .int .i64 key] 39)) (w.heap.size + 1) 62 #[.string (strOfNums t.name), .bool t.enum, .slice fa t.fs.length fc, .slice oa t.os.length oc, .slice sa t.ss.length sc, .slice ra t.rs.length rc] := ((Blk.newAt (by simp)).kept (below_alloc _))
    have Bc : Blk (((w.alloc (.cells #[.slice (some ⟨b, o, none⟩) l.length tc] 24)).alloc (.cells #[.string (strOfNums t.name), .bool t.enum, .slice fa t.fs.length fc, .slice oa t.os.length oc, .slice sa t.ss.length sc, .slice ra t.rs.length rc] 62)).alloc (.cells #[.string (strOfNums nm), .int .i64 num, .int .i64 17, .int .i64 (k : Int), .int .i64 lab, .int .i64 one, .int .i64 key] 39)) (w.heap.size + 1 + 1) 39 #[.string (strOfNums nm), .int .i64 num, .int .i64 17, .int .i64 (k : Int), .int .i64 lab, .int .i64 one, .int .i64 key] := (Blk.newAt (by simp))
    have hb0 : Hid (Below w.heap.size w (((w.alloc (.cells #[.slice (some ⟨b, o, none⟩) l.length tc] 24)).alloc (.cells #[.string (strOfNums t.name), .bool t.enum, .slice fa t.fs.length fc, .slice oa t.os.length oc, .slice sa t.ss.length sc, .slice ra t.rs.length rc] 62)).alloc (.cells #[.string (strOfNums nm), .int .i64 num, .int .i64 17, .int .i64 (k : Int), .int .i64 lab, .int .i64 one, .int .i64 key] 39))) := hid (by exact blBy)
    have c9 := cell_below c0 hb0.out
    clear c0
    generalize (((w.alloc (.cells #[.slice (some ⟨b, o, none⟩) l.length tc] 24)).alloc (.cells #[.string (strOfNums t.name), .bool t.enum, .slice fa t.fs.length fc, .slice oa t.os.length oc, .slice sa t.ss.length sc, .slice ra t.rs.length rc] 62)).alloc (.cells #[.string (strOfNums nm), .int .i64 num, .int .i64 17, .int .i64 (k : Int), .int .i64 lab, .int .i64 one, .int .i64 key] 39)) = W at *
    have xa := Ba.cellF
    have za := Ba.lt
    have xb := Bb.cellF
    have zb := Bb.lt
    have xc := Bc.cellF
    have zc := Bc.lt
    clear Ba Bb Bc
    have hbl2 : b < W.heap.size := World.block_lt_of_cell? _ _ c9
    go_region
    go_wp2
    go_ret
    exact ⟨ret_bool (by rw [HD.out, HR.out]; rfl), by have := hb0.out; exact blBy⟩
  | false =>
  have HR : Hid (refB l ⟨nm, num, 17, (k : Int), lab, one, key⟩ = true) := hid (by rw [HR1.out]; rfl)
  go_enter Tryd.func60, Tryd.ntmps60
  go_wp2
  have Ba : Blk (((w.alloc (.cells #[.slice (some ⟨b, o, none⟩) l.length tc] 24)).alloc (.cells #[.string (strOfNums t.name), .bool t.enum, .slice fa t.fs.length fc, .slice oa t.os.length oc, .slice sa t.ss.length sc, .slice ra t.rs.length rc] 62)).alloc (.cells #[.string (strOfNums nm), .int .i64 num, .int .i64 17, .int .i64 (k : Int), .int .i64 lab, .int .i64 one, .int .i64 key] 39)) w.heap.size 24 #[.slice (some ⟨b, o, none⟩) l.length tc] := (((Blk.new _ _ _).kept (below_alloc _)).kept (below_alloc _))
  have Bb : Blk (((w.alloc (.cells #[.slice (some ⟨b, o, none⟩) l.length tc] 24)).alloc (.cells #[.string (strOfNums t.name), .bool t.enum, .slice fa t.fs.length fc, .slice oa t.os.length oc, .slice sa t.ss.length sc, .slice ra t.rs.length rc] 62)).alloc (.cells #[.string (strOfNums nm), .int .i64 num, .int .i64 17, .int .i64 (k : Int), .int .i64 lab, .int .i64 one, .int .i64 key] 39)) (w.heap.size + 1) 62 #[.string (strOfNums t.name), .bool t.enum, .slice fa t.fs.length fc, .slice oa t.os.length oc, .slice sa t.ss.length sc, .slice ra t.rs.length rc] := ((Blk.newAt (by simp)).kept (below_alloc _))
  have Bc : Blk (((w.alloc (.cells #[.slice (some ⟨b, o, none⟩) l.length tc] 24)).alloc (.cells #[.string (strOfNums t.name), .bool t.enum, .slice fa t.fs.length fc, .slice oa t.os.length oc, .slice sa t.ss.length sc, .slice ra t.rs.length rc] 62)).alloc (.cells #[.string (strOfNums nm), .int .i64 num, .int .i64 17, .int .i64 (k : Int), .int .i64 lab, .int .i64 one, .int .i64 key] 39)) (w.heap.size + 1 + 1) 39 #[.string (strOfNums nm), .int .i64 num, .int .i64 17, .int .i64 (k : Int), .int .i64 lab, .int .i64 one, .int .i64 key] := (Blk.newAt (by simp))
  have hb0 : Hid (Below w.heap.size w (((w.alloc (.cells #[.slice (some ⟨b, o, none⟩) l.length tc] 24)).alloc (.cells #[.string (strOfNums t.name), .bool t.enum, .slice fa t.fs.length fc, .slice oa t.os.length oc, .slice sa t.ss.length sc, .slice ra t.rs.length rc] 62)).alloc (.cells #[.string (strOfNums nm), .int .i64 num, .int .i64 17, .int .i64 (k : Int), .int .i64 lab, .int .i64 one, .int .i64 key] 39))) := hid (by exact blBy)
  have c9 := cell_below c0 hb0.out
  clear c0
  generalize (((w.alloc (.cells #[.slice (some ⟨b, o, none⟩) l.length tc] 24)).alloc (.cells #[.string (strOfNums t.name), .bool t.enum, .slice fa t.fs.length fc, .slice oa t.os.length oc, .slice sa t.ss.length sc, .slice ra t.rs.length rc] 62)).alloc (.cells #[.string (strOfNums nm), .int .i64 num, .int .i64 17, .int .i64 (k : Int), .int .i64 lab, .int .i64 one, .int .i64 key] 39)) = W at *
  have xa := Ba.cellF
  have za := Ba.lt
  have xb := Bb.cellF
  have zb := Bb.lt
  have xc := Bc.cellF
  have zc := Bc.lt
  clear Ba Bb Bc
  have hbl2 : b < W.heap.size := World.block_lt_of_cell? _ _ c9
  go_region
  have hlab : lab = 0 ∨ lab = 1 ∨ lab = 2 ∨ lab = 3 ∨ lab = 4 ∨ lab = 5 := by omega
  clear m3 m4 l1 l2
  rcases hlab with rfl | rfl | rfl | rfl | rfl | rfl
  · skip
    go_wp2
    go_ret
    exact ⟨ret_bool (by rw [HD.out, HR.out]; simp [labB]), by have := hb0.out; exact blBy⟩
  · skip
    by_cases o1 : one = 0
    case neg =>
      have o2 : (one != 0) = true := by simpa using o1
      replace o1 := hid o1
      go_wp2_with (first | (go_at_call 46; refine (HN.out _).mono ?_; rintro e w1 ⟨rfl, rfl⟩) | (go_at_call 85; refine (HK.out _).mono ?_; rintro e w1 ⟨rfl, rfl⟩))
      go_ret
      exact ⟨ret_bool (by rw [HD.out, HR.out]; simp [oneB, o1.out]), by have := hb0.out; exact blBy⟩
    have o2 : (one != 0) = false := by simpa using o1
    replace o1 := hid o1
    go_wp2_with (first | (go_at_call 46; refine (HN.out _).mono ?_; rintro e w1 ⟨rfl, rfl⟩) | (go_at_call 85; refine (HK.out _).mono ?_; rintro e w1 ⟨rfl, rfl⟩))
    go_ret
    exact ⟨ret_bool (by rw [HD.out, HR.out]; simp [labB, oneB, keyB, o1.out]; by_cases hk : key = 0 <;> simp [hk]), by have := hb0.out; exact blBy⟩
  · skip
    by_cases o1 : one = 0
    case neg =>
      have o2 : (one != 0) = true := by simpa using o1
      replace o1 := hid o1
      go_wp2_with (first | (go_at_call 46; refine (HN.out _).mono ?_; rintro e w1 ⟨rfl, rfl⟩) | (go_at_call 85; refine (HK.out _).mono ?_; rintro e w1 ⟨rfl, rfl⟩))
      go_ret
      exact ⟨ret_bool (by rw [HD.out, HR.out]; simp [oneB, o1.out]), by have := hb0.out; exact blBy⟩
    have o2 : (one != 0) = false := by simpa using o1
    replace o1 := hid o1
    go_wp2_with (first | (go_at_call 46; refine (HN.out _).mono ?_; rintro e w1 ⟨rfl, rfl⟩) | (go_at_call 85; refine (HK.out _).mono ?_; rintro e w1 ⟨rfl, rfl⟩))
    go_ret
    exact ⟨ret_bool (by rw [HD.out, HR.out]; simp [labB, oneB, keyB, o1.out]; by_cases hk : key = 0 <;> simp [hk]), by have := hb0.out; exact blBy⟩
  · skip
    cases q : knum 17 with
    | false =>
      rw [q] at HN
      go_wp2_with (first | (go_at_call 46; refine (HN.out _).mono ?_; rintro e w1 ⟨rfl, rfl⟩) | (go_at_call 85; refine (HK.out _).mono ?_; rintro e w1 ⟨rfl, rfl⟩))
      go_ret
      exact ⟨ret_bool (by rw [HD.out, HR.out]; simp [labB, q]), by have := hb0.out; exact blBy⟩
    | true =>
      rw [q] at HN
      by_cases o1 : one = 0
      case neg =>
        have o2 : (one != 0) = true := by simpa using o1
        replace o1 := hid o1
        go_wp2_with (first | (go_at_call 46; refine (HN.out _).mono ?_; rintro e w1 ⟨rfl, rfl⟩) | (go_at_call 85; refine (HK.out _).mono ?_; rintro e w1 ⟨rfl, rfl⟩))
        go_ret
        exact ⟨ret_bool (by rw [HD.out, HR.out]; simp [oneB, o1.out]), by have := hb0.out; exact blBy⟩
      have o2 : (one != 0) = false := by simpa using o1
      replace o1 := hid o1
      go_wp2_with (first | (go_at_call 46; refine (HN.out _).mono ?_; rintro e w1 ⟨rfl, rfl⟩) | (go_at_call 85; refine (HK.out _).mono ?_; rintro e w1 ⟨rfl, rfl⟩))
      go_ret
      exact ⟨ret_bool (by rw [HD.out, HR.out]; simp [labB, q, oneB, keyB, o1.out]; by_cases hk : key = 0 <;> simp [hk]), by have := hb0.out; exact blBy⟩
  · skip
    by_cases o1 : one < 0
    · have o2 : (one < 0) = True := eq_true o1
      have HO : Hid (one < 0) := hid o1
      clear o1
      go_wp2_with (first | (go_at_call 46; refine (HN.out _).mono ?_; rintro e w1 ⟨rfl, rfl⟩) | (go_at_call 85; refine (HK.out _).mono ?_; rintro e w1 ⟨rfl, rfl⟩))
      go_ret
      exact ⟨ret_bool (by rw [HD.out, HR.out]; have := HO.out; simp [labB, oneB]; intro _ h2; omega), by have := hb0.out; exact blBy⟩
    by_cases o3 : (t.os.length : Int) ≤ one
    · have o2 : (one < 0) = False := eq_false o1
      have o4 : ((t.os.length : Int) ≤ one) = True := eq_true o3
      have HO : Hid ((t.os.length : Int) ≤ one) := hid o3
      clear o1 o3
      go_wp2_with (first | (go_at_call 46; refine (HN.out _).mono ?_; rintro e w1 ⟨rfl, rfl⟩) | (go_at_call 85; refine (HK.out _).mono ?_; rintro e w1 ⟨rfl, rfl⟩))
      go_ret
      exact ⟨ret_bool (by rw [HD.out, HR.out]; have := HO.out; simp [labB, oneB]; intro _ h2; omega), by have := hb0.out; exact blBy⟩
    have o2 : (one < 0) = False := eq_false o1
    have o4 : ((t.os.length : Int) ≤ one) = False := eq_false o3
    have HO : Hid (¬ one < 0 ∧ ¬ (t.os.length : Int) ≤ one) := hid ⟨o1, o3⟩
    clear o1 o3
    go_wp2_with (first | (go_at_call 46; refine (HN.out _).mono ?_; rintro e w1 ⟨rfl, rfl⟩) | (go_at_call 85; refine (HK.out _).mono ?_; rintro e w1 ⟨rfl, rfl⟩))
    go_ret
    exact ⟨ret_bool (by rw [HD.out, HR.out]; have := HO.out; simp [labB, oneB, keyB]; rw [show (decide (0 ≤ one) && decide (one < (t.os.length : Int))) = true by simp; omega]; by_cases hk : key = 0 <;> simp [hk]), by have := hb0.out; exact blBy⟩
  · skip
    by_cases o1 : one = 0
    case neg =>
      have o2 : (one != 0) = true := by simpa using o1
      replace o1 := hid o1
      go_wp2_with (first | (go_at_call 46; refine (HN.out _).mono ?_; rintro e w1 ⟨rfl, rfl⟩) | (go_at_call 85; refine (HK.out _).mono ?_; rintro e w1 ⟨rfl, rfl⟩))
      go_ret
      exact ⟨ret_bool (by rw [HD.out, HR.out]; simp [oneB, o1.out]), by have := hb0.out; exact blBy⟩
    have o2 : (one != 0) = false := by simpa using o1
    replace o1 := hid o1
    go_wp2_with (first | (go_at_call 46; refine (HN.out _).mono ?_; rintro e w1 ⟨rfl, rfl⟩) | (go_at_call 85; refine (HK.out _).mono ?_; rintro e w1 ⟨rfl, rfl⟩))
    go_ret
    exact ⟨ret_bool (by rw [HD.out, HR.out]; simp [labB, oneB, keyB, o1.out]), by have := hb0.out; exact blBy⟩
theorem fieldR (f : FT) (w : World) (l : List TV) (ta : Option Addr) (tc : Nat) (t : TT) (fa oa sa ra : Option Addr) (fc oc sc rc : Nat) (h : TbR w (.slice ta l.length tc) l) (hl : t.os.length ≤ 9223372036854775807) : Calls Tryd.prog 60 #[.agg #[.slice ta l.length tc], .agg #[.string (strOfNums t.name), .bool t.enum, .slice fa t.fs.length fc, .slice oa t.os.length oc, .slice sa t.ss.length sc, .slice ra t.rs.length rc], .agg #[.string (strOfNums f.name), .int .i64 f.num, .int .i64 f.kind, .int .i64 f.ref, .int .i64 f.lab, .int .i64 f.one, .int .i64 f.key]] w fun e w' => e = .returned (.bool (docB l t.os.length f)) ∧ Below w.heap.size w w' := by
  obtain ⟨nm, num, kind, ref, lab, one, key⟩ := f
  dsimp only
  by_cases q0 : num < 1
  case pos =>
    have HX : Hid (docB l t.os.length ⟨nm, num, kind, ref, lab, one, key⟩ = false) := hid (by unfold docB; rw [decide_eq_false (by dsimp only; omega)]; rfl)
    have e0 : (num < 1) = True := eq_true q0
    clear h hl q0
    go_enter Tryd.func60, Tryd.ntmps60
    go_wp2
    go_ret
    exact ⟨ret_bool HX.out.symm, by exact blBy⟩
  by_cases q1 : 536870911 < num
  case pos =>
    have HX : Hid (docB l t.os.length ⟨nm, num, kind, ref, lab, one, key⟩ = false) := hid (by unfold docB; rw [decide_eq_false (by dsimp only; omega)]; rfl)
    have e0 : (num < 1) = False := eq_false q0
    have e1 : (536870911 < num) = True := eq_true q1
    clear h hl q0 q1
    go_enter Tryd.func60, Tryd.ntmps60
    go_wp2
    go_ret
    exact ⟨ret_bool HX.out.symm, by exact blBy⟩
  by_cases q2 : kind < 1
  case pos =>
    have HX : Hid (docB l t.os.length ⟨nm, num, kind, ref, lab, one, key⟩ = false) := hid (by unfold docB fldB; rw [decide_eq_false (p := 1 ≤ _ ∧ _ ≤ 17) (by dsimp only; omega)]; simp)
    have e0 : (num < 1) = False := eq_false q0
    have e1 : (536870911 < num) = False := eq_false q1
    have e2 : (kind < 1) = True := eq_true q2
    clear h hl q0 q1 q2
    go_enter Tryd.func60, Tryd.ntmps60
    go_wp2
    go_ret
    exact ⟨ret_bool HX.out.symm, by exact blBy⟩
  by_cases q3 : 17 < kind
  case pos =>
    have HX : Hid (docB l t.os.length ⟨nm, num, kind, ref, lab, one, key⟩ = false) := hid (by unfold docB fldB; rw [decide_eq_false (p := 1 ≤ _ ∧ _ ≤ 17) (by dsimp only; omega)]; simp)
    have e0 : (num < 1) = False := eq_false q0
    have e1 : (536870911 < num) = False := eq_false q1
    have e2 : (kind < 1) = False := eq_false q2
    have e3 : (17 < kind) = True := eq_true q3
    clear h hl q0 q1 q2 q3
    go_enter Tryd.func60, Tryd.ntmps60
    go_wp2
    go_ret
    exact ⟨ret_bool HX.out.symm, by exact blBy⟩
  by_cases q4 : lab < 0
  case pos =>
    have HX : Hid (docB l t.os.length ⟨nm, num, kind, ref, lab, one, key⟩ = false) := hid (by unfold docB fldB labB; dsimp only; rw [if_neg (by omega), if_neg (by omega), decide_eq_false (p := 0 < lab ∧ lab ≤ 5) (by omega)]; simp)
    have e0 : (num < 1) = False := eq_false q0
    have e1 : (536870911 < num) = False := eq_false q1
    have e2 : (kind < 1) = False := eq_false q2
    have e3 : (17 < kind) = False := eq_false q3
    have e4 : (lab < 0) = True := eq_true q4
    clear h hl q0 q1 q2 q3 q4
    go_enter Tryd.func60, Tryd.ntmps60
    go_wp2
    go_ret
    exact ⟨ret_bool HX.out.symm, by exact blBy⟩
  by_cases q5 : 5 < lab
  case pos =>
    have HX : Hid (docB l t.os.length ⟨nm, num, kind, ref, lab, one, key⟩ = false) := hid (by unfold docB fldB labB; dsimp only; rw [if_neg (by omega), if_neg (by omega), decide_eq_false (p := 0 < lab ∧ lab ≤ 5) (by omega)]; simp)
    have e0 : (num < 1) = False := eq_false q0
    have e1 : (536870911 < num) = False := eq_false q1
    have e2 : (kind < 1) = False := eq_false q2
    have e3 : (17 < kind) = False := eq_false q3
    have e4 : (lab < 0) = False := eq_false q4
    have e5 : (5 < lab) = True := eq_true q5
    clear h hl q0 q1 q2 q3 q4 q5
    go_enter Tryd.func60, Tryd.ntmps60
    go_wp2
    go_ret
    exact ⟨ret_bool HX.out.symm, by exact blBy⟩
  by_cases k1 : kind < 16
  · exact fieldLow nm num kind ref lab one key w l ta tc t fa oa sa ra fc oc sc rc h hl (by omega) (by omega) (by omega) (by omega) (by omega) k1
  by_cases k2 : kind = 16
  · subst k2; exact fieldEnum nm num ref lab one key w l ta tc t fa oa sa ra fc oc sc rc h hl (by omega) (by omega) (by omega) (by omega)
  have k3 : kind = 17 := by omega
  subst k3
  exact fieldMsg nm num ref lab one key w l ta tc t fa oa sa ra fc oc sc rc h hl (by omega) (by omega) (by omega) (by omega)
def nameP (nm : List Int) (v : TV) : Bool := decide (v.t.name = nm)
def findI (l : List TV) (nm : List Int) : Int := fnd (nameP nm) l 0
theorem findFn1 (x : TV) (w : World) (p : Nat) (nm : List Int) (hp : Blk w p 9 #[.string (strOfNums nm)]) (hx : TxA x.t.name) (hn : TxA nm) : Calls Tryd.prog 27 #[.agg #[.string (strOfNums x.t.name), .bool x.t.enum, x.f, x.o, x.s, x.r], .pointer (some ⟨p, 0, none⟩)] w fun e w' => e = .returned (.bool (nameP nm x)) ∧ Below w.heap.size w w' := by
  have xp := hp.cellF
  have zp := hp.lt
  have HS := hid (str_eq hx.1 hn.1)
  clear hp
  go_enter Tryd.func27, Tryd.ntmps27
  go_wp2
  go_ret
  exact ⟨ret_bool (by have := HS.out; unfold nameP; rw [← this]), by exact blBy⟩
theorem idxType (l : List TV) (w : World) (a : Option Addr) (c p : Nat) (P : TV → Bool) (h : RowS w AnyZ 6 (.slice a l.length c) l.length (l.flatMap cTV))
    (hc : ∀ x ∈ l, ∀ (W : World), Below w.heap.size w W → Calls Tryd.prog 27 #[.agg #[.string (strOfNums x.t.name), .bool x.t.enum, x.f, x.o, x.s, x.r], .pointer (some ⟨p, 0, none⟩)] W fun e w' => e = .returned (.bool (P x)) ∧ Below W.heap.size W w') : Calls Tryd.prog 26 #[.slice a l.length c, .func (.func 27) #[] #[.pointer (some ⟨p, 0, none⟩)]] w fun e w' => e = .returned (.int .i64 (fnd P l 0)) ∧ Below w.heap.size w w' := by
  obtain ⟨_, _, e, hn⟩ := rowS_sl h
  clear e
  have h1 : (l.length : Int) ≤ 9223372036854775807 := by omega
  have HR := hid h
  have HC := hid hc
  clear h hc
  go_enter Tryd.func26, Tryd.ntmps26
  go_wp2
  go_loopw [8] (fun r wr => ∃ j : Nat, r = .int .i64 j ∧ j ≤ l.length ∧ Hid (fnd P l 0 = fnd P (l.drop j) j) ∧ Hid (Below w.heap.size w wr)) (fun r wr => l.length - numAt wr r)
  case atStart => exact ⟨0, rfl, by omega, hid rfl, hid (Below.refl _ _)⟩
  case round =>
    obtain ⟨j, rfl, hj, hf, hb⟩ := hrel
    by_cases hlt : j < l.length
    · have h2 : (j : Int) < (l.length : Int) := by omega
      obtain ⟨b, o, rfl, hbl, c0, c1, c2, c3, c4, c5⟩ := row6 (HR.out.kept hb.out) hlt
      have HST := hid (fnd_at (p := P) hlt)
      have HCj := hid (HC.out _ (List.getElem_mem hlt))
      clear HC
      generalize l[j] = x at *
      go_wp2_with fail
      refine (HCj.out wr hb.out).mono ?_
      rintro e w1 ⟨rfl, hb1⟩
      have HB1 := hid (bl_then hb.out hb1)
      clear hb1
      cases hq : P x with
      | true =>
        go_wp2
        go_ret
        exact ⟨ret_int (by rw [hf.out, HST.out, hq]; simp), HB1.out⟩
      | false =>
        go_wp2
        exact ⟨⟨j + 1, by simp, by omega, hid (by rw [hf.out, HST.out, hq]; simp), HB1⟩, by simp [numAt]; omega⟩
    · have h2 : ¬ (j : Int) < (l.length : Int) := by omega
      have HE : Hid (fnd P l 0 = -1) := hid (by rw [hf.out, List.drop_of_length_le (by omega)]; rfl)
      go_wp2
      go_ret
      exact ⟨ret_int (by rw [HE.out]), hb.out⟩
/-- What the program's Find answers: an index, an error. -/
def findV (l : List TV) (nm : List Int) : Int × Int := if goodB l = true then (if 0 ≤ findI l nm then (findI l nm, 0) else (0, 20)) else (0, 18)
theorem findT (w : World) (l : List TV) (ta : Option Addr) (tc : Nat) (h : TbR w (.slice ta l.length tc) l) (hk : ∀ x ∈ l, OkV x) (m : Int) (hm : w.cell? ⟨0, 0, none⟩ = some (.int .i64 m)) (nm : List Int) (hn : TxA nm) : Calls Tryd.prog 8 #[.agg #[.slice ta l.length tc], .string (strOfNums nm)] w fun e w' => e = .returned (.tuple #[.int .i64 (findV l nm).1, .int .i64 (findV l nm).2]) ∧ Below w.heap.size w w' := by
  have HT := hid h
  have HK := hid hk
  have HM := hid hm
  have HN := hid hn
  clear h hk hm hn
  have HX : Hid (findV l nm = if goodB l = true then (if 0 ≤ findI l nm then (findI l nm, 0) else (0, 20)) else (0, 18)) := hid rfl
  go_enter Tryd.func8, Tryd.ntmps8
  go_wp2_with fail
  refine (goodT _ l ta tc (HT.out.kept (by exact blBy)) HK.out m (cell_below HM.out (by exact blBy))).mono ?_
  rintro e w1 ⟨rfl, hb1⟩
  have Ca : Blk w1 (w.heap.size) 24 #[.slice ta l.length tc] := Blk.kept (((Blk.newAt (by simp)).kept (below_alloc _)).is (by first | rfl | simp)) hb1
  have Cb : Blk w1 (w.heap.size + 1) 9 #[.string (strOfNums nm)] := Blk.kept ((Blk.newAt (by simp)).is (by first | rfl | simp)) hb1
  have xa := Ca.cellF
  have za := Ca.lt
  have xb := Cb.cellF
  have zb := Cb.lt
  have HB := hid Cb
  replace hb1 : Hid (Below w.heap.size w w1) := hid (bl_then (by exact blBy) hb1)
  clear Ca Cb
  cases q : goodB l with
  | false =>
    have HV : Hid (findV l nm = (0, 18)) := hid (by rw [HX.out, q]; rfl)
    go_wp2
    go_ret2
    exact ⟨by rw [HV.out]; rfl, by have := hb1.out; exact blBy⟩
  | true =>
  go_wp2_with fail
  refine (idxType l _ ta tc (w.heap.size + 1) (nameP nm) (HT.out.row.kept (by have := hb1.out; exact blBy)) (fun x hx W hW => findFn1 x W _ nm (HB.out.kept hW) (HK.out x hx).ok.nm HN.out)).mono ?_
  rintro e w2 ⟨rfl, hb2⟩
  replace hb2 : Hid (Below w.heap.size w w2) := hid (bl_then hb1.out hb2)
  have HI : Hid (findI l nm = fnd (nameP nm) l 0) := hid rfl
  generalize fnd (nameP nm) l 0 = k at *
  by_cases hk : k < 0
  · have HV : Hid (findV l nm = (0, 20)) := hid (by rw [HX.out, q, HI.out, if_pos rfl, if_neg (by omega)])
    go_wp2
    go_ret2
    exact ⟨by rw [HV.out]; rfl, by have := hb2.out; exact blBy⟩
  · have HV : Hid (findV l nm = (k, 0)) := hid (by rw [HX.out, q, HI.out, if_pos rfl, if_pos (by omega)])
    go_wp2
    go_ret2
    exact ⟨by rw [HV.out]; rfl, by have := hb2.out; exact blBy⟩
theorem findR (w : World) (l : List TV) (ta : Option Addr) (tc : Nat) (h : TbR w (.slice ta l.length tc) l) (hk : ∀ x ∈ l, TxA x.t.name) (nm : List Int) (hn : TxA nm) : Calls Tryd.prog 16 #[.agg #[.slice ta l.length tc], .string (strOfNums nm)] w fun e w' => e = .returned (.int .i64 (findI l nm)) ∧ Below w.heap.size w w' := by
  obtain ⟨_, _, e, hn2⟩ := rowS_sl h.row
  clear e
  have h1 : (l.length : Int) ≤ 9223372036854775807 := by omega
  have HT := hid h
  have HK := hid hk
  have HN := hid hn
  clear h hk hn
  go_enter Tryd.func16, Tryd.ntmps16
  go_wp2
  go_loopw [5] (fun r wr => ∃ j : Nat, r = .int .i64 j ∧ j ≤ l.length ∧ Hid (findI l nm = fnd (nameP nm) (l.drop j) j) ∧ Hid (Blk wr w.heap.size 24 #[.slice ta l.length tc]) ∧ Hid (Below w.heap.size w wr)) (fun r wr => l.length - numAt wr r)
  case atStart => exact ⟨0, rfl, by omega, hid rfl, hid (Blk.new _ _ _), hid (by exact blBy)⟩
  case round =>
    obtain ⟨j, rfl, hj, hf, BX, hb⟩ := hrel
    have xb := BX.out.cellF
    have zb := BX.out.lt
    by_cases hlt : j < l.length
    · have h2 : (j : Int) < (l.length : Int) := by omega
      obtain ⟨b, o, rfl, hbl, c0, -⟩ := row6 (HT.out.row.kept hb.out) hlt
      have HST := hid (fnd_at (p := nameP nm) hlt)
      have HS := hid (str_eq (HK.out _ (List.getElem_mem hlt)).1 HN.out.1)
      clear HK
      generalize l[j] = x at *
      have hs := HS.out
      by_cases hq : x.t.name = nm
      · rw [decide_eq_true hq] at hs
        have HQ : Hid (nameP nm x = true) := hid (by unfold nameP; exact decide_eq_true hq)
        replace hq := hid hq
        go_wp2
        go_ret
        exact ⟨ret_int (by rw [hf.out, HST.out, HQ.out]; simp), by have := hb.out; exact blBy⟩
      · rw [decide_eq_false hq] at hs
        have HQ : Hid (nameP nm x = false) := hid (by unfold nameP; exact decide_eq_false hq)
        replace hq := hid hq
        go_wp2
        exact ⟨⟨j + 1, by simp, by omega, hid (by rw [hf.out, HST.out, HQ.out]; simp), BX, hid (by have := hb.out; exact blBy)⟩, by simp [numAt]; omega⟩
    · have h2 : ¬ (j : Int) < (l.length : Int) := by omega
      have HE : Hid (findI l nm = -1) := hid (by rw [hf.out, List.drop_of_length_le (by omega)]; rfl)
      go_wp2
      go_ret
      exact ⟨ret_int (by rw [HE.out]), by have := hb.out; exact blBy⟩
theorem cutI_none : ∀ (l : List Int), (∀ c ∈ l, c ≠ 46) → cutI l = [l]
  | [], _ => rfl
  | c :: r, h => by
    rw [cutI, if_neg (h c (by simp)), cutI_none r (fun c hc => h c (by simp [hc]))]
    rfl
theorem cutI_at : ∀ (a b : List Int), (∀ c ∈ a, c ≠ 46) → cutI (a ++ 46 :: b) = a :: cutI b
  | [], b, _ => by simp [cutI]
  | c :: r, b, h => by
    rw [List.cons_append, cutI, if_neg (h c (by simp)), cutI_at r b (fun c hc => h c (by simp [hc]))]
    rfl
/-- While it is cut: P stands, from fr on there is no dot up to i. -/
structure Cut (xs : List Int) (P : List (List Int)) (fr i : Nat) : Prop where
  is : cutI xs = P ++ cutI (xs.drop fr)
  le : fr ≤ i
  no : ∀ c ∈ (xs.take i).drop fr, c ≠ 46
  few : P.length ≤ i
theorem Cut.start (xs : List Int) : Cut xs [] 0 0 := ⟨by simp, by omega, by simp, by simp⟩
theorem Cut.step {xs : List Int} {P : List (List Int)} {fr i : Nat} (h : Cut xs P fr i) (hi : i < xs.length) (hx : xs[i] ≠ 46) : Cut xs P fr (i + 1) := by
  refine ⟨h.is, by have := h.le; omega, fun c hc => ?_, by have := h.few; omega⟩
  rw [List.take_succ_eq_append_getElem hi, List.drop_append_of_le_length (by simp; have := h.le; omega)] at hc
  rcases List.mem_append.1 hc with q | q
  · exact h.no c q
  · simp at q; subst q; exact hx
theorem Cut.dot {xs : List Int} {P : List (List Int)} {fr i : Nat} (h : Cut xs P fr i) (hi : i < xs.length) (hx : xs[i] = 46) : Cut xs (P ++ [(xs.take i).drop fr]) (i + 1) (i + 1) := by
  refine ⟨?_, by omega, by simp, by have := h.few; simp; omega⟩
  have e : xs.drop fr = (xs.take i).drop fr ++ 46 :: xs.drop (i + 1) := by
    have e1 : xs = xs.take i ++ 46 :: xs.drop (i + 1) := by rw [← hx, List.getElem_cons_drop, List.take_append_drop]
    conv => lhs; rw [e1]
    rw [List.drop_append_of_le_length (by simp; have := h.le; omega)]
  rw [h.is, e, cutI_at _ _ h.no, List.append_assoc]
  rfl
theorem Cut.fin {xs : List Int} {P : List (List Int)} {fr : Nat} (h : Cut xs P fr xs.length) : P ++ [(xs.take xs.length).drop fr] = cutI xs := by
  rw [h.is, List.take_length, cutI_none]
  have := h.no
  rw [List.take_length] at this
  exact this
theorem partsR (xs : List Int) (w : World) (hb : ∀ c ∈ xs, 0 ≤ c ∧ c ≤ 255) (hl : xs.length < 4000000) : Calls Tryd.prog 58 #[.string (strOfNums xs)] w fun e w' => (∃ a c, e = .returned (.slice a (cutI xs).length c) ∧ Hid (RowS w' AnyZ 1 (.slice a (cutI xs).length c) (cutI xs).length ((cutI xs).flatMap cN))) ∧ Below w.heap.size w w' := by
  have HB := hid hb
  have HSZ : (strOfNums xs).size = xs.length := strOfNums_size xs
  have h63 : (xs.length : Int) ≤ 9223372036854775807 := by omega
  clear hb
  go_enter Tryd.func58, Tryd.ntmps58
  go_wp2
  go_loopw [3, 4, 5] (fun v f r wr => ∃ (i fr : Nat) (P : List (List Int)) (va : Option Addr) (vc : Nat), v = .slice va P.length vc ∧ f = .int .i64 fr ∧ r = .int .i64 i ∧ i ≤ xs.length + 1 ∧ Hid ((i ≤ xs.length ∧ Cut xs P fr i) ∨ (i = xs.length + 1 ∧ P = cutI xs)) ∧ Hid (wr.ownsRow w.heap.size 9 1 (.slice va P.length vc) P.length (P.flatMap cN)) ∧ Hid (Below w.heap.size w wr)) (fun _ _ r wr => xs.length + 1 - numAt wr r)
  case atStart => exact ⟨0, 0, [], none, 0, rfl, rfl, rfl, by omega, hid (.inl ⟨by omega, Cut.start xs⟩), hid (World.ownsRow_nil _ _ _ _), hid (Below.refl _ _)⟩
  case round =>
    obtain ⟨i, fr, P, va, vc, rfl, rfl, rfl, hi, HC, HV, hb⟩ := hrel
    rcases HC.out with ⟨hil, hc⟩ | ⟨he, hp⟩
    case inr =>
      subst hp
      have h2 : ¬ (i : Int) ≤ (xs.length : Int) := by omega
      have h3 : ((i : Int) ≤ (xs.length : Int)) = False := eq_false h2
      clear he HC
      go_wp2
      go_ret
      exact ⟨⟨va, vc, rfl, hid (own_row HV.out (fun _ _ => trivial))⟩, hb.out⟩
    have h2 : (i : Int) ≤ (xs.length : Int) := by omega
    have hfr : fr ≤ i := hc.le
    have hfew : P.length ≤ i := hc.few
    have hfr2 : (fr : Int) ≤ (i : Int) := by omega
    have HS : Hid ((strOfNums xs).extract fr i = strOfNums ((xs.take i).drop fr)) := hid (str_cut xs fr i)
    obtain ⟨la, lc, x1, HRUN, HV1, HG1⟩ := appendSt w.heap.size (.slice va P.length vc) P ((xs.take i).drop fr) wr HV.out hb.out.size (by omega)
    rw [← HS.out] at HRUN
    have hb1 : Hid (Below w.heap.size w x1) := hid (hb.out.trans (grow_bel HG1.out HV.out (Nat.le_refl _) hb.out.size))
    have HL : Hid ((P ++ [(xs.take i).drop fr]).length = P.length + 1) := hid (by simp)
    have HC1 := hid hc
    clear hc HC HG1 HS
    by_cases hlt : i < xs.length
    case neg =>
      have ei : i = xs.length := by omega
      have k1 : ((i : Int) == (xs.length : Int)) = true := by simp [ei]
      have HE : Hid (P ++ [(xs.take i).drop fr] = cutI xs) := hid (by subst ei; exact HC1.out.fin)
      have hi2 : i + 1 = xs.length + 1 := by omega
      replace hi2 := hid hi2
      clear hlt ei
      go_wp2_with (first | (at_builtin; refine wpList_append_ran rfl _ _ 59 59 rfl rfl _ _ (.slice la (P.length + 1) lc) x1 rfl rfl HRUN.out ?_))
      exact ⟨⟨i + 1, i + 1, P ++ [(xs.take i).drop fr], la, lc, by rw [HL.out], by simp, by simp, by omega, hid (.inr ⟨hi2.out, HE.out⟩), hid (by have := HV1.out; rw [← HL.out] at this; exact this), hb1⟩, by simp [numAt]; omega⟩
    have hlt2 : (i : Int) < (xs.length : Int) := by omega
    have k1 : ((i : Int) == (xs.length : Int)) = false := by rw [beq_eq_false_iff_ne]; omega
    have hix := index_str HB.out i hlt .i64
    have e1 : xs[i]?.getD 0 = xs[i] := by simp [hlt]
    rw [e1] at hix
    by_cases hd : xs[i] = 46
    · have HN := hid (HC1.out.dot hlt hd)
      rw [hd] at hix
      clear e1 hd
      go_wp2_with (first | (at_builtin; refine wpList_append_ran rfl _ _ 59 59 rfl rfl _ _ (.slice la (P.length + 1) lc) x1 rfl rfl HRUN.out ?_))
      exact ⟨⟨i + 1, i + 1, P ++ [(xs.take i).drop fr], la, lc, by rw [HL.out], by simp, by simp, by omega, hid (.inl ⟨by omega, HN.out⟩), hid (by have := HV1.out; rw [← HL.out] at this; exact this), hb1⟩, by simp [numAt]; omega⟩
    · have HN := hid (HC1.out.step hlt hd)
      have k2 : (xs[i] == 46) = false := by simpa using hd
      clear e1 hd HRUN
      generalize xs[i] = d at hix k2
      go_wp2
      exact ⟨⟨i + 1, fr, P, va, vc, rfl, rfl, by simp, by omega, hid (.inl ⟨by omega, HN.out⟩), HV, hb⟩, by simp [numAt]; omega⟩
end Go.Proofs.YtjjhhkmkmempkaaDoor
