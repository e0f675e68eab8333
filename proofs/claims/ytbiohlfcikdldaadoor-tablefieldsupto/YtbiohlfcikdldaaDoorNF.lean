/-
  A message's type (the document's).
-/
import Derived.Test.YtbiohlfcikdldaaDoorCND
import Derived.Test.YtbiohlfcikdldaaDoorCNA2
import Derived.Test.YtbiohlfcikdldaaDoorCTY
import Derived.Deep.CutRange
import Derived.Deep.RegionHeld3
namespace Go.Proofs.YtbiohlfcikdldaaDoor
open Go.RowKit
set_option maxRecDepth 1000000
set_option linter.unusedVariables false
set_option linter.unusedSimpArgs false
set_option maxHeartbeats 10000000
theorem messageR (w : World) (l : List TV) (ta : Option Addr) (tc : Nat) (t : TT) (fa oa sa ra : Option Addr) (fc oc sc rc : Nat) (h : TbR w (.slice ta l.length tc) l) (hx : TyR w ⟨t, .slice fa t.fs.length fc, .slice oa t.os.length oc, .slice sa t.ss.length sc, .slice ra t.rs.length rc⟩) (hk : OkT t) : Calls Tryd.prog 41 #[.agg #[.slice ta l.length tc], .agg #[.string (strOfNums t.name), .bool t.enum, .slice fa t.fs.length fc, .slice oa t.os.length oc, .slice sa t.ss.length sc, .slice ra t.rs.length rc]] w fun e w' => e = .returned (.bool (msgD l t)) ∧ Below w.heap.size w w' := by
  have HX : Hid (msgD l t = (cntB t && (memA t.fs t.os.length 0 && (flA l t.os.length t.rs t.fs 0 t.fs && (nmsA [] (t.os ++ t.fs.map FT.name) && rgA t.rs 0 t.rs))))) := hid rfl
  generalize msgD l t = res at *
  obtain ⟨_, _, e, hns⟩ := rowS_sl hx.s
  clear e
  dsimp only at hns
  have h63s : (t.ss.length : Int) ≤ 9223372036854775807 := by omega
  obtain ⟨_, _, e, hnf⟩ := rowS_sl hx.f
  clear e
  dsimp only at hnf
  have h63f : (t.fs.length : Int) ≤ 9223372036854775807 := by omega
  obtain ⟨_, _, e, hno⟩ := rowS_sl hx.o
  clear e
  dsimp only at hno
  have h63o : (t.os.length : Int) ≤ 9223372036854775807 := by omega
  obtain ⟨_, _, e, hnr⟩ := rowS_sl hx.r
  clear e
  dsimp only at hnr
  have h63r : (t.rs.length : Int) ≤ 9223372036854775807 := by omega
  have HT := hid h
  have HF := hid hx.f
  have HO := hid hx.o
  have HR := hid hx.r
  dsimp only at HF HO HR
  have HKF := hid hk.fs
  have HKO := hid hk.os
  clear hx hk h
  by_cases q0 : 0 < t.ss.length
  case pos =>
    have k0 : ((0 : Int) < (t.ss.length : Int)) = True := eq_true (by omega)
    have HE : Hid (res = false) := hid (by rw [HX.out, show cntB t = false from decide_eq_false (by omega)]; rfl)
    go_enter Tryd.func41, Tryd.ntmps41
    go_wp2
    go_ret
    exact ⟨ret_bool HE.out.symm, by exact blBy⟩
  have k0 : ((0 : Int) < (t.ss.length : Int)) = False := eq_false (by omega)
  by_cases q1 : 128 < t.fs.length
  case pos =>
    have k1 : ((128 : Int) < (t.fs.length : Int)) = True := eq_true (by omega)
    have HE : Hid (res = false) := hid (by rw [HX.out, show cntB t = false from decide_eq_false (by omega)]; rfl)
    go_enter Tryd.func41, Tryd.ntmps41
    go_wp2
    go_ret
    exact ⟨ret_bool HE.out.symm, by exact blBy⟩
  have k1 : ((128 : Int) < (t.fs.length : Int)) = False := eq_false (by omega)
  by_cases q2 : 128 < t.rs.length
  case pos =>
    have k2 : ((128 : Int) < (t.rs.length : Int)) = True := eq_true (by omega)
    have HE : Hid (res = false) := hid (by rw [HX.out, show cntB t = false from decide_eq_false (by omega)]; rfl)
    go_enter Tryd.func41, Tryd.ntmps41
    go_wp2
    go_ret
    exact ⟨ret_bool HE.out.symm, by exact blBy⟩
  have k2 : ((128 : Int) < (t.rs.length : Int)) = False := eq_false (by omega)
  by_cases q3 : t.fs.length < t.os.length
  case pos =>
    have k3 : ((t.fs.length : Int) < (t.os.length : Int)) = True := eq_true (by omega)
    have HE : Hid (res = false) := hid (by rw [HX.out, show cntB t = false from decide_eq_false (by omega)]; rfl)
    go_enter Tryd.func41, Tryd.ntmps41
    go_wp2
    go_ret
    exact ⟨ret_bool HE.out.symm, by exact blBy⟩
  have k3 : ((t.fs.length : Int) < (t.os.length : Int)) = False := eq_false (by omega)
  replace HX := hid (show res = (memA t.fs t.os.length 0 && (flA l t.os.length t.rs t.fs 0 t.fs && (nmsA [] (t.os ++ t.fs.map FT.name) && rgA t.rs 0 t.rs))) by rw [HX.out, show cntB t = true from decide_eq_true (by omega)]; rfl)
  go_enter Tryd.func41, Tryd.ntmps41
  go_wp2
  have Ba : Blk ((w.alloc (.cells #[.slice ta l.length tc] 24)).alloc (.cells #[.string (strOfNums t.name), .bool t.enum, .slice fa t.fs.length fc, .slice oa t.os.length oc, .slice sa t.ss.length sc, .slice ra t.rs.length rc] 62)) w.heap.size 24 #[.slice ta l.length tc] := ((Blk.new _ _ _).kept (below_alloc _))
  have Bb : Blk ((w.alloc (.cells #[.slice ta l.length tc] 24)).alloc (.cells #[.string (strOfNums t.name), .bool t.enum, .slice fa t.fs.length fc, .slice oa t.os.length oc, .slice sa t.ss.length sc, .slice ra t.rs.length rc] 62)) (w.heap.size + 1) 62 #[.string (strOfNums t.name), .bool t.enum, .slice fa t.fs.length fc, .slice oa t.os.length oc, .slice sa t.ss.length sc, .slice ra t.rs.length rc] := (Blk.newAt (by simp))
  have hb0 : Hid (Below w.heap.size w ((w.alloc (.cells #[.slice ta l.length tc] 24)).alloc (.cells #[.string (strOfNums t.name), .bool t.enum, .slice fa t.fs.length fc, .slice oa t.os.length oc, .slice sa t.ss.length sc, .slice ra t.rs.length rc] 62))) := hid (by exact blBy)
  generalize ((w.alloc (.cells #[.slice ta l.length tc] 24)).alloc (.cells #[.string (strOfNums t.name), .bool t.enum, .slice fa t.fs.length fc, .slice oa t.os.length oc, .slice sa t.ss.length sc, .slice ra t.rs.length rc] 62)) = W0 at *
  clear q0 k0 k1 k2 k3
  go_loopw [5, 6] (fun v r wr => ∃ (i : Nat) (na : Option Addr) (nc : Nat), v = .slice na i nc ∧ r = .int .i64 i ∧ i ≤ t.os.length ∧ Hid (res = (memA t.fs (t.os.length - i) i && (flA l t.os.length t.rs t.fs 0 t.fs && (nmsA [] (t.os ++ t.fs.map FT.name) && rgA t.rs 0 t.rs)))) ∧ Hid (wr.ownsRow w.heap.size 9 1 (.slice na i nc) (t.os.take i).length ((t.os.take i).flatMap cN)) ∧ Hid (Blk wr w.heap.size 24 #[.slice ta l.length tc]) ∧ Hid (Blk wr (w.heap.size + 1) 62 #[.string (strOfNums t.name), .bool t.enum, .slice fa t.fs.length fc, .slice oa t.os.length oc, .slice sa t.ss.length sc, .slice ra t.rs.length rc]) ∧ Hid (Below w.heap.size w wr)) (fun _ r wr => t.os.length - numAt wr r)
  case atStart => exact ⟨0, none, 0, rfl, rfl, by omega, HX, hid (World.ownsRow_nil _ _ _ _), hid Ba, hid Bb, hb0⟩
  case round =>
    clear HX Ba Bb hb0
    obtain ⟨i, na, nc, rfl, rfl, hi, HX, HV, Ba, Bb, hb⟩ := hrel
    have xa := Ba.out.cellF
    have za := Ba.out.lt
    have xb := Bb.out.cellF
    have zb := Bb.out.lt
    by_cases hlt : i < t.os.length
    case pos =>
      have h2 : (i : Int) < (t.os.length : Int) := by omega
      obtain ⟨ob, oo, rfl, hc⟩ := rowAt (g := cN) (fun _ => rfl) (HO.out.kept hb.out) (i := i) (x := t.os[i]) (by simp [hlt])
      have c0 : wr.cell? ⟨ob, oo + i, none⟩ = some (.string (strOfNums t.os[i])) := by have := hc 0 _ rfl; simpa using this
      have hbl : ob < wr.heap.size := World.block_lt_of_cell? _ _ c0
      have HTK : Hid (t.os.take (i + 1) = t.os.take i ++ [t.os[i]]) := hid (List.take_succ_eq_append_getElem hlt)
      have HLN : Hid ((t.os.take i).length = i) := hid (by simp; omega)
      have HST : Hid (memA t.fs (t.os.length - i) i = (t.fs.any (memP i) && memA t.fs (t.os.length - (i + 1)) (i + 1))) := hid (by rw [show t.os.length - i = (t.os.length - (i + 1)) + 1 by omega]; rfl)
      rw [HST.out] at HX
      clear HST hc
      generalize t.os[i] = s at *
      obtain ⟨la, lc, x1, HRUN, HV1, HG1⟩ := appendSt w.heap.size (.slice na i nc) (t.os.take i) s wr HV.out hb.out.size (by have := HLN.out; omega)
      rw [HLN.out] at HRUN HV1 HG1
      have hb1 : Hid (Below w.heap.size w x1) := hid (hb.out.trans (grow_bel HG1.out HV.out (Nat.le_refl _) hb.out.size))
      have Ba1 := hid (grow_blk HG1.out HV.out Ba.out (by decide))
      have Bb1 := hid (grow_blk HG1.out HV.out Bb.out (by decide))
      go_wp2_with (first | (at_builtin; refine wpList_append_ran rfl _ _ 59 59 rfl rfl _ _ (.slice la (i + 1) lc) x1 rfl rfl HRUN.out ?_))
      clear HRUN HV HG1 hb Ba Bb xa za xb zb c0 hbl
      go_loopw [7, 8] (fun h r wr => ∃ j : Nat, h = .bool ((t.fs.take j).any (memP i)) ∧ r = .int .i64 j ∧ j ≤ t.fs.length ∧ wr = x1) (fun _ r wr => t.fs.length - numAt wr r)
      case atStart => exact ⟨0, rfl, rfl, by omega, rfl⟩
      case round =>
        obtain ⟨j, rfl, rfl, hj, rfl⟩ := hrel
        have xa := Ba1.out.cellF
        have za := Ba1.out.lt
        have xb := Bb1.out.cellF
        have zb := Bb1.out.lt
        by_cases hlt2 : j < t.fs.length
        case pos =>
          have h3 : (j : Int) < (t.fs.length : Int) := by omega
          obtain ⟨fb, fo, rfl, hbl, c0, c1, c2, c3, c4, c5, c6⟩ := row7 (HF.out.kept hb1.out) hlt2
          clear c0 c1 c2 c3 c6
          have HA := hid (takeG_any (p := memP i) hlt2)
          generalize t.fs[j] = f at *
          cases hh : (t.fs.take j).any (memP i) with
          | true =>
            go_wp2
            exact ⟨⟨j + 1, by rw [HA.out, hh]; rfl, by simp, by omega, by first | rfl | trivial⟩, by simp [numAt]; omega⟩
          | false =>
            by_cases e4 : f.lab = 4
            · have k4 : (f.lab == 4) = true := by simpa using e4
              have HM : Hid (memP i f = (f.one == (i : Int))) := hid (by unfold memP; rw [decide_eq_true e4]; rfl)
              replace e4 := hid e4
              go_wp2
              exact ⟨⟨j + 1, by rw [HA.out, hh, HM.out]; rfl, by simp, by omega, by first | rfl | trivial⟩, by simp [numAt]; omega⟩
            · have k4 : (f.lab == 4) = false := by simpa using e4
              have HM : Hid (memP i f = false) := hid (by unfold memP; rw [decide_eq_false e4]; rfl)
              replace e4 := hid e4
              go_wp2
              exact ⟨⟨j + 1, by rw [HA.out, hh, HM.out]; rfl, by simp, by omega, by first | rfl | trivial⟩, by simp [numAt]; omega⟩
        have h3 : ¬ (j : Int) < (t.fs.length : Int) := by omega
        have ej : t.fs.take j = t.fs := List.take_of_length_le (by omega)
        rw [ej]
        cases hh : t.fs.any (memP i) with
        | false =>
          have HE : Hid (res = false) := hid (by rw [HX.out, hh]; rfl)
          go_wp2
          go_ret
          exact ⟨ret_bool HE.out.symm, hb1.out⟩
        | true =>
          rw [hh] at HX
          go_wp2
          exact ⟨⟨i + 1, la, lc, rfl, by simp, by omega, hid (by rw [HX.out]; simp), hid (by rw [HTK.out]; exact HV1.out), Ba1, Bb1, hb1⟩, by simp [numAt]; omega⟩
    have h2 : ¬ (i : Int) < (t.os.length : Int) := by omega
    have ei : i = t.os.length := by omega
    have e1 : t.os.take i = t.os := List.take_of_length_le (by omega)
    rw [e1] at HV
    subst ei
    replace HX := hid (show res = (flA l t.os.length t.rs t.fs 0 t.fs && (nmsA [] (t.os ++ t.fs.map FT.name) && rgA t.rs 0 t.rs)) by rw [HX.out, Nat.sub_self]; rfl)
    clear e1 hi hlt h2
    go_wp2
    go_loopw [5, 9] (fun v r wr => ∃ (i : Nat) (na : Option Addr) (nc : Nat), v = .slice na (t.os.length + i) nc ∧ r = .int .i64 i ∧ i ≤ t.fs.length ∧ Hid (res = (flA l t.os.length t.rs t.fs i (t.fs.drop i) && (nmsA [] (t.os ++ t.fs.map FT.name) && rgA t.rs 0 t.rs))) ∧ Hid (wr.ownsRow w.heap.size 9 1 (.slice na (t.os.length + i) nc) (t.os ++ (t.fs.take i).map FT.name).length ((t.os ++ (t.fs.take i).map FT.name).flatMap cN)) ∧ Hid (Blk wr w.heap.size 24 #[.slice ta l.length tc]) ∧ Hid (Blk wr (w.heap.size + 1) 62 #[.string (strOfNums t.name), .bool t.enum, .slice fa t.fs.length fc, .slice oa t.os.length oc, .slice sa t.ss.length sc, .slice ra t.rs.length rc]) ∧ Hid (Below w.heap.size w wr)) (fun _ r wr => t.fs.length - numAt wr r)
    case atStart => exact ⟨0, na, nc, rfl, rfl, by omega, HX, hid (by have := HV.out; simpa using this), Ba, Bb, hb⟩
    case round =>
      clear HX HV Ba Bb hb xa za xb zb
      obtain ⟨i, na, nc, rfl, rfl, hi, HX, HV, Ba, Bb, hb⟩ := hrel
      have xa := Ba.out.cellF
      have za := Ba.out.lt
      have xb := Bb.out.cellF
      have zb := Bb.out.lt
      by_cases hlt : i < t.fs.length
      case pos =>
        have h2 : (i : Int) < (t.fs.length : Int) := by omega
        obtain ⟨fb, fo, rfl, hbl, c0, c1, c2, c3, c4, c5, c6⟩ := row7 (HF.out.kept hb.out) hlt
        have HTK : Hid (t.fs.take (i + 1) = t.fs.take i ++ [t.fs[i]]) := hid (List.take_succ_eq_append_getElem hlt)
        have HLN : Hid ((t.os ++ (t.fs.take i).map FT.name).length = t.os.length + i) := hid (by simp; omega)
        have HST : Hid (flA l t.os.length t.rs t.fs i (t.fs.drop i) = (docB l t.os.length t.fs[i] && (riseP t.fs i t.fs[i] && (t.rs.all (outP t.fs[i].num) && flA l t.os.length t.rs t.fs (i + 1) (t.fs.drop (i + 1)))))) := hid (by rw [List.drop_eq_getElem_cons hlt, flA])
        rw [HST.out] at HX
        clear HST
        have HPV : Hid (0 < i → ∃ g, t.fs[i - 1]? = some g) := hid (fun q => ⟨t.fs[i - 1], by simp⟩)
        generalize t.fs[i] = f at *
        go_upto_region 19 with fail
        have Bf : Blk (wr.alloc (.cells #[.string (strOfNums f.name), .int .i64 f.num, .int .i64 f.kind, .int .i64 f.ref, .int .i64 f.lab, .int .i64 f.one, .int .i64 f.key] 39)) wr.heap.size 39 #[.string (strOfNums f.name), .int .i64 f.num, .int .i64 f.kind, .int .i64 f.ref, .int .i64 f.lab, .int .i64 f.one, .int .i64 f.key] := Blk.new _ _ _
        have Ba1 := hid (Ba.out.kept (below_alloc (w := wr) (.cells #[.string (strOfNums f.name), .int .i64 f.num, .int .i64 f.kind, .int .i64 f.ref, .int .i64 f.lab, .int .i64 f.one, .int .i64 f.key] 39)))
        have Bb1 := hid (Bb.out.kept (below_alloc (w := wr) (.cells #[.string (strOfNums f.name), .int .i64 f.num, .int .i64 f.kind, .int .i64 f.ref, .int .i64 f.lab, .int .i64 f.one, .int .i64 f.key] 39)))
        have HV1 := hid (own_kept HV.out (below_alloc (w := wr) (.cells #[.string (strOfNums f.name), .int .i64 f.num, .int .i64 f.kind, .int .i64 f.ref, .int .i64 f.lab, .int .i64 f.one, .int .i64 f.key] 39)))
        have hb1 : Hid (Below w.heap.size w (wr.alloc (.cells #[.string (strOfNums f.name), .int .i64 f.num, .int .i64 f.kind, .int .i64 f.ref, .int .i64 f.lab, .int .i64 f.one, .int .i64 f.key] 39))) := hid (by have := hb.out; exact blBy)
        have hfp : w.heap.size + 1 < wr.heap.size := zb
        clear Ba Bb HV hb xa za xb zb c0 c1 c2 c3 c4 c5 c6 hbl
        generalize (wr.alloc (.cells #[.string (strOfNums f.name), .int .i64 f.num, .int .i64 f.kind, .int .i64 f.ref, .int .i64 f.lab, .int .i64 f.one, .int .i64 f.key] 39)) = w2 at *
        generalize wr.heap.size = fp at *
        have xf := Bf.cellF
        have zf := Bf.lt
        obtain ⟨la, lc, x1, HRUN, HV2, HG1⟩ := appendSt w.heap.size (.slice na (t.os.length + i) nc) (t.os ++ (t.fs.take i).map FT.name) f.name w2 HV1.out hb1.out.size (by have := HLN.out; omega)
        rw [HLN.out] at HRUN HV2 HG1
        have hb2 : Hid (Below w.heap.size w x1) := hid (hb1.out.trans (grow_bel HG1.out HV1.out (Nat.le_refl _) hb1.out.size))
        have Ba2 := hid (grow_blk HG1.out HV1.out Ba1.out (by decide))
        have Bb2 := hid (grow_blk HG1.out HV1.out Bb1.out (by decide))
        have Bf2 := hid (grow_blk HG1.out HV1.out Bf (by decide))
        go_upto_region 20 with (first | (at_builtin; refine wpList_append_ran rfl _ _ 59 59 rfl rfl _ _ (.slice la (t.os.length + i + 1) lc) x1 rfl rfl HRUN.out ?_))
        clear HRUN HV1 HG1 hb1 Ba1 Bb1 Bf xf zf
        cases hd : docB l t.os.length f with
        | false =>
          have HE : Hid (res = false) := hid (by rw [HX.out, hd]; rfl)
          have HFC : Hid (∀ W, TbR W (.slice ta l.length tc) l → Calls Tryd.prog 59 #[.agg #[.slice ta l.length tc], .agg #[.string (strOfNums t.name), .bool t.enum, .slice (some ⟨fb, fo, none⟩) t.fs.length fc, .slice oa t.os.length oc, .slice sa t.ss.length sc, .slice ra t.rs.length rc], .agg #[.string (strOfNums f.name), .int .i64 f.num, .int .i64 f.kind, .int .i64 f.ref, .int .i64 f.lab, .int .i64 f.one, .int .i64 f.key]] W fun e w' => e = .returned (.bool false) ∧ Below W.heap.size W w') := hid (fun W hW => by have := fieldR f W l ta tc t (some ⟨fb, fo, none⟩) oa sa ra fc oc sc rc hW (by omega); rw [hd] at this; exact this)
          refine wp_region_held_drew (S := (fun W => (∀ k, W.cell? ⟨w.heap.size, k, none⟩ = #[.slice ta l.length tc][k]?) ∧ (∀ k, W.cell? ⟨w.heap.size + 1, k, none⟩ = #[.string (strOfNums t.name), .bool t.enum, .slice (some ⟨fb, fo, none⟩) t.fs.length fc, .slice oa t.os.length oc, .slice sa t.ss.length sc, .slice ra t.rs.length rc][k]?) ∧ (∀ k, W.cell? ⟨fp, k, none⟩ = #[.string (strOfNums f.name), .int .i64 f.num, .int .i64 f.kind, .int .i64 f.ref, .int .i64 f.lab, .int .i64 f.one, .int .i64 f.key][k]?))) (by kernel_rfl) ?_ (fun hHeld => ?_)
          · exact ⟨(Ba2.out.kept (below_drew1 _)).cellF, (Bb2.out.kept (below_drew1 _)).cellF, (Bf2.out.kept (below_drew1 _)).cellF⟩
          have xza := Ba2.out.lt
          have xzb := Bb2.out.lt
          have xzf := Bf2.out.lt
          refine wpAnyH_take (i := 0) (v := ?_) rfl (by kernel_rfl) (by kernel_rfl) (by kernel_rfl) (fun _ _ _ h => h) (Or.inl ⟨by rfl, ?_⟩) (by assumption) ?_
          rotate_left
          · (intro w hSw; (try dsimp only at hSw); go_simp; (try with_reducible rfl))
          try simp only [Act.put, List.getElem_toArray, List.getElem_cons_succ, List.getElem_cons_zero, List.setIfInBounds_toArray, List.set_cons_zero, List.set_cons_succ]
          refine wpAnyH_take (i := 1) (v := ?_) rfl (by kernel_rfl) (by kernel_rfl) (by kernel_rfl) (fun _ _ _ h => h) (Or.inl ⟨by rfl, ?_⟩) (by assumption) ?_
          rotate_left
          · (intro w hSw; (try dsimp only at hSw); go_simp; (try with_reducible rfl))
          try simp only [Act.put, List.getElem_toArray, List.getElem_cons_succ, List.getElem_cons_zero, List.setIfInBounds_toArray, List.set_cons_zero, List.set_cons_succ]
          refine wpAnyH_take (i := 2) (v := ?_) rfl (by kernel_rfl) (by kernel_rfl) (by kernel_rfl) (fun _ _ _ h => h) (Or.inl ⟨by rfl, ?_⟩) (by assumption) ?_
          rotate_left
          · (intro w hSw; (try dsimp only at hSw); go_simp; (try with_reducible rfl))
          try simp only [Act.put, List.getElem_toArray, List.getElem_cons_succ, List.getElem_cons_zero, List.setIfInBounds_toArray, List.set_cons_zero, List.set_cons_succ]
          refine wpAnyH_ready (rs := [3]) (by kernel_rfl) (by simp) ?_
          refine AllReadyH.cons rfl (fun K hK => ?_) AllReadyH.nil
          go_simp
          go_wp2_with (go_at_call 59; refine (HFC.out _ (HT.out.kept (by have := hb2.out; exact blBy))).mono ?_; rintro e u1 ⟨rfl, hbu⟩; have Va : Hid (Blk u1 w.heap.size 24 #[.slice ta l.length tc]) := hid ((Ba2.out.kept (below_drew1 _)).kept hbu); have Vb : Hid (Blk u1 (w.heap.size + 1) 62 #[.string (strOfNums t.name), .bool t.enum, .slice (some ⟨fb, fo, none⟩) t.fs.length fc, .slice oa t.os.length oc, .slice sa t.ss.length sc, .slice ra t.rs.length rc]) := hid ((Bb2.out.kept (below_drew1 _)).kept hbu); have Vf : Hid (Blk u1 fp 39 #[.string (strOfNums f.name), .int .i64 f.num, .int .i64 f.kind, .int .i64 f.ref, .int .i64 f.lab, .int .i64 f.one, .int .i64 f.key]) := hid ((Bf2.out.kept (below_drew1 _)).kept hbu); have HVu := hid (own_kept HV2.out (bl_then (below_drew1 _) hbu)); have hbb : Hid (Below w.heap.size w u1) := hid (bl_then (by have := hb2.out; exact blBy) hbu); have hsu := hbu.size; clear hbu)
          refine hK.out _ _ ?_ (fun hHeld => ?_)
          · exact ⟨Va.out.cellF, Vb.out.cellF, Vf.out.cellF⟩
          clear hK K
          try simp only [Act.put, List.getElem_toArray, List.getElem_cons_succ, List.getElem_cons_zero, List.setIfInBounds_toArray, List.set_cons_zero, List.set_cons_succ]
          refine wpAnyH_take (i := 4) (v := ?_) rfl (by kernel_rfl) (by kernel_rfl) (by kernel_rfl) (fun _ _ _ h => h) (Or.inl ⟨by rfl, ?_⟩) (by assumption) ?_
          rotate_left
          · (intro w hSw; (try dsimp only at hSw); go_simp; (try with_reducible rfl))
          try simp only [Act.put, List.getElem_toArray, List.getElem_cons_succ, List.getElem_cons_zero, List.setIfInBounds_toArray, List.set_cons_zero, List.set_cons_succ]
          refine wpAnyH_take (i := 5) (v := ?_) rfl (by kernel_rfl) (by kernel_rfl) (by kernel_rfl) (fun _ _ _ h => h) (Or.inl ⟨by rfl, ?_⟩) (by assumption) ?_
          rotate_left
          · (intro w hSw; (try dsimp only at hSw); go_simp; (try with_reducible rfl))
          try simp only [Act.put, List.getElem_toArray, List.getElem_cons_succ, List.getElem_cons_zero, List.setIfInBounds_toArray, List.set_cons_zero, List.set_cons_succ]
          refine wpAnyH_take (i := 6) (v := undef) rfl (by kernel_rfl) (by kernel_rfl) (by kernel_rfl) (fun _ _ _ h => h) (Or.inr ⟨by kernel_rfl, rfl⟩) (by assumption) ?_
          try simp only [Act.put, List.getElem_toArray, List.getElem_cons_succ, List.getElem_cons_zero, List.setIfInBounds_toArray, List.set_cons_zero, List.set_cons_succ]
          refine wpAnyH_take (i := 7) (v := undef) rfl (by kernel_rfl) (by kernel_rfl) (by kernel_rfl) (fun _ _ _ h => h) (Or.inr ⟨by kernel_rfl, rfl⟩) (by assumption) ?_
          try simp only [Act.put, List.getElem_toArray, List.getElem_cons_succ, List.getElem_cons_zero, List.setIfInBounds_toArray, List.set_cons_zero, List.set_cons_succ]
          refine wpAnyH_take (i := 8) (v := undef) rfl (by kernel_rfl) (by kernel_rfl) (by kernel_rfl) (fun _ _ _ h => h) (Or.inr ⟨by kernel_rfl, rfl⟩) (by assumption) ?_
          try simp only [Act.put, List.getElem_toArray, List.getElem_cons_succ, List.getElem_cons_zero, List.setIfInBounds_toArray, List.set_cons_zero, List.set_cons_succ]
          refine wpAnyH_take (i := 9) (v := undef) rfl (by kernel_rfl) (by kernel_rfl) (by kernel_rfl) (fun _ _ _ h => h) (Or.inr ⟨by kernel_rfl, rfl⟩) (by assumption) ?_
          try simp only [Act.put, List.getElem_toArray, List.getElem_cons_succ, List.getElem_cons_zero, List.setIfInBounds_toArray, List.set_cons_zero, List.set_cons_succ]
          refine wpAnyH_take (i := 10) (v := undef) rfl (by kernel_rfl) (by kernel_rfl) (by kernel_rfl) (fun _ _ _ h => h) (Or.inr ⟨by kernel_rfl, rfl⟩) (by assumption) ?_
          try simp only [Act.put, List.getElem_toArray, List.getElem_cons_succ, List.getElem_cons_zero, List.setIfInBounds_toArray, List.set_cons_zero, List.set_cons_succ]
          refine wpAnyH_take (i := 11) (v := undef) rfl (by kernel_rfl) (by kernel_rfl) (by kernel_rfl) (fun _ _ _ h => h) (Or.inr ⟨by kernel_rfl, rfl⟩) (by assumption) ?_
          try simp only [Act.put, List.getElem_toArray, List.getElem_cons_succ, List.getElem_cons_zero, List.setIfInBounds_toArray, List.set_cons_zero, List.set_cons_succ]
          refine wpAnyH_take (i := 12) (v := undef) rfl (by kernel_rfl) (by kernel_rfl) (by kernel_rfl) (fun _ _ _ h => h) (Or.inr ⟨by kernel_rfl, rfl⟩) (by assumption) ?_
          try simp only [Act.put, List.getElem_toArray, List.getElem_cons_succ, List.getElem_cons_zero, List.setIfInBounds_toArray, List.set_cons_zero, List.set_cons_succ]
          refine wpAnyH_take (i := 13) (v := undef) rfl (by kernel_rfl) (by kernel_rfl) (by kernel_rfl) (fun _ _ _ h => h) (Or.inr ⟨by kernel_rfl, rfl⟩) (by assumption) ?_
          try simp only [Act.put, List.getElem_toArray, List.getElem_cons_succ, List.getElem_cons_zero, List.setIfInBounds_toArray, List.set_cons_zero, List.set_cons_succ]
          refine wpAnyH_take (i := 14) (v := undef) rfl (by kernel_rfl) (by kernel_rfl) (by kernel_rfl) (fun _ _ _ h => h) (Or.inr ⟨by kernel_rfl, rfl⟩) (by assumption) ?_
          try simp only [Act.put, List.getElem_toArray, List.getElem_cons_succ, List.getElem_cons_zero, List.setIfInBounds_toArray, List.set_cons_zero, List.set_cons_succ]
          refine wpAnyH_take (i := 15) (v := undef) rfl (by kernel_rfl) (by kernel_rfl) (by kernel_rfl) (fun _ _ _ h => h) (Or.inr ⟨by kernel_rfl, rfl⟩) (by assumption) ?_
          try simp only [Act.put, List.getElem_toArray, List.getElem_cons_succ, List.getElem_cons_zero, List.setIfInBounds_toArray, List.set_cons_zero, List.set_cons_succ]
          refine wpAnyH_take (i := 16) (v := undef) rfl (by kernel_rfl) (by kernel_rfl) (by kernel_rfl) (fun _ _ _ h => h) (Or.inr ⟨by kernel_rfl, rfl⟩) (by assumption) ?_
          try simp only [Act.put, List.getElem_toArray, List.getElem_cons_succ, List.getElem_cons_zero, List.setIfInBounds_toArray, List.set_cons_zero, List.set_cons_succ]
          refine wpAnyH_take (i := 17) (v := undef) rfl (by kernel_rfl) (by kernel_rfl) (by kernel_rfl) (fun _ _ _ h => h) (Or.inr ⟨by kernel_rfl, rfl⟩) (by assumption) ?_
          try simp only [Act.put, List.getElem_toArray, List.getElem_cons_succ, List.getElem_cons_zero, List.setIfInBounds_toArray, List.set_cons_zero, List.set_cons_succ]
          refine wpAnyH_take (i := 18) (v := undef) rfl (by kernel_rfl) (by kernel_rfl) (by kernel_rfl) (fun _ _ _ h => h) (Or.inr ⟨by kernel_rfl, rfl⟩) (by assumption) ?_
          try simp only [Act.put, List.getElem_toArray, List.getElem_cons_succ, List.getElem_cons_zero, List.setIfInBounds_toArray, List.set_cons_zero, List.set_cons_succ]
          refine wpAnyH_take (i := 19) (v := undef) rfl (by kernel_rfl) (by kernel_rfl) (by kernel_rfl) (fun _ _ _ h => h) (Or.inr ⟨by kernel_rfl, rfl⟩) (by assumption) ?_
          try simp only [Act.put, List.getElem_toArray, List.getElem_cons_succ, List.getElem_cons_zero, List.setIfInBounds_toArray, List.set_cons_zero, List.set_cons_succ]
          refine wpAnyH_take (i := 20) (v := .bool true) rfl (by kernel_rfl) (by kernel_rfl) (by kernel_rfl) (fun _ _ _ h => h) (Or.inl ⟨by rfl, ?_⟩) (by assumption) ?_
          · (intro w hSw; first | (go_simp; done) | (go_simp; exact HZ.out) | (go_simp; rfl))
          try simp only [Act.put, List.getElem_toArray, List.getElem_cons_succ, List.getElem_cons_zero, List.setIfInBounds_toArray, List.set_cons_zero, List.set_cons_succ]
          refine wpAnyH_done (by kernel_rfl) ?_ _
          go_wp2
          go_ret
          exact ⟨ret_bool HE.out.symm, hbb.out⟩
        | true =>
        replace HX := hid (show res = (riseP t.fs i f && (t.rs.all (outP f.num) && flA l t.os.length t.rs t.fs (i + 1) (t.fs.drop (i + 1))) && (nmsA [] (t.os ++ t.fs.map FT.name) && rgA t.rs 0 t.rs)) by rw [HX.out, hd]; rfl)
        have HFC : Hid (∀ W, TbR W (.slice ta l.length tc) l → Calls Tryd.prog 59 #[.agg #[.slice ta l.length tc], .agg #[.string (strOfNums t.name), .bool t.enum, .slice (some ⟨fb, fo, none⟩) t.fs.length fc, .slice oa t.os.length oc, .slice sa t.ss.length sc, .slice ra t.rs.length rc], .agg #[.string (strOfNums f.name), .int .i64 f.num, .int .i64 f.kind, .int .i64 f.ref, .int .i64 f.lab, .int .i64 f.one, .int .i64 f.key]] W fun e w' => e = .returned (.bool true) ∧ Below W.heap.size W w') := hid (fun W hW => by have := fieldR f W l ta tc t (some ⟨fb, fo, none⟩) oa sa ra fc oc sc rc hW (by omega); rw [hd] at this; exact this)
        by_cases hz : i = 0
        case pos =>
          have hrise : Hid (riseP t.fs i f = true) := hid (decide_eq_true (.inl hz))
          have h0 : ((0 : Int) < (i : Int)) = False := eq_false (by omega)
          have HZ := hid hz
          clear hz
          refine wp_region_held_drew (S := (fun W => (∀ k, W.cell? ⟨w.heap.size, k, none⟩ = #[.slice ta l.length tc][k]?) ∧ (∀ k, W.cell? ⟨w.heap.size + 1, k, none⟩ = #[.string (strOfNums t.name), .bool t.enum, .slice (some ⟨fb, fo, none⟩) t.fs.length fc, .slice oa t.os.length oc, .slice sa t.ss.length sc, .slice ra t.rs.length rc][k]?) ∧ (∀ k, W.cell? ⟨fp, k, none⟩ = #[.string (strOfNums f.name), .int .i64 f.num, .int .i64 f.kind, .int .i64 f.ref, .int .i64 f.lab, .int .i64 f.one, .int .i64 f.key][k]?))) (by kernel_rfl) ?_ (fun hHeld => ?_)
          · exact ⟨(Ba2.out.kept (below_drew1 _)).cellF, (Bb2.out.kept (below_drew1 _)).cellF, (Bf2.out.kept (below_drew1 _)).cellF⟩
          have xza := Ba2.out.lt
          have xzb := Bb2.out.lt
          have xzf := Bf2.out.lt
          refine wpAnyH_take (i := 0) (v := ?_) rfl (by kernel_rfl) (by kernel_rfl) (by kernel_rfl) (fun _ _ _ h => h) (Or.inl ⟨by rfl, ?_⟩) (by assumption) ?_
          rotate_left
          · (intro w hSw; (try dsimp only at hSw); go_simp; (try with_reducible rfl))
          try simp only [Act.put, List.getElem_toArray, List.getElem_cons_succ, List.getElem_cons_zero, List.setIfInBounds_toArray, List.set_cons_zero, List.set_cons_succ]
          refine wpAnyH_take (i := 1) (v := ?_) rfl (by kernel_rfl) (by kernel_rfl) (by kernel_rfl) (fun _ _ _ h => h) (Or.inl ⟨by rfl, ?_⟩) (by assumption) ?_
          rotate_left
          · (intro w hSw; (try dsimp only at hSw); go_simp; (try with_reducible rfl))
          try simp only [Act.put, List.getElem_toArray, List.getElem_cons_succ, List.getElem_cons_zero, List.setIfInBounds_toArray, List.set_cons_zero, List.set_cons_succ]
          refine wpAnyH_take (i := 2) (v := ?_) rfl (by kernel_rfl) (by kernel_rfl) (by kernel_rfl) (fun _ _ _ h => h) (Or.inl ⟨by rfl, ?_⟩) (by assumption) ?_
          rotate_left
          · (intro w hSw; (try dsimp only at hSw); go_simp; (try with_reducible rfl))
          try simp only [Act.put, List.getElem_toArray, List.getElem_cons_succ, List.getElem_cons_zero, List.setIfInBounds_toArray, List.set_cons_zero, List.set_cons_succ]
          refine wpAnyH_ready (rs := [3]) (by kernel_rfl) (by simp) ?_
          refine AllReadyH.cons rfl (fun K hK => ?_) AllReadyH.nil
          go_simp
          go_wp2_with (go_at_call 59; refine (HFC.out _ (HT.out.kept (by have := hb2.out; exact blBy))).mono ?_; rintro e u1 ⟨rfl, hbu⟩; have Va : Hid (Blk u1 w.heap.size 24 #[.slice ta l.length tc]) := hid ((Ba2.out.kept (below_drew1 _)).kept hbu); have Vb : Hid (Blk u1 (w.heap.size + 1) 62 #[.string (strOfNums t.name), .bool t.enum, .slice (some ⟨fb, fo, none⟩) t.fs.length fc, .slice oa t.os.length oc, .slice sa t.ss.length sc, .slice ra t.rs.length rc]) := hid ((Bb2.out.kept (below_drew1 _)).kept hbu); have Vf : Hid (Blk u1 fp 39 #[.string (strOfNums f.name), .int .i64 f.num, .int .i64 f.kind, .int .i64 f.ref, .int .i64 f.lab, .int .i64 f.one, .int .i64 f.key]) := hid ((Bf2.out.kept (below_drew1 _)).kept hbu); have HVu := hid (own_kept HV2.out (bl_then (below_drew1 _) hbu)); have hbb : Hid (Below w.heap.size w u1) := hid (bl_then (by have := hb2.out; exact blBy) hbu); have hsu := hbu.size; clear hbu)
          refine hK.out _ _ ?_ (fun hHeld => ?_)
          · exact ⟨Va.out.cellF, Vb.out.cellF, Vf.out.cellF⟩
          clear hK K
          try simp only [Act.put, List.getElem_toArray, List.getElem_cons_succ, List.getElem_cons_zero, List.setIfInBounds_toArray, List.set_cons_zero, List.set_cons_succ]
          refine wpAnyH_take (i := 4) (v := ?_) rfl (by kernel_rfl) (by kernel_rfl) (by kernel_rfl) (fun _ _ _ h => h) (Or.inl ⟨by rfl, ?_⟩) (by assumption) ?_
          rotate_left
          · (intro w hSw; (try dsimp only at hSw); go_simp; (try with_reducible rfl))
          try simp only [Act.put, List.getElem_toArray, List.getElem_cons_succ, List.getElem_cons_zero, List.setIfInBounds_toArray, List.set_cons_zero, List.set_cons_succ]
          refine wpAnyH_take (i := 5) (v := ?_) rfl (by kernel_rfl) (by kernel_rfl) (by kernel_rfl) (fun _ _ _ h => h) (Or.inl ⟨by rfl, ?_⟩) (by assumption) ?_
          rotate_left
          · (intro w hSw; (try dsimp only at hSw); go_simp; (try with_reducible rfl))
          try simp only [Act.put, List.getElem_toArray, List.getElem_cons_succ, List.getElem_cons_zero, List.setIfInBounds_toArray, List.set_cons_zero, List.set_cons_succ]
          refine wpAnyH_take (i := 6) (v := ?_) rfl (by kernel_rfl) (by kernel_rfl) (by kernel_rfl) (fun _ _ _ h => h) (Or.inl ⟨by rfl, ?_⟩) (by assumption) ?_
          rotate_left
          · (intro w hSw; (try dsimp only at hSw); go_simp; (try with_reducible rfl))
          try simp only [Act.put, List.getElem_toArray, List.getElem_cons_succ, List.getElem_cons_zero, List.setIfInBounds_toArray, List.set_cons_zero, List.set_cons_succ]
          refine wpAnyH_take (i := 7) (v := .bool false) rfl (by kernel_rfl) (by kernel_rfl) (by kernel_rfl) (fun _ _ _ h => h) (Or.inl ⟨by rfl, ?_⟩) (by assumption) ?_
          · (intro w hSw; first | (go_simp; done) | (go_simp; exact HZ.out) | (go_simp; rfl))
          try simp only [Act.put, List.getElem_toArray, List.getElem_cons_succ, List.getElem_cons_zero, List.setIfInBounds_toArray, List.set_cons_zero, List.set_cons_succ]
          refine wpAnyH_take (i := 8) (v := ?_) rfl (by kernel_rfl) (by kernel_rfl) (by kernel_rfl) (fun _ _ _ h => h) (Or.inl ⟨by rfl, ?_⟩) (by assumption) ?_
          rotate_left
          · (intro w hSw; (try dsimp only at hSw); go_simp; (try with_reducible rfl))
          try simp only [Act.put, List.getElem_toArray, List.getElem_cons_succ, List.getElem_cons_zero, List.setIfInBounds_toArray, List.set_cons_zero, List.set_cons_succ]
          refine wpAnyH_take (i := 9) (v := undef) rfl (by kernel_rfl) (by kernel_rfl) (by kernel_rfl) (fun _ _ _ h => h) (Or.inr ⟨by kernel_rfl, rfl⟩) (by assumption) ?_
          try simp only [Act.put, List.getElem_toArray, List.getElem_cons_succ, List.getElem_cons_zero, List.setIfInBounds_toArray, List.set_cons_zero, List.set_cons_succ]
          refine wpAnyH_take (i := 10) (v := undef) rfl (by kernel_rfl) (by kernel_rfl) (by kernel_rfl) (fun _ _ _ h => h) (Or.inr ⟨by kernel_rfl, rfl⟩) (by assumption) ?_
          try simp only [Act.put, List.getElem_toArray, List.getElem_cons_succ, List.getElem_cons_zero, List.setIfInBounds_toArray, List.set_cons_zero, List.set_cons_succ]
          refine wpAnyH_take (i := 11) (v := undef) rfl (by kernel_rfl) (by kernel_rfl) (by kernel_rfl) (fun _ _ _ h => h) (Or.inr ⟨by kernel_rfl, rfl⟩) (by assumption) ?_
          try simp only [Act.put, List.getElem_toArray, List.getElem_cons_succ, List.getElem_cons_zero, List.setIfInBounds_toArray, List.set_cons_zero, List.set_cons_succ]
          refine wpAnyH_take (i := 12) (v := undef) rfl (by kernel_rfl) (by kernel_rfl) (by kernel_rfl) (fun _ _ _ h => h) (Or.inr ⟨by kernel_rfl, rfl⟩) (by assumption) ?_
          try simp only [Act.put, List.getElem_toArray, List.getElem_cons_succ, List.getElem_cons_zero, List.setIfInBounds_toArray, List.set_cons_zero, List.set_cons_succ]
          refine wpAnyH_take (i := 13) (v := undef) rfl (by kernel_rfl) (by kernel_rfl) (by kernel_rfl) (fun _ _ _ h => h) (Or.inr ⟨by kernel_rfl, rfl⟩) (by assumption) ?_
          try simp only [Act.put, List.getElem_toArray, List.getElem_cons_succ, List.getElem_cons_zero, List.setIfInBounds_toArray, List.set_cons_zero, List.set_cons_succ]
          refine wpAnyH_take (i := 14) (v := undef) rfl (by kernel_rfl) (by kernel_rfl) (by kernel_rfl) (fun _ _ _ h => h) (Or.inr ⟨by kernel_rfl, rfl⟩) (by assumption) ?_
          try simp only [Act.put, List.getElem_toArray, List.getElem_cons_succ, List.getElem_cons_zero, List.setIfInBounds_toArray, List.set_cons_zero, List.set_cons_succ]
          refine wpAnyH_take (i := 15) (v := undef) rfl (by kernel_rfl) (by kernel_rfl) (by kernel_rfl) (fun _ _ _ h => h) (Or.inr ⟨by kernel_rfl, rfl⟩) (by assumption) ?_
          try simp only [Act.put, List.getElem_toArray, List.getElem_cons_succ, List.getElem_cons_zero, List.setIfInBounds_toArray, List.set_cons_zero, List.set_cons_succ]
          refine wpAnyH_take (i := 16) (v := undef) rfl (by kernel_rfl) (by kernel_rfl) (by kernel_rfl) (fun _ _ _ h => h) (Or.inr ⟨by kernel_rfl, rfl⟩) (by assumption) ?_
          try simp only [Act.put, List.getElem_toArray, List.getElem_cons_succ, List.getElem_cons_zero, List.setIfInBounds_toArray, List.set_cons_zero, List.set_cons_succ]
          refine wpAnyH_take (i := 17) (v := undef) rfl (by kernel_rfl) (by kernel_rfl) (by kernel_rfl) (fun _ _ _ h => h) (Or.inr ⟨by kernel_rfl, rfl⟩) (by assumption) ?_
          try simp only [Act.put, List.getElem_toArray, List.getElem_cons_succ, List.getElem_cons_zero, List.setIfInBounds_toArray, List.set_cons_zero, List.set_cons_succ]
          refine wpAnyH_take (i := 18) (v := undef) rfl (by kernel_rfl) (by kernel_rfl) (by kernel_rfl) (fun _ _ _ h => h) (Or.inr ⟨by kernel_rfl, rfl⟩) (by assumption) ?_
          try simp only [Act.put, List.getElem_toArray, List.getElem_cons_succ, List.getElem_cons_zero, List.setIfInBounds_toArray, List.set_cons_zero, List.set_cons_succ]
          refine wpAnyH_take (i := 19) (v := .bool false) rfl (by kernel_rfl) (by kernel_rfl) (by kernel_rfl) (fun _ _ _ h => h) (Or.inl ⟨by rfl, ?_⟩) (by assumption) ?_
          · (intro w hSw; first | (go_simp; done) | (go_simp; exact HZ.out) | (go_simp; rfl))
          try simp only [Act.put, List.getElem_toArray, List.getElem_cons_succ, List.getElem_cons_zero, List.setIfInBounds_toArray, List.set_cons_zero, List.set_cons_succ]
          refine wpAnyH_take (i := 20) (v := .bool false) rfl (by kernel_rfl) (by kernel_rfl) (by kernel_rfl) (fun _ _ _ h => h) (Or.inl ⟨by rfl, ?_⟩) (by assumption) ?_
          · (intro w hSw; first | (go_simp; done) | (go_simp; exact HZ.out) | (go_simp; rfl))
          try simp only [Act.put, List.getElem_toArray, List.getElem_cons_succ, List.getElem_cons_zero, List.setIfInBounds_toArray, List.set_cons_zero, List.set_cons_succ]
          refine wpAnyH_done (by kernel_rfl) ?_ _
          clear HFC Ba2 Bb2 Bf2 HV2 hb2
          go_wp2
          go_loopw [11] (fun r wr => ∃ k : Nat, r = .int .i64 k ∧ k ≤ t.rs.length ∧ Hid ((t.rs.take k).all (outP f.num) = true) ∧ Hid (wr.ownsRow w.heap.size 9 1 (.slice la (t.os.length + i + 1) lc) (t.os ++ (t.fs.take i).map FT.name ++ [f.name]).length ((t.os ++ (t.fs.take i).map FT.name ++ [f.name]).flatMap cN)) ∧ Hid (Blk wr fp 39 #[.string (strOfNums f.name), .int .i64 f.num, .int .i64 f.kind, .int .i64 f.ref, .int .i64 f.lab, .int .i64 f.one, .int .i64 f.key]) ∧ Hid (Blk wr w.heap.size 24 #[.slice ta l.length tc]) ∧ Hid (Blk wr (w.heap.size + 1) 62 #[.string (strOfNums t.name), .bool t.enum, .slice (some ⟨fb, fo, none⟩) t.fs.length fc, .slice oa t.os.length oc, .slice sa t.ss.length sc, .slice ra t.rs.length rc]) ∧ Hid (Below w.heap.size w wr)) (fun r wr => t.rs.length - numAt wr r)
          case atStart => exact ⟨0, rfl, by omega, hid rfl, HVu, Vf, Va, Vb, hbb⟩
          case round =>
            clear HVu Vf Va Vb hbb
            obtain ⟨k, rfl, hk, hall, HV, Bf, Ba, Bb, hb⟩ := hrel
            have xa := Ba.out.cellF
            have za := Ba.out.lt
            have xb := Bb.out.cellF
            have zb := Bb.out.lt
            have xf := Bf.out.cellF
            have zf := Bf.out.lt
            by_cases hlt3 : k < t.rs.length
            case pos =>
              have h4 : (k : Int) < (t.rs.length : Int) := by omega
              obtain ⟨rb, ro, rfl, hblr, c0, c1⟩ := rowG (HR.out.kept hb.out) hlt3
              have HA := hid (takeG_all (p := outP f.num) hlt3)
              have HM : Hid (outP f.num t.rs[k] = false → t.rs.all (outP f.num) = false) := hid (allG_no hlt3)
              generalize t.rs[k] = g at *
              by_cases g1 : g.lo ≤ f.num
              case neg =>
                have g2 : (g.lo ≤ f.num) = False := eq_false g1
                have HO2 : Hid (outP f.num g = true) := hid (by unfold outP; rw [decide_eq_false (by omega)]; rfl)
                clear g1
                go_wp2
                go_region
                go_wp2
                exact ⟨⟨k + 1, by simp, by omega, hid (by rw [HA.out, hall.out, HO2.out]; rfl), hid (own_kept HV.out (by exact blBy)), hid (Bf.out.kept (by exact blBy)), hid (Ba.out.kept (by exact blBy)), hid (Bb.out.kept (by exact blBy)), hid (by have := hb.out; exact blBy)⟩, by simp [numAt]; omega⟩
              have g2 : (g.lo ≤ f.num) = True := eq_true g1
              by_cases g3 : f.num ≤ g.hi
              case neg =>
                have g4 : (f.num ≤ g.hi) = False := eq_false g3
                have HO2 : Hid (outP f.num g = true) := hid (by unfold outP; rw [decide_eq_false (by omega)]; rfl)
                clear g1 g3
                go_wp2
                go_region
                go_wp2
                exact ⟨⟨k + 1, by simp, by omega, hid (by rw [HA.out, hall.out, HO2.out]; rfl), hid (own_kept HV.out (by exact blBy)), hid (Bf.out.kept (by exact blBy)), hid (Ba.out.kept (by exact blBy)), hid (Bb.out.kept (by exact blBy)), hid (by have := hb.out; exact blBy)⟩, by simp [numAt]; omega⟩
              have g4 : (f.num ≤ g.hi) = True := eq_true g3
              have HE : Hid (res = false) := hid (by rw [HX.out, HM.out (by unfold outP; rw [decide_eq_true ⟨g1, g3⟩]; rfl)]; simp)
              clear g1 g3
              go_wp2
              go_region
              go_wp2
              go_ret
              exact ⟨ret_bool HE.out.symm, by have := hb.out; exact blBy⟩
            have h4 : ¬ (k : Int) < (t.rs.length : Int) := by omega
            have ek : t.rs.take k = t.rs := List.take_of_length_le (by omega)
            rw [ek] at hall
            rw [hrise.out, hall.out] at HX
            go_wp2
            exact ⟨⟨i + 1, la, lc, rfl, by simp, by omega, hid (by rw [HX.out]; simp), hid (by have := HV.out; rw [HTK.out, List.map_append, ← List.append_assoc]; exact this), Ba, Bb, hb⟩, by simp [numAt]; omega⟩
        obtain ⟨n, hn⟩ : ∃ n, i = n + 1 := ⟨i - 1, by omega⟩
        obtain ⟨g, hg⟩ := HPV.out (by omega)
        have hnl : n < t.fs.length := by omega
        obtain ⟨fb2, fo2, efb, hbl2, -, c1, -⟩ := row7 (HF.out.kept hb2.out) hnl
        cases efb
        have eg : t.fs[n] = g := by have := hg; rw [hn, Nat.add_sub_cancel, List.getElem?_eq_getElem hnl] at this; exact Option.some.inj this
        rw [eg] at c1
        have c9 := hid c1
        have HRI : Hid (riseP t.fs i f = decide (g.num < f.num)) := hid (by unfold riseP; rw [hg]; simp; omega)
        subst hn
        have h0 : ((0 : Int) < (n : Int) + 1) = True := eq_true (by omega)
        have h5 : (n : Int) < (t.fs.length : Int) := by omega
        have n1 : (n : Int) ≤ 4000000 := by omega
        have n0 : (0 : Int) ≤ (n : Int) := by omega
        have hwn : IntKind.i64.wrap (n : Int) = (n : Int) := wrapN (by omega)
        clear hz hg eg HPV
        by_cases hr : f.num ≤ g.num
        case pos =>
          have h6 : (f.num ≤ g.num) = True := eq_true hr
          have HE : Hid (res = false) := hid (by rw [HX.out, HRI.out, decide_eq_false (by omega)]; rfl)
          clear hr c1
          refine wp_region_held_drew (S := (fun W => (∀ k, W.cell? ⟨w.heap.size, k, none⟩ = #[.slice ta l.length tc][k]?) ∧ (∀ k, W.cell? ⟨w.heap.size + 1, k, none⟩ = #[.string (strOfNums t.name), .bool t.enum, .slice (some ⟨fb, fo, none⟩) t.fs.length fc, .slice oa t.os.length oc, .slice sa t.ss.length sc, .slice ra t.rs.length rc][k]?) ∧ (∀ k, W.cell? ⟨fp, k, none⟩ = #[.string (strOfNums f.name), .int .i64 f.num, .int .i64 f.kind, .int .i64 f.ref, .int .i64 f.lab, .int .i64 f.one, .int .i64 f.key][k]?) ∧ W.cell? ⟨fb, fo + n * 7 + 1, none⟩ = some (.int .i64 g.num))) (by kernel_rfl) ?_ (fun hHeld => ?_)
          · exact ⟨(Ba2.out.kept (below_drew1 _)).cellF, (Bb2.out.kept (below_drew1 _)).cellF, (Bf2.out.kept (below_drew1 _)).cellF, cell_below c9.out (below_drew1 _)⟩
          have xza := Ba2.out.lt
          have xzb := Bb2.out.lt
          have xzf := Bf2.out.lt
          refine wpAnyH_take (i := 0) (v := ?_) rfl (by kernel_rfl) (by kernel_rfl) (by kernel_rfl) (fun _ _ _ h => h) (Or.inl ⟨by rfl, ?_⟩) (by assumption) ?_
          rotate_left
          · (intro w hSw; (try dsimp only at hSw); go_simp; (try with_reducible rfl))
          try simp only [Act.put, List.getElem_toArray, List.getElem_cons_succ, List.getElem_cons_zero, List.setIfInBounds_toArray, List.set_cons_zero, List.set_cons_succ]
          refine wpAnyH_take (i := 1) (v := ?_) rfl (by kernel_rfl) (by kernel_rfl) (by kernel_rfl) (fun _ _ _ h => h) (Or.inl ⟨by rfl, ?_⟩) (by assumption) ?_
          rotate_left
          · (intro w hSw; (try dsimp only at hSw); go_simp; (try with_reducible rfl))
          try simp only [Act.put, List.getElem_toArray, List.getElem_cons_succ, List.getElem_cons_zero, List.setIfInBounds_toArray, List.set_cons_zero, List.set_cons_succ]
          refine wpAnyH_take (i := 2) (v := ?_) rfl (by kernel_rfl) (by kernel_rfl) (by kernel_rfl) (fun _ _ _ h => h) (Or.inl ⟨by rfl, ?_⟩) (by assumption) ?_
          rotate_left
          · (intro w hSw; (try dsimp only at hSw); go_simp; (try with_reducible rfl))
          try simp only [Act.put, List.getElem_toArray, List.getElem_cons_succ, List.getElem_cons_zero, List.setIfInBounds_toArray, List.set_cons_zero, List.set_cons_succ]
          refine wpAnyH_ready (rs := [3]) (by kernel_rfl) (by simp) ?_
          refine AllReadyH.cons rfl (fun K hK => ?_) AllReadyH.nil
          go_simp
          go_wp2_with (go_at_call 59; refine (HFC.out _ (HT.out.kept (by have := hb2.out; exact blBy))).mono ?_; rintro e u1 ⟨rfl, hbu⟩; have Va : Hid (Blk u1 w.heap.size 24 #[.slice ta l.length tc]) := hid ((Ba2.out.kept (below_drew1 _)).kept hbu); have Vb : Hid (Blk u1 (w.heap.size + 1) 62 #[.string (strOfNums t.name), .bool t.enum, .slice (some ⟨fb, fo, none⟩) t.fs.length fc, .slice oa t.os.length oc, .slice sa t.ss.length sc, .slice ra t.rs.length rc]) := hid ((Bb2.out.kept (below_drew1 _)).kept hbu); have Vf : Hid (Blk u1 fp 39 #[.string (strOfNums f.name), .int .i64 f.num, .int .i64 f.kind, .int .i64 f.ref, .int .i64 f.lab, .int .i64 f.one, .int .i64 f.key]) := hid ((Bf2.out.kept (below_drew1 _)).kept hbu); have HVu := hid (own_kept HV2.out (bl_then (below_drew1 _) hbu)); have hbb : Hid (Below w.heap.size w u1) := hid (bl_then (by have := hb2.out; exact blBy) hbu); have c9u := hid (cell_below c9.out (bl_then (below_drew1 _) hbu)); have hsu := hbu.size; clear hbu)
          refine hK.out _ _ ?_ (fun hHeld => ?_)
          · exact ⟨Va.out.cellF, Vb.out.cellF, Vf.out.cellF, c9u.out⟩
          clear hK K
          try simp only [Act.put, List.getElem_toArray, List.getElem_cons_succ, List.getElem_cons_zero, List.setIfInBounds_toArray, List.set_cons_zero, List.set_cons_succ]
          refine wpAnyH_take (i := 4) (v := ?_) rfl (by kernel_rfl) (by kernel_rfl) (by kernel_rfl) (fun _ _ _ h => h) (Or.inl ⟨by rfl, ?_⟩) (by assumption) ?_
          rotate_left
          · (intro w hSw; (try dsimp only at hSw); go_simp; (try with_reducible rfl))
          try simp only [Act.put, List.getElem_toArray, List.getElem_cons_succ, List.getElem_cons_zero, List.setIfInBounds_toArray, List.set_cons_zero, List.set_cons_succ]
          refine wpAnyH_take (i := 5) (v := ?_) rfl (by kernel_rfl) (by kernel_rfl) (by kernel_rfl) (fun _ _ _ h => h) (Or.inl ⟨by rfl, ?_⟩) (by assumption) ?_
          rotate_left
          · (intro w hSw; (try dsimp only at hSw); go_simp; (try with_reducible rfl))
          try simp only [Act.put, List.getElem_toArray, List.getElem_cons_succ, List.getElem_cons_zero, List.setIfInBounds_toArray, List.set_cons_zero, List.set_cons_succ]
          refine wpAnyH_take (i := 6) (v := ?_) rfl (by kernel_rfl) (by kernel_rfl) (by kernel_rfl) (fun _ _ _ h => h) (Or.inl ⟨by rfl, ?_⟩) (by assumption) ?_
          rotate_left
          · (intro w hSw; (try dsimp only at hSw); go_simp; (try with_reducible rfl))
          try simp only [Act.put, List.getElem_toArray, List.getElem_cons_succ, List.getElem_cons_zero, List.setIfInBounds_toArray, List.set_cons_zero, List.set_cons_succ]
          refine wpAnyH_take (i := 7) (v := .bool true) rfl (by kernel_rfl) (by kernel_rfl) (by kernel_rfl) (fun _ _ _ h => h) (Or.inl ⟨by rfl, ?_⟩) (by assumption) ?_
          · (intro w hSw; first | (go_simp; done) | (go_simp; exact HZ.out) | (go_simp; rfl))
          try simp only [Act.put, List.getElem_toArray, List.getElem_cons_succ, List.getElem_cons_zero, List.setIfInBounds_toArray, List.set_cons_zero, List.set_cons_succ]
          refine wpAnyH_take (i := 8) (v := ?_) rfl (by kernel_rfl) (by kernel_rfl) (by kernel_rfl) (fun _ _ _ h => h) (Or.inl ⟨by rfl, ?_⟩) (by assumption) ?_
          rotate_left
          · (intro w hSw; (try dsimp only at hSw); go_simp; (try with_reducible rfl))
          try simp only [Act.put, List.getElem_toArray, List.getElem_cons_succ, List.getElem_cons_zero, List.setIfInBounds_toArray, List.set_cons_zero, List.set_cons_succ]
          refine wpAnyH_take (i := 9) (v := ?_) rfl (by kernel_rfl) (by kernel_rfl) (by kernel_rfl) (fun _ _ _ h => h) (Or.inl ⟨by rfl, ?_⟩) (by assumption) ?_
          rotate_left
          · (intro w hSw; (try dsimp only at hSw); go_simp; (try with_reducible rfl))
          try simp only [Act.put, List.getElem_toArray, List.getElem_cons_succ, List.getElem_cons_zero, List.setIfInBounds_toArray, List.set_cons_zero, List.set_cons_succ]
          refine wpAnyH_take (i := 10) (v := ?_) rfl (by kernel_rfl) (by kernel_rfl) (by kernel_rfl) (fun _ _ _ h => h) (Or.inl ⟨by rfl, ?_⟩) (by assumption) ?_
          rotate_left
          · (intro w hSw; (try dsimp only at hSw); go_simp; (try with_reducible rfl))
          try simp only [Act.put, List.getElem_toArray, List.getElem_cons_succ, List.getElem_cons_zero, List.setIfInBounds_toArray, List.set_cons_zero, List.set_cons_succ]
          refine wpAnyH_take (i := 11) (v := ?_) rfl (by kernel_rfl) (by kernel_rfl) (by kernel_rfl) (fun _ _ _ h => h) (Or.inl ⟨by rfl, ?_⟩) (by assumption) ?_
          rotate_left
          · (intro w hSw; (try dsimp only at hSw); go_simp; (try with_reducible rfl))
          try simp only [Act.put, List.getElem_toArray, List.getElem_cons_succ, List.getElem_cons_zero, List.setIfInBounds_toArray, List.set_cons_zero, List.set_cons_succ]
          refine wpAnyH_take (i := 12) (v := ?_) rfl (by kernel_rfl) (by kernel_rfl) (by kernel_rfl) (fun _ _ _ h => h) (Or.inl ⟨by rfl, ?_⟩) (by assumption) ?_
          rotate_left
          · (intro w hSw; (try dsimp only at hSw); go_simp; (try with_reducible rfl))
          try simp only [Act.put, List.getElem_toArray, List.getElem_cons_succ, List.getElem_cons_zero, List.setIfInBounds_toArray, List.set_cons_zero, List.set_cons_succ]
          refine wpAnyH_take (i := 13) (v := ?_) rfl (by kernel_rfl) (by kernel_rfl) (by kernel_rfl) (fun _ _ _ h => h) (Or.inl ⟨by rfl, ?_⟩) (by assumption) ?_
          rotate_left
          · (intro w hSw; (try dsimp only at hSw); go_simp; (try with_reducible rfl))
          try simp only [Act.put, List.getElem_toArray, List.getElem_cons_succ, List.getElem_cons_zero, List.setIfInBounds_toArray, List.set_cons_zero, List.set_cons_succ]
          refine wpAnyH_take (i := 14) (v := ?_) rfl (by kernel_rfl) (by kernel_rfl) (by kernel_rfl) (fun _ _ _ h => h) (Or.inl ⟨by rfl, ?_⟩) (by assumption) ?_
          rotate_left
          · (intro w hSw; (try dsimp only at hSw); go_simp; (try with_reducible rfl))
          try simp only [Act.put, List.getElem_toArray, List.getElem_cons_succ, List.getElem_cons_zero, List.setIfInBounds_toArray, List.set_cons_zero, List.set_cons_succ]
          refine wpAnyH_take (i := 15) (v := ?_) rfl (by kernel_rfl) (by kernel_rfl) (by kernel_rfl) (fun _ _ _ h => h) (Or.inl ⟨by rfl, ?_⟩) (by assumption) ?_
          rotate_left
          · (intro w hSw; (try dsimp only at hSw); go_simp; (try with_reducible rfl))
          try simp only [Act.put, List.getElem_toArray, List.getElem_cons_succ, List.getElem_cons_zero, List.setIfInBounds_toArray, List.set_cons_zero, List.set_cons_succ]
          refine wpAnyH_take (i := 16) (v := ?_) rfl (by kernel_rfl) (by kernel_rfl) (by kernel_rfl) (fun _ _ _ h => h) (Or.inl ⟨by rfl, ?_⟩) (by assumption) ?_
          rotate_left
          · (intro w hSw; (try dsimp only at hSw); go_simp; (try with_reducible rfl))
          try simp only [Act.put, List.getElem_toArray, List.getElem_cons_succ, List.getElem_cons_zero, List.setIfInBounds_toArray, List.set_cons_zero, List.set_cons_succ]
          refine wpAnyH_take (i := 17) (v := ?_) rfl (by kernel_rfl) (by kernel_rfl) (by kernel_rfl) (fun _ _ _ h => h) (Or.inl ⟨by rfl, ?_⟩) (by assumption) ?_
          rotate_left
          · (intro w hSw; (try dsimp only at hSw); go_simp; (try with_reducible rfl))
          try simp only [Act.put, List.getElem_toArray, List.getElem_cons_succ, List.getElem_cons_zero, List.setIfInBounds_toArray, List.set_cons_zero, List.set_cons_succ]
          refine wpAnyH_take (i := 18) (v := .bool true) rfl (by kernel_rfl) (by kernel_rfl) (by kernel_rfl) (fun _ _ _ h => h) (Or.inl ⟨by rfl, ?_⟩) (by assumption) ?_
          · (intro w hSw; first | (go_simp; done) | (go_simp; exact HZ.out) | (go_simp; rfl))
          try simp only [Act.put, List.getElem_toArray, List.getElem_cons_succ, List.getElem_cons_zero, List.setIfInBounds_toArray, List.set_cons_zero, List.set_cons_succ]
          refine wpAnyH_take (i := 19) (v := .bool true) rfl (by kernel_rfl) (by kernel_rfl) (by kernel_rfl) (fun _ _ _ h => h) (Or.inl ⟨by rfl, ?_⟩) (by assumption) ?_
          · (intro w hSw; first | (go_simp; done) | (go_simp; exact HZ.out) | (go_simp; rfl))
          try simp only [Act.put, List.getElem_toArray, List.getElem_cons_succ, List.getElem_cons_zero, List.setIfInBounds_toArray, List.set_cons_zero, List.set_cons_succ]
          refine wpAnyH_take (i := 20) (v := .bool true) rfl (by kernel_rfl) (by kernel_rfl) (by kernel_rfl) (fun _ _ _ h => h) (Or.inl ⟨by rfl, ?_⟩) (by assumption) ?_
          · (intro w hSw; first | (go_simp; done) | (go_simp; exact HZ.out) | (go_simp; rfl))
          try simp only [Act.put, List.getElem_toArray, List.getElem_cons_succ, List.getElem_cons_zero, List.setIfInBounds_toArray, List.set_cons_zero, List.set_cons_succ]
          refine wpAnyH_done (by kernel_rfl) ?_ _
          go_wp2
          go_ret
          exact ⟨ret_bool HE.out.symm, hbb.out⟩
        have h6 : (f.num ≤ g.num) = False := eq_false hr
        have hrise : Hid (riseP t.fs (n + 1) f = true) := hid (by rw [HRI.out]; exact decide_eq_true (by omega))
        clear hr c1
        refine wp_region_held_drew (S := (fun W => (∀ k, W.cell? ⟨w.heap.size, k, none⟩ = #[.slice ta l.length tc][k]?) ∧ (∀ k, W.cell? ⟨w.heap.size + 1, k, none⟩ = #[.string (strOfNums t.name), .bool t.enum, .slice (some ⟨fb, fo, none⟩) t.fs.length fc, .slice oa t.os.length oc, .slice sa t.ss.length sc, .slice ra t.rs.length rc][k]?) ∧ (∀ k, W.cell? ⟨fp, k, none⟩ = #[.string (strOfNums f.name), .int .i64 f.num, .int .i64 f.kind, .int .i64 f.ref, .int .i64 f.lab, .int .i64 f.one, .int .i64 f.key][k]?) ∧ W.cell? ⟨fb, fo + n * 7 + 1, none⟩ = some (.int .i64 g.num))) (by kernel_rfl) ?_ (fun hHeld => ?_)
        · exact ⟨(Ba2.out.kept (below_drew1 _)).cellF, (Bb2.out.kept (below_drew1 _)).cellF, (Bf2.out.kept (below_drew1 _)).cellF, cell_below c9.out (below_drew1 _)⟩
        have xza := Ba2.out.lt
        have xzb := Bb2.out.lt
        have xzf := Bf2.out.lt
        refine wpAnyH_take (i := 0) (v := ?_) rfl (by kernel_rfl) (by kernel_rfl) (by kernel_rfl) (fun _ _ _ h => h) (Or.inl ⟨by rfl, ?_⟩) (by assumption) ?_
        rotate_left
        · (intro w hSw; (try dsimp only at hSw); go_simp; (try with_reducible rfl))
        try simp only [Act.put, List.getElem_toArray, List.getElem_cons_succ, List.getElem_cons_zero, List.setIfInBounds_toArray, List.set_cons_zero, List.set_cons_succ]
        refine wpAnyH_take (i := 1) (v := ?_) rfl (by kernel_rfl) (by kernel_rfl) (by kernel_rfl) (fun _ _ _ h => h) (Or.inl ⟨by rfl, ?_⟩) (by assumption) ?_
        rotate_left
        · (intro w hSw; (try dsimp only at hSw); go_simp; (try with_reducible rfl))
        try simp only [Act.put, List.getElem_toArray, List.getElem_cons_succ, List.getElem_cons_zero, List.setIfInBounds_toArray, List.set_cons_zero, List.set_cons_succ]
        refine wpAnyH_take (i := 2) (v := ?_) rfl (by kernel_rfl) (by kernel_rfl) (by kernel_rfl) (fun _ _ _ h => h) (Or.inl ⟨by rfl, ?_⟩) (by assumption) ?_
        rotate_left
        · (intro w hSw; (try dsimp only at hSw); go_simp; (try with_reducible rfl))
        try simp only [Act.put, List.getElem_toArray, List.getElem_cons_succ, List.getElem_cons_zero, List.setIfInBounds_toArray, List.set_cons_zero, List.set_cons_succ]
        refine wpAnyH_ready (rs := [3]) (by kernel_rfl) (by simp) ?_
        refine AllReadyH.cons rfl (fun K hK => ?_) AllReadyH.nil
        go_simp
        go_wp2_with (go_at_call 59; refine (HFC.out _ (HT.out.kept (by have := hb2.out; exact blBy))).mono ?_; rintro e u1 ⟨rfl, hbu⟩; have Va : Hid (Blk u1 w.heap.size 24 #[.slice ta l.length tc]) := hid ((Ba2.out.kept (below_drew1 _)).kept hbu); have Vb : Hid (Blk u1 (w.heap.size + 1) 62 #[.string (strOfNums t.name), .bool t.enum, .slice (some ⟨fb, fo, none⟩) t.fs.length fc, .slice oa t.os.length oc, .slice sa t.ss.length sc, .slice ra t.rs.length rc]) := hid ((Bb2.out.kept (below_drew1 _)).kept hbu); have Vf : Hid (Blk u1 fp 39 #[.string (strOfNums f.name), .int .i64 f.num, .int .i64 f.kind, .int .i64 f.ref, .int .i64 f.lab, .int .i64 f.one, .int .i64 f.key]) := hid ((Bf2.out.kept (below_drew1 _)).kept hbu); have HVu := hid (own_kept HV2.out (bl_then (below_drew1 _) hbu)); have hbb : Hid (Below w.heap.size w u1) := hid (bl_then (by have := hb2.out; exact blBy) hbu); have c9u := hid (cell_below c9.out (bl_then (below_drew1 _) hbu)); have hsu := hbu.size; clear hbu)
        refine hK.out _ _ ?_ (fun hHeld => ?_)
        · exact ⟨Va.out.cellF, Vb.out.cellF, Vf.out.cellF, c9u.out⟩
        clear hK K
        try simp only [Act.put, List.getElem_toArray, List.getElem_cons_succ, List.getElem_cons_zero, List.setIfInBounds_toArray, List.set_cons_zero, List.set_cons_succ]
        refine wpAnyH_take (i := 4) (v := ?_) rfl (by kernel_rfl) (by kernel_rfl) (by kernel_rfl) (fun _ _ _ h => h) (Or.inl ⟨by rfl, ?_⟩) (by assumption) ?_
        rotate_left
        · (intro w hSw; (try dsimp only at hSw); go_simp; (try with_reducible rfl))
        try simp only [Act.put, List.getElem_toArray, List.getElem_cons_succ, List.getElem_cons_zero, List.setIfInBounds_toArray, List.set_cons_zero, List.set_cons_succ]
        refine wpAnyH_take (i := 5) (v := ?_) rfl (by kernel_rfl) (by kernel_rfl) (by kernel_rfl) (fun _ _ _ h => h) (Or.inl ⟨by rfl, ?_⟩) (by assumption) ?_
        rotate_left
        · (intro w hSw; (try dsimp only at hSw); go_simp; (try with_reducible rfl))
        try simp only [Act.put, List.getElem_toArray, List.getElem_cons_succ, List.getElem_cons_zero, List.setIfInBounds_toArray, List.set_cons_zero, List.set_cons_succ]
        refine wpAnyH_take (i := 6) (v := ?_) rfl (by kernel_rfl) (by kernel_rfl) (by kernel_rfl) (fun _ _ _ h => h) (Or.inl ⟨by rfl, ?_⟩) (by assumption) ?_
        rotate_left
        · (intro w hSw; (try dsimp only at hSw); go_simp; (try with_reducible rfl))
        try simp only [Act.put, List.getElem_toArray, List.getElem_cons_succ, List.getElem_cons_zero, List.setIfInBounds_toArray, List.set_cons_zero, List.set_cons_succ]
        refine wpAnyH_take (i := 7) (v := .bool true) rfl (by kernel_rfl) (by kernel_rfl) (by kernel_rfl) (fun _ _ _ h => h) (Or.inl ⟨by rfl, ?_⟩) (by assumption) ?_
        · (intro w hSw; first | (go_simp; done) | (go_simp; exact HZ.out) | (go_simp; rfl))
        try simp only [Act.put, List.getElem_toArray, List.getElem_cons_succ, List.getElem_cons_zero, List.setIfInBounds_toArray, List.set_cons_zero, List.set_cons_succ]
        refine wpAnyH_take (i := 8) (v := ?_) rfl (by kernel_rfl) (by kernel_rfl) (by kernel_rfl) (fun _ _ _ h => h) (Or.inl ⟨by rfl, ?_⟩) (by assumption) ?_
        rotate_left
        · (intro w hSw; (try dsimp only at hSw); go_simp; (try with_reducible rfl))
        try simp only [Act.put, List.getElem_toArray, List.getElem_cons_succ, List.getElem_cons_zero, List.setIfInBounds_toArray, List.set_cons_zero, List.set_cons_succ]
        refine wpAnyH_take (i := 9) (v := ?_) rfl (by kernel_rfl) (by kernel_rfl) (by kernel_rfl) (fun _ _ _ h => h) (Or.inl ⟨by rfl, ?_⟩) (by assumption) ?_
        rotate_left
        · (intro w hSw; (try dsimp only at hSw); go_simp; (try with_reducible rfl))
        try simp only [Act.put, List.getElem_toArray, List.getElem_cons_succ, List.getElem_cons_zero, List.setIfInBounds_toArray, List.set_cons_zero, List.set_cons_succ]
        refine wpAnyH_take (i := 10) (v := ?_) rfl (by kernel_rfl) (by kernel_rfl) (by kernel_rfl) (fun _ _ _ h => h) (Or.inl ⟨by rfl, ?_⟩) (by assumption) ?_
        rotate_left
        · (intro w hSw; (try dsimp only at hSw); go_simp; (try with_reducible rfl))
        try simp only [Act.put, List.getElem_toArray, List.getElem_cons_succ, List.getElem_cons_zero, List.setIfInBounds_toArray, List.set_cons_zero, List.set_cons_succ]
        refine wpAnyH_take (i := 11) (v := ?_) rfl (by kernel_rfl) (by kernel_rfl) (by kernel_rfl) (fun _ _ _ h => h) (Or.inl ⟨by rfl, ?_⟩) (by assumption) ?_
        rotate_left
        · (intro w hSw; (try dsimp only at hSw); go_simp; (try with_reducible rfl))
        try simp only [Act.put, List.getElem_toArray, List.getElem_cons_succ, List.getElem_cons_zero, List.setIfInBounds_toArray, List.set_cons_zero, List.set_cons_succ]
        refine wpAnyH_take (i := 12) (v := ?_) rfl (by kernel_rfl) (by kernel_rfl) (by kernel_rfl) (fun _ _ _ h => h) (Or.inl ⟨by rfl, ?_⟩) (by assumption) ?_
        rotate_left
        · (intro w hSw; (try dsimp only at hSw); go_simp; (try with_reducible rfl))
        try simp only [Act.put, List.getElem_toArray, List.getElem_cons_succ, List.getElem_cons_zero, List.setIfInBounds_toArray, List.set_cons_zero, List.set_cons_succ]
        refine wpAnyH_take (i := 13) (v := ?_) rfl (by kernel_rfl) (by kernel_rfl) (by kernel_rfl) (fun _ _ _ h => h) (Or.inl ⟨by rfl, ?_⟩) (by assumption) ?_
        rotate_left
        · (intro w hSw; (try dsimp only at hSw); go_simp; (try with_reducible rfl))
        try simp only [Act.put, List.getElem_toArray, List.getElem_cons_succ, List.getElem_cons_zero, List.setIfInBounds_toArray, List.set_cons_zero, List.set_cons_succ]
        refine wpAnyH_take (i := 14) (v := ?_) rfl (by kernel_rfl) (by kernel_rfl) (by kernel_rfl) (fun _ _ _ h => h) (Or.inl ⟨by rfl, ?_⟩) (by assumption) ?_
        rotate_left
        · (intro w hSw; (try dsimp only at hSw); go_simp; (try with_reducible rfl))
        try simp only [Act.put, List.getElem_toArray, List.getElem_cons_succ, List.getElem_cons_zero, List.setIfInBounds_toArray, List.set_cons_zero, List.set_cons_succ]
        refine wpAnyH_take (i := 15) (v := ?_) rfl (by kernel_rfl) (by kernel_rfl) (by kernel_rfl) (fun _ _ _ h => h) (Or.inl ⟨by rfl, ?_⟩) (by assumption) ?_
        rotate_left
        · (intro w hSw; (try dsimp only at hSw); go_simp; (try with_reducible rfl))
        try simp only [Act.put, List.getElem_toArray, List.getElem_cons_succ, List.getElem_cons_zero, List.setIfInBounds_toArray, List.set_cons_zero, List.set_cons_succ]
        refine wpAnyH_take (i := 16) (v := ?_) rfl (by kernel_rfl) (by kernel_rfl) (by kernel_rfl) (fun _ _ _ h => h) (Or.inl ⟨by rfl, ?_⟩) (by assumption) ?_
        rotate_left
        · (intro w hSw; (try dsimp only at hSw); go_simp; (try with_reducible rfl))
        try simp only [Act.put, List.getElem_toArray, List.getElem_cons_succ, List.getElem_cons_zero, List.setIfInBounds_toArray, List.set_cons_zero, List.set_cons_succ]
        refine wpAnyH_take (i := 17) (v := ?_) rfl (by kernel_rfl) (by kernel_rfl) (by kernel_rfl) (fun _ _ _ h => h) (Or.inl ⟨by rfl, ?_⟩) (by assumption) ?_
        rotate_left
        · (intro w hSw; (try dsimp only at hSw); go_simp; (try with_reducible rfl))
        try simp only [Act.put, List.getElem_toArray, List.getElem_cons_succ, List.getElem_cons_zero, List.setIfInBounds_toArray, List.set_cons_zero, List.set_cons_succ]
        refine wpAnyH_take (i := 18) (v := .bool false) rfl (by kernel_rfl) (by kernel_rfl) (by kernel_rfl) (fun _ _ _ h => h) (Or.inl ⟨by rfl, ?_⟩) (by assumption) ?_
        · (intro w hSw; first | (go_simp; done) | (go_simp; exact HZ.out) | (go_simp; rfl))
        try simp only [Act.put, List.getElem_toArray, List.getElem_cons_succ, List.getElem_cons_zero, List.setIfInBounds_toArray, List.set_cons_zero, List.set_cons_succ]
        refine wpAnyH_take (i := 19) (v := .bool false) rfl (by kernel_rfl) (by kernel_rfl) (by kernel_rfl) (fun _ _ _ h => h) (Or.inl ⟨by rfl, ?_⟩) (by assumption) ?_
        · (intro w hSw; first | (go_simp; done) | (go_simp; exact HZ.out) | (go_simp; rfl))
        try simp only [Act.put, List.getElem_toArray, List.getElem_cons_succ, List.getElem_cons_zero, List.setIfInBounds_toArray, List.set_cons_zero, List.set_cons_succ]
        refine wpAnyH_take (i := 20) (v := .bool false) rfl (by kernel_rfl) (by kernel_rfl) (by kernel_rfl) (fun _ _ _ h => h) (Or.inl ⟨by rfl, ?_⟩) (by assumption) ?_
        · (intro w hSw; first | (go_simp; done) | (go_simp; exact HZ.out) | (go_simp; rfl))
        try simp only [Act.put, List.getElem_toArray, List.getElem_cons_succ, List.getElem_cons_zero, List.setIfInBounds_toArray, List.set_cons_zero, List.set_cons_succ]
        refine wpAnyH_done (by kernel_rfl) ?_ _
        clear HFC Ba2 Bb2 Bf2 HV2 hb2
        go_wp2
        go_loopw [11] (fun r wr => ∃ k : Nat, r = .int .i64 k ∧ k ≤ t.rs.length ∧ Hid ((t.rs.take k).all (outP f.num) = true) ∧ Hid (wr.ownsRow w.heap.size 9 1 (.slice la (t.os.length + (n + 1) + 1) lc) (t.os ++ (t.fs.take (n + 1)).map FT.name ++ [f.name]).length ((t.os ++ (t.fs.take (n + 1)).map FT.name ++ [f.name]).flatMap cN)) ∧ Hid (Blk wr fp 39 #[.string (strOfNums f.name), .int .i64 f.num, .int .i64 f.kind, .int .i64 f.ref, .int .i64 f.lab, .int .i64 f.one, .int .i64 f.key]) ∧ Hid (Blk wr w.heap.size 24 #[.slice ta l.length tc]) ∧ Hid (Blk wr (w.heap.size + 1) 62 #[.string (strOfNums t.name), .bool t.enum, .slice (some ⟨fb, fo, none⟩) t.fs.length fc, .slice oa t.os.length oc, .slice sa t.ss.length sc, .slice ra t.rs.length rc]) ∧ Hid (Below w.heap.size w wr)) (fun r wr => t.rs.length - numAt wr r)
        case atStart => exact ⟨0, rfl, by omega, hid rfl, HVu, Vf, Va, Vb, hbb⟩
        case round =>
          clear HVu Vf Va Vb hbb
          obtain ⟨k, rfl, hk, hall, HV, Bf, Ba, Bb, hb⟩ := hrel
          have xa := Ba.out.cellF
          have za := Ba.out.lt
          have xb := Bb.out.cellF
          have zb := Bb.out.lt
          have xf := Bf.out.cellF
          have zf := Bf.out.lt
          by_cases hlt3 : k < t.rs.length
          case pos =>
            have h4 : (k : Int) < (t.rs.length : Int) := by omega
            obtain ⟨rb, ro, rfl, hblr, c0, c1⟩ := rowG (HR.out.kept hb.out) hlt3
            have HA := hid (takeG_all (p := outP f.num) hlt3)
            have HM : Hid (outP f.num t.rs[k] = false → t.rs.all (outP f.num) = false) := hid (allG_no hlt3)
            generalize t.rs[k] = g at *
            by_cases g1 : g.lo ≤ f.num
            case neg =>
              have g2 : (g.lo ≤ f.num) = False := eq_false g1
              have HO2 : Hid (outP f.num g = true) := hid (by unfold outP; rw [decide_eq_false (by omega)]; rfl)
              clear g1
              go_wp2
              go_region
              go_wp2
              exact ⟨⟨k + 1, by simp, by omega, hid (by rw [HA.out, hall.out, HO2.out]; rfl), hid (own_kept HV.out (by exact blBy)), hid (Bf.out.kept (by exact blBy)), hid (Ba.out.kept (by exact blBy)), hid (Bb.out.kept (by exact blBy)), hid (by have := hb.out; exact blBy)⟩, by simp [numAt]; omega⟩
            have g2 : (g.lo ≤ f.num) = True := eq_true g1
            by_cases g3 : f.num ≤ g.hi
            case neg =>
              have g4 : (f.num ≤ g.hi) = False := eq_false g3
              have HO2 : Hid (outP f.num g = true) := hid (by unfold outP; rw [decide_eq_false (by omega)]; rfl)
              clear g1 g3
              go_wp2
              go_region
              go_wp2
              exact ⟨⟨k + 1, by simp, by omega, hid (by rw [HA.out, hall.out, HO2.out]; rfl), hid (own_kept HV.out (by exact blBy)), hid (Bf.out.kept (by exact blBy)), hid (Ba.out.kept (by exact blBy)), hid (Bb.out.kept (by exact blBy)), hid (by have := hb.out; exact blBy)⟩, by simp [numAt]; omega⟩
            have g4 : (f.num ≤ g.hi) = True := eq_true g3
            have HE : Hid (res = false) := hid (by rw [HX.out, HM.out (by unfold outP; rw [decide_eq_true ⟨g1, g3⟩]; rfl)]; simp)
            clear g1 g3
            go_wp2
            go_region
            go_wp2
            go_ret
            exact ⟨ret_bool HE.out.symm, by have := hb.out; exact blBy⟩
          have h4 : ¬ (k : Int) < (t.rs.length : Int) := by omega
          have ek : t.rs.take k = t.rs := List.take_of_length_le (by omega)
          rw [ek] at hall
          rw [hrise.out, hall.out] at HX
          go_wp2
          exact ⟨⟨n + 1 + 1, la, lc, rfl, by simp, by omega, hid (by rw [HX.out]; simp), hid (by have := HV.out; rw [HTK.out, List.map_append, ← List.append_assoc]; exact this), Ba, Bb, hb⟩, by simp [numAt]; omega⟩
      have h2 : ¬ (i : Int) < (t.fs.length : Int) := by omega
      have ei : i = t.fs.length := by omega
      have e1 : t.fs.take i = t.fs := List.take_of_length_le (by omega)
      rw [e1] at HV
      subst ei
      replace HX := hid (show res = (nmsA [] (t.os ++ t.fs.map FT.name) && rgA t.rs 0 t.rs) by rw [HX.out, List.drop_of_length_le (by omega)]; rfl)
      clear e1 hi hlt h2
      have HTA : Hid (∀ x ∈ t.os ++ t.fs.map FT.name, TxA x) := hid (fun x hx => by
          rcases List.mem_append.1 hx with q | q
          · exact HKO.out x q
          · obtain ⟨y, hy, rfl⟩ := List.mem_map.1 q
            exact HKF.out y hy)
      have HRV : Hid (RowS wr AnyZ 1 (.slice na (t.os.length + t.fs.length) nc) (t.os ++ t.fs.map FT.name).length ((t.os ++ t.fs.map FT.name).flatMap cN)) := hid (own_row HV.out (fun _ _ => trivial))
      have HLM : Hid ((t.os ++ t.fs.map FT.name).length = t.os.length + t.fs.length) := hid (by simp)
      clear HV
      generalize t.os ++ t.fs.map FT.name = ns at *
      have hnl : t.os.length + t.fs.length ≤ 256 := by omega
      generalize t.os.length + t.fs.length = m at *
      have hml : ns.length = m := HLM.out
      clear HLM
      subst hml
      go_wp2
      go_loopw [12] (fun r wr => ∃ i : Nat, r = .int .i64 i ∧ i ≤ ns.length ∧ Hid (res = (nmsA (ns.take i) (ns.drop i) && rgA t.rs 0 t.rs)) ∧ Hid (RowS wr AnyZ 1 (.slice na ns.length nc) ns.length (ns.flatMap cN)) ∧ Hid (Blk wr w.heap.size 24 #[.slice ta l.length tc]) ∧ Hid (Blk wr (w.heap.size + 1) 62 #[.string (strOfNums t.name), .bool t.enum, .slice fa t.fs.length fc, .slice oa t.os.length oc, .slice sa t.ss.length sc, .slice ra t.rs.length rc]) ∧ Hid (Below w.heap.size w wr)) (fun r wr => ns.length - numAt wr r)
      case atStart => exact ⟨0, rfl, by omega, HX, HRV, Ba, Bb, hb⟩
      case round =>
        clear HX HRV Ba Bb hb xa za xb zb
        obtain ⟨i, rfl, hi, HX, HRV, Ba, Bb, hb⟩ := hrel
        by_cases hlt : i < ns.length
        case pos =>
          have h2 : (i : Int) < (ns.length : Int) := by omega
          obtain ⟨nb, no, rfl, hc⟩ := rowAt (g := cN) (fun _ => rfl) HRV.out (i := i) (x := ns[i]) (by simp [hlt])
          have c0 : wr.cell? ⟨nb, no + i, none⟩ = some (.string (strOfNums ns[i])) := by have := hc 0 _ rfl; simpa using this
          have hbl : nb < wr.heap.size := World.block_lt_of_cell? _ _ c0
          have HTY := HTA.out _ (List.getElem_mem hlt)
          have HST : Hid (nmsA (ns.take i) (ns.drop i) = (nmB ns[i] && (!(ns.take i).any (sameP ns[i]) && nmsA (ns.take (i + 1)) (ns.drop (i + 1))))) := hid (by rw [List.drop_eq_getElem_cons hlt, nmsA, List.take_succ_eq_append_getElem hlt])
          rw [HST.out] at HX
          clear HST hc
          have HGI : Hid (ns[i]? = some ns[i]) := hid (by simp [hlt])
          generalize ns[i] = s at *
          go_wp2_with fail
          refine (isNameR s _ HTY.1 HTY.2).mono ?_
          rintro e w2 ⟨rfl, rfl⟩
          cases hq : nmB s with
          | false =>
            have HE : Hid (res = false) := hid (by rw [HX.out, hq]; rfl)
            go_wp2
            go_ret
            exact ⟨ret_bool HE.out.symm, hb.out⟩
          | true =>
          replace HX := hid (show res = ((!(ns.take i).any (sameP s) && nmsA (ns.take (i + 1)) (ns.drop (i + 1))) && rgA t.rs 0 t.rs) by rw [HX.out, hq]; rfl)
          clear c0 hbl
          go_wp2
          go_loopw [13] (fun r wr => ∃ k : Nat, r = .int .i64 k ∧ k ≤ i ∧ Hid ((ns.take k).any (sameP s) = false) ∧ Hid (RowS wr AnyZ 1 (.slice (some ⟨nb, no, none⟩) ns.length nc) ns.length (ns.flatMap cN)) ∧ Hid (Blk wr w.heap.size 24 #[.slice ta l.length tc]) ∧ Hid (Blk wr (w.heap.size + 1) 62 #[.string (strOfNums t.name), .bool t.enum, .slice fa t.fs.length fc, .slice oa t.os.length oc, .slice sa t.ss.length sc, .slice ra t.rs.length rc]) ∧ Hid (Below w.heap.size w wr)) (fun r wr => i - numAt wr r)
          case atStart => exact ⟨0, rfl, by omega, hid rfl, HRV, Ba, Bb, hb⟩
          case round =>
            clear HRV Ba Bb hb
            obtain ⟨k, rfl, hk, hany, HRV, Ba, Bb, hb⟩ := hrel
            by_cases hlt2 : k < i
            case neg =>
              have h3 : ¬ (k : Int) < (i : Int) := by omega
              have ek : k = i := by omega
              subst ek
              rw [hany.out] at HX
              go_wp2
              exact ⟨⟨k + 1, by simp, by omega, hid (by rw [HX.out]; simp), HRV, Ba, Bb, hb⟩, by simp [numAt]; omega⟩
            have h3 : (k : Int) < (i : Int) := by omega
            have h4 : (k : Int) < (ns.length : Int) := by omega
            obtain ⟨b1, o1, e1, hc1⟩ := rowAt (g := cN) (fun _ => rfl) HRV.out (i := i) (x := s) HGI.out
            cases e1
            have c0 : wr.cell? ⟨nb, no + i, none⟩ = some (.string (strOfNums s)) := by have := hc1 0 _ rfl; simpa using this
            obtain ⟨b2, o2, e2, hc2⟩ := rowAt (g := cN) (fun _ => rfl) HRV.out (i := k) (x := ns[k]) (by simp)
            cases e2
            have c1 : wr.cell? ⟨nb, no + k, none⟩ = some (.string (strOfNums ns[k])) := by have := hc2 0 _ rfl; simpa using this
            have hbl : nb < wr.heap.size := World.block_lt_of_cell? _ _ c0
            have hs := str_eq HTY.1 (HTA.out _ (List.getElem_mem (show k < ns.length by omega))).1
            have HA := hid (takeG_any (p := sameP s) (show k < ns.length by omega))
            have HM : Hid (sameP s ns[k] = true → (ns.take i).any (sameP s) = true) := hid (anyG_mono hlt2 (by omega))
            clear hc1 hc2
            generalize ns[k] = y at *
            by_cases hq1 : s = y
            case pos =>
              rw [decide_eq_true hq1] at hs
              have HE : Hid (res = false) := hid (by rw [HX.out, HM.out (decide_eq_true hq1)]; rfl)
              replace hq1 := hid hq1
              go_wp2
              go_region
              go_wp2
              go_ret
              exact ⟨ret_bool HE.out.symm, by have := hb.out; exact blBy⟩
            rw [decide_eq_false hq1] at hs
            have HA2 : Hid ((ns.take (k + 1)).any (sameP s) = false) := hid (by rw [HA.out, hany.out, show sameP s y = false from decide_eq_false hq1]; rfl)
            replace hq1 := hid hq1
            go_wp2
            go_region
            go_wp2
            exact ⟨⟨k + 1, by simp, by omega, HA2, hid (HRV.out.kept (by exact blBy)), hid (Ba.out.kept (by exact blBy)), hid (Bb.out.kept (by exact blBy)), hid (by have := hb.out; exact blBy)⟩, by simp [numAt]; omega⟩
        have h2 : ¬ (i : Int) < (ns.length : Int) := by omega
        replace HX := hid (show res = rgA t.rs 0 t.rs by rw [HX.out, List.drop_of_length_le (by omega)]; rfl)
        clear hi hlt HRV
        go_wp2
        go_loopw [14] (fun r wr => ∃ i : Nat, r = .int .i64 i ∧ i ≤ t.rs.length ∧ Hid (res = rgA t.rs i (t.rs.drop i)) ∧ Hid (Blk wr w.heap.size 24 #[.slice ta l.length tc]) ∧ Hid (Blk wr (w.heap.size + 1) 62 #[.string (strOfNums t.name), .bool t.enum, .slice fa t.fs.length fc, .slice oa t.os.length oc, .slice sa t.ss.length sc, .slice ra t.rs.length rc]) ∧ Hid (Below w.heap.size w wr)) (fun r wr => t.rs.length - numAt wr r)
        case atStart => exact ⟨0, rfl, by omega, HX, Ba, Bb, hb⟩
        case round =>
          clear HX Ba Bb hb h2
          obtain ⟨i, rfl, hi, HX, Ba, Bb, hb⟩ := hrel
          have xa := Ba.out.cellF
          have za := Ba.out.lt
          have xb := Bb.out.cellF
          have zb := Bb.out.lt
          by_cases hlt : i < t.rs.length
          case neg =>
            have h2 : ¬ (i : Int) < (t.rs.length : Int) := by omega
            have HE : Hid (res = true) := hid (by rw [HX.out, List.drop_of_length_le (by omega)]; rfl)
            go_wp2
            go_ret
            exact ⟨ret_bool HE.out.symm, hb.out⟩
          have h2 : (i : Int) < (t.rs.length : Int) := by omega
          obtain ⟨rb, ro, rfl, hblr, c0, c1⟩ := rowG (HR.out.kept hb.out) hlt
          have HST : Hid (rgA t.rs i (t.rs.drop i) = (rgP t.rs i t.rs[i] && rgA t.rs (i + 1) (t.rs.drop (i + 1)))) := hid (by rw [List.drop_eq_getElem_cons hlt, rgA])
          rw [HST.out] at HX
          clear HST
          have HPR : Hid (∀ n, i = n + 1 → wr.cell? ⟨rb, ro + n * 2 + 1, none⟩ = some (.int .i64 ((t.rs[n]?.map RG.hi).getD 0))) := hid (fun n hn => by
              obtain ⟨b3, o3, e3, -, -, c3⟩ := rowG (HR.out.kept hb.out) (show n < t.rs.length by omega)
              cases e3
              rw [c3, List.getElem?_eq_getElem (show n < t.rs.length by omega)]; rfl)
          generalize t.rs[i] = g at *
          go_upto_region 41 with fail
          have Bg : Blk (wr.alloc (.cells #[.int .i64 g.lo, .int .i64 g.hi] 97)) wr.heap.size 97 #[.int .i64 g.lo, .int .i64 g.hi] := Blk.new _ _ _
          have Ba1 := hid (Ba.out.kept (below_alloc (w := wr) (.cells #[.int .i64 g.lo, .int .i64 g.hi] 97)))
          have Bb1 := hid (Bb.out.kept (below_alloc (w := wr) (.cells #[.int .i64 g.lo, .int .i64 g.hi] 97)))
          have hb1 : Hid (Below w.heap.size w (wr.alloc (.cells #[.int .i64 g.lo, .int .i64 g.hi] 97))) := hid (by have := hb.out; exact blBy)
          have HPR1 : Hid (∀ n, i = n + 1 → (wr.alloc (.cells #[.int .i64 g.lo, .int .i64 g.hi] 97)).cell? ⟨rb, ro + n * 2 + 1, none⟩ = some (.int .i64 ((t.rs[n]?.map RG.hi).getD 0))) := hid (fun n hn => cell_below (HPR.out n hn) (below_alloc _))
          have hblr2 : rb < (wr.alloc (.cells #[.int .i64 g.lo, .int .i64 g.hi] 97)).heap.size := by simp; omega
          have hgp : w.heap.size + 1 < wr.heap.size := zb
          clear Ba Bb hb HPR xa za xb zb c0 c1 hblr
          generalize (wr.alloc (.cells #[.int .i64 g.lo, .int .i64 g.hi] 97)) = W2 at *
          generalize wr.heap.size = gp at *
          have xg := Bg.cellF
          have zg := Bg.lt
          have Ba := Ba1
          have Bb := Bb1
          have hb := hb1
          have HPR := HPR1
          clear Ba1 Bb1 hb1 HPR1 Bg
          have xa := Ba.out.cellF
          have za := Ba.out.lt
          have xb := Bb.out.cellF
          have zb := Bb.out.lt
          have HPD : Hid (rgP t.rs i g = (decide (1 ≤ g.lo) && (decide (g.hi ≤ 536870911) && (decide (g.lo ≤ g.hi) && decide (i = 0 ∨ (t.rs[i - 1]?.map RG.hi).getD 0 < g.lo))))) := hid rfl
          by_cases g1 : g.lo < 1
          case pos =>
            have g2 : (g.lo < 1) = True := eq_true g1
            have HE : Hid (res = false) := hid (by rw [HX.out, HPD.out]; rw [decide_eq_false (p := 1 ≤ g.lo) (by omega)]; rfl)
            go_region
            go_wp2
            go_ret
            exact ⟨ret_bool HE.out.symm, by have := hb.out; exact blBy⟩
          have g2 : (g.lo < 1) = False := eq_false g1
          by_cases g3 : 536870911 < g.hi
          case pos =>
            have g4 : (536870911 < g.hi) = True := eq_true g3
            have HE : Hid (res = false) := hid (by rw [HX.out, HPD.out]; rw [decide_eq_false (p := g.hi ≤ 536870911) (by omega)]; simp)
            go_region
            go_wp2
            go_ret
            exact ⟨ret_bool HE.out.symm, by have := hb.out; exact blBy⟩
          have g4 : (536870911 < g.hi) = False := eq_false g3
          by_cases g5 : g.hi < g.lo
          case pos =>
            have g6 : (g.hi < g.lo) = True := eq_true g5
            have HE : Hid (res = false) := hid (by rw [HX.out, HPD.out]; rw [decide_eq_false (p := g.lo ≤ g.hi) (by omega)]; simp)
            go_region
            go_wp2
            go_ret
            exact ⟨ret_bool HE.out.symm, by have := hb.out; exact blBy⟩
          have g6 : (g.hi < g.lo) = False := eq_false g5
          rw [HPD.out, decide_eq_true (p := 1 ≤ g.lo) (by omega), decide_eq_true (p := g.hi ≤ 536870911) (by omega), decide_eq_true (p := g.lo ≤ g.hi) (by omega), Bool.true_and, Bool.true_and, Bool.true_and] at HX
          clear g1 g3 g5 HPD
          by_cases hz : i = 0
          case pos =>
            have h0 : ((0 : Int) < (i : Int)) = False := eq_false (by omega)
            have h0b : (0 < i) = False := eq_false (by omega)
            have HE : Hid (res = rgA t.rs (i + 1) (t.rs.drop (i + 1))) := hid (by rw [HX.out, decide_eq_true (.inl hz)]; rfl)
            have HZ := hid hz
            clear hz
            go_region
            go_wp2
            exact ⟨⟨i + 1, by simp, by omega, HE, hid (Ba.out.kept (by exact blBy)), hid (Bb.out.kept (by exact blBy)), hid (by have := hb.out; exact blBy)⟩, by simp [numAt]; omega⟩
          obtain ⟨n, hn⟩ : ∃ n, i = n + 1 := ⟨i - 1, by omega⟩
          have c9 := HPR.out n hn
          subst hn
          rw [Nat.add_sub_cancel] at HX
          generalize (t.rs[n]?.map RG.hi).getD 0 = ph at *
          have h0 : ((0 : Int) < (n : Int) + 1) = True := eq_true (by omega)
          have h5 : (n : Int) < (t.rs.length : Int) := by omega
          have n1 : (n : Int) ≤ 4000000 := by omega
          have n0 : (0 : Int) ≤ (n : Int) := by omega
          have hwn : IntKind.i64.wrap (n : Int) = (n : Int) := wrapN (by omega)
          clear hz HPR
          by_cases g7 : g.lo ≤ ph
          case pos =>
            have g8 : (g.lo ≤ ph) = True := eq_true g7
            have HE : Hid (res = false) := hid (by rw [HX.out, decide_eq_false (by omega)]; rfl)
            go_region
            go_wp2
            go_ret
            exact ⟨ret_bool HE.out.symm, by have := hb.out; exact blBy⟩
          have g8 : (g.lo ≤ ph) = False := eq_false g7
          have HE : Hid (res = rgA t.rs (n + 1 + 1) (t.rs.drop (n + 1 + 1))) := hid (by rw [HX.out, decide_eq_true (.inr (by omega))]; rfl)
          clear g7
          go_region
          go_wp2
          exact ⟨⟨n + 1 + 1, by simp, by omega, HE, hid (Ba.out.kept (by exact blBy)), hid (Bb.out.kept (by exact blBy)), hid (by have := hb.out; exact blBy)⟩, by simp [numAt]; omega⟩
end Go.Proofs.YtbiohlfcikdldaaDoor
