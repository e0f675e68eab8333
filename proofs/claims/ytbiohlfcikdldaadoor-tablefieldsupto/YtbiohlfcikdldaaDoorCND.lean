/-
  A type's name by what stands ahead (the document's).
  An enum's type (the document's).
  A field by itself (the document's): what it answers.
  A message's type: what the document answers.
  A field by itself (the document's): kinds below 16.
-/
import Derived.Test.YtbiohlfcikdldaaDoorCTY
import Derived.Deep.CutRange
import Derived.Test.YtbiohlfcikdldaaDoorCTH
import Derived.Test.YtbiohlfcikdldaaDoorCTP
namespace Go.Proofs.YtbiohlfcikdldaaDoor
open Go.RowKit
set_option maxRecDepth 1000000
set_option linter.unusedVariables false
set_option linter.unusedSimpArgs false
set_option maxHeartbeats 1000000
def lastP (nm : List Int) : List Int := ((cutI nm)[(cutI nm).length - 1]?).getD []
def hdN (nm : List Int) : Nat := nm.length - (lastP nm).length - 1
def headA (hd : List Int) : List TV → Bool
  | [] => false
  | v :: r => if nameP hd v = true then !v.t.enum else headA hd r
def nmdB (l : List TV) (i : Nat) (t : TT) : Bool := !(l.take i).any (nameP t.name) && (decide ((cutI t.name).length ≤ if t.enum = true then 9 else 8) && ((cutI t.name).all nmB && (decide ((cutI t.name).length = 1) || headA (t.name.take (hdN t.name)) (l.take i))))
theorem cutI_last : ∀ (l : List Int), 1 < (cutI l).length → (((cutI l)[(cutI l).length - 1]?).getD []).length + 1 ≤ l.length
  | [], h => by simp [cutI] at h
  | c :: r, h => by
    obtain ⟨p, q, e⟩ := cutI_ne r
    rw [cutI, e] at h ⊢
    by_cases hc : c = 46
    · rw [if_pos hc] at h ⊢
      by_cases hq : q = []
      · subst hq
        have := (cutI_mem r p (by rw [e]; simp)).2
        simp
        omega
      · have hl : 0 < q.length := List.length_pos_iff.2 hq
        have ih := cutI_last r (by rw [e]; simp; omega)
        rw [e] at ih
        simp only [List.length_cons] at ih ⊢
        rw [show q.length + 1 + 1 - 1 = (q.length + 1 - 1) + 1 by omega, List.getElem?_cons_succ]
        omega
    · rw [if_neg hc] at h ⊢
      simp only [List.headD_cons, List.tail_cons] at h ⊢
      have hl : 0 < q.length := by simp at h; omega
      have ih := cutI_last r (by rw [e]; simp; omega)
      rw [e] at ih
      simp only [List.length_cons] at ih ⊢
      rw [show q.length + 1 - 1 = (q.length - 1) + 1 by omega, List.getElem?_cons_succ] at ih ⊢
      omega
theorem take_any {l : List TV} {p : TV → Bool} {j : Nat} (h : j < l.length) : (l.take (j + 1)).any p = ((l.take j).any p || p l[j]) := by
  rw [List.take_succ_eq_append_getElem h, List.any_append]; simp
theorem any_mono {l : List TV} {p : TV → Bool} {j i : Nat} (h : j < i) (hj : j < l.length) (hp : p l[j] = true) : (l.take i).any p = true := by
  rw [List.any_eq_true]
  exact ⟨l[j], List.mem_take_iff_getElem.2 ⟨j, by omega, rfl⟩, hp⟩
theorem namedR (w : World) (l : List TV) (ta : Option Addr) (tc i : Nat) (h : TbR w (.slice ta l.length tc) l) (hk : ∀ x ∈ l, TxA x.t.name) (hz : ∀ x ∈ l, x.t.name.length < 4000000) (hi : i < l.length) : Calls Tryd.prog 39 #[.agg #[.slice ta l.length tc], .int .i64 (i : Int)] w fun e w' => e = .returned (.bool (nmdB l i l[i].t)) ∧ Below w.heap.size w w' := by
  obtain ⟨_, _, e, hn⟩ := rowS_sl h.row
  clear e
  have h63 : (l.length : Int) ≤ 9223372036854775807 := by omega
  have hil : (i : Int) < (l.length : Int) := by omega
  have HT := hid h
  have HK := hid hk
  have HX : Hid (nmdB l i l[i].t = (!(l.take i).any (nameP l[i].t.name) && (decide ((cutI l[i].t.name).length ≤ if l[i].t.enum = true then 9 else 8) && ((cutI l[i].t.name).all nmB && (decide ((cutI l[i].t.name).length = 1) || headA (l[i].t.name.take (hdN l[i].t.name)) (l.take i)))))) := hid rfl
  have HN := hk _ (List.getElem_mem hi)
  have HZ := hz _ (List.getElem_mem hi)
  have HTY := hid (h.ty _ (List.getElem_mem hi))
  obtain ⟨tb, tof, rfl, hbl, c0, c1, c2, c3, c4, c5⟩ := row6 h.row hi
  clear h hk hz
  generalize nmdB l i l[i].t = res at *
  generalize l[i] = x at *
  obtain ⟨t, vf, vo, vs, vr⟩ := x
  obtain ⟨fa, fc, ef, -⟩ := rowS_sl HTY.out.f
  obtain ⟨oa, oc, eo, -⟩ := rowS_sl HTY.out.o
  obtain ⟨sa, sc, es, -⟩ := rowS_sl HTY.out.s
  obtain ⟨ra, rc, er, -⟩ := rowS_sl HTY.out.r
  dsimp only at ef eo es er
  subst ef eo es er
  clear HTY
  dsimp only at HX HN HZ c0 c1 c2 c3 c4 c5
  go_enter Tryd.func39, Tryd.ntmps39
  go_wp2
  have Ba : Blk ((w.alloc (.cells #[.slice (some ⟨tb, tof, none⟩) l.length tc] 24)).alloc (.cells #[.string (strOfNums t.name), .bool t.enum, .slice fa t.fs.length fc, .slice oa t.os.length oc, .slice sa t.ss.length sc, .slice ra t.rs.length rc] 62)) w.heap.size 24 #[.slice (some ⟨tb, tof, none⟩) l.length tc] := ((Blk.new _ _ _).kept (below_alloc _))
  have Bb : Blk ((w.alloc (.cells #[.slice (some ⟨tb, tof, none⟩) l.length tc] 24)).alloc (.cells #[.string (strOfNums t.name), .bool t.enum, .slice fa t.fs.length fc, .slice oa t.os.length oc, .slice sa t.ss.length sc, .slice ra t.rs.length rc] 62)) (w.heap.size + 1) 62 #[.string (strOfNums t.name), .bool t.enum, .slice fa t.fs.length fc, .slice oa t.os.length oc, .slice sa t.ss.length sc, .slice ra t.rs.length rc] := (Blk.newAt (by simp))
  have hb0 : Hid (Below w.heap.size w ((w.alloc (.cells #[.slice (some ⟨tb, tof, none⟩) l.length tc] 24)).alloc (.cells #[.string (strOfNums t.name), .bool t.enum, .slice fa t.fs.length fc, .slice oa t.os.length oc, .slice sa t.ss.length sc, .slice ra t.rs.length rc] 62))) := hid (by exact blBy)
  generalize ((w.alloc (.cells #[.slice (some ⟨tb, tof, none⟩) l.length tc] 24)).alloc (.cells #[.string (strOfNums t.name), .bool t.enum, .slice fa t.fs.length fc, .slice oa t.os.length oc, .slice sa t.ss.length sc, .slice ra t.rs.length rc] 62)) = W at *
  clear c0 c1 c2 c3 c4 c5 hbl
  go_loopw [6] (fun r wr => ∃ j : Nat, r = .int .i64 j ∧ j ≤ i ∧ Hid ((l.take j).any (nameP t.name) = false) ∧ Hid (Blk wr w.heap.size 24 #[.slice (some ⟨tb, tof, none⟩) l.length tc]) ∧ Hid (Blk wr (w.heap.size + 1) 62 #[.string (strOfNums t.name), .bool t.enum, .slice fa t.fs.length fc, .slice oa t.os.length oc, .slice sa t.ss.length sc, .slice ra t.rs.length rc]) ∧ Hid (Below w.heap.size w wr)) (fun r wr => i - numAt wr r)
  case atStart => exact ⟨0, rfl, by omega, hid rfl, hid Ba, hid Bb, hb0⟩
  case round =>
    clear Ba Bb hb0
    obtain ⟨j, rfl, hj, hany, Ba, Bb, hb⟩ := hrel
    have xa := Ba.out.cellF
    have za := Ba.out.lt
    have xb := Bb.out.cellF
    have zb := Bb.out.lt
    by_cases hlt : j < i
    · have h2 : (j : Int) < (i : Int) := by omega
      have h3 : (j : Int) < (l.length : Int) := by omega
      obtain ⟨b', o', e, hbl, c0, -⟩ := row6 (HT.out.row.kept hb.out) (show j < l.length by omega)
      cases e
      have hs := str_eq (HK.out _ (List.getElem_mem (show j < l.length by omega))).1 HN.1
      have HA := hid (take_any (p := nameP t.name) (show j < l.length by omega))
      have HM : Hid (nameP t.name l[j] = true → (l.take i).any (nameP t.name) = true) := hid (any_mono hlt (by omega))
      generalize l[j] = y at *
      by_cases hq : y.t.name = t.name
      · rw [decide_eq_true hq] at hs
        have HF : Hid (res = false) := hid (by rw [HX.out, HM.out (decide_eq_true hq)]; rfl)
        replace hq := hid hq
        go_wp2
        go_region
        go_wp2
        go_ret
        exact ⟨ret_bool HF.out.symm, by have := hb.out; exact blBy⟩
      · rw [decide_eq_false hq] at hs
        have HA2 : Hid ((l.take (j + 1)).any (nameP t.name) = false) := hid (by rw [HA.out, hany.out, show nameP t.name y = false from decide_eq_false hq]; rfl)
        replace hq := hid hq
        go_wp2
        go_region
        go_wp2
        exact ⟨⟨j + 1, by simp, by omega, HA2, hid (Ba.out.kept (by exact blBy)), hid (Bb.out.kept (by exact blBy)), hid (by have := hb.out; exact blBy)⟩, by simp [numAt]; omega⟩
    · have h2 : ¬ (j : Int) < (i : Int) := by omega
      have ej : j = i := by omega
      subst ej
      replace HX := hid (show res = (decide ((cutI t.name).length ≤ if t.enum = true then 9 else 8) && ((cutI t.name).all nmB && (decide ((cutI t.name).length = 1) || headA (t.name.take (hdN t.name)) (l.take j)))) by rw [HX.out, hany.out]; rfl)
      clear hany
      go_wp2_with fail
      refine (partsR t.name _ HN.1 HZ).mono ?_
      rintro e w1 ⟨⟨pa, pc, rfl, HP⟩, hb1⟩
      have Ca := hid (Ba.out.kept hb1)
      have Cb := hid (Bb.out.kept hb1)
      clear Ba Bb xa xb za zb
      have xa := Ca.out.cellF
      have za := Ca.out.lt
      have xb := Cb.out.cellF
      have zb := Cb.out.lt
      replace hb1 : Hid (Below w.heap.size w w1) := hid (bl_then hb.out hb1)
      clear hb
      have hcl := cutI_len t.name
      have hcc := List.count_le_length (a := (46 : Int)) (l := t.name)
      have HPT : Hid (∀ x ∈ cutI t.name, TxA x) := hid fun x hx => ⟨fun c hc => HN.1 c ((cutI_mem _ _ hx).1 c hc), by have := (cutI_mem _ _ hx).2; omega⟩
      have HH : Hid (1 < (cutI t.name).length → ∃ lp, (cutI t.name)[(cutI t.name).length - 1]? = some lp ∧ t.name.length = hdN t.name + lp.length + 1) := hid fun q => by
        have h1 := cutI_last t.name q
        have h2 : (cutI t.name)[(cutI t.name).length - 1]? = some ((cutI t.name)[(cutI t.name).length - 1]) := by simp
        refine ⟨_, h2, ?_⟩
        unfold hdN lastP
        rw [h2] at h1 ⊢
        simp only [Option.getD_some] at h1 ⊢
        omega
      have hlen1 : 1 ≤ (cutI t.name).length := by omega
      have hlen2 : (cutI t.name).length ≤ 4000000 := by omega
      clear hcl hcc
      generalize cutI t.name = ps at *
      have hps : (ps.length : Int) ≤ 9223372036854775807 := by omega
      have HSZ : (strOfNums t.name).size = t.name.length := strOfNums_size _
      cases q0 : t.enum with
      | true =>
        replace HX := hid (show res = (decide (ps.length ≤ 9) && (ps.all nmB && (decide (ps.length = 1) || headA (t.name.take (hdN t.name)) (l.take j)))) by rw [HX.out, q0]; rfl)
        by_cases hbig : 9 < ps.length
        case pos =>
          have k1 : (9 : Int) < (ps.length : Int) := by omega
          have HF : Hid (res = false) := hid (by rw [HX.out, decide_eq_false (by omega)]; rfl)
          go_wp2
          go_ret
          exact ⟨ret_bool HF.out.symm, by have := hb1.out; exact blBy⟩
        have k1 : ¬ (9 : Int) < (ps.length : Int) := by omega
        replace HX := hid (show res = (ps.all nmB && (decide (ps.length = 1) || headA (t.name.take (hdN t.name)) (l.take j))) by rw [HX.out, decide_eq_true (by omega)]; rfl)
        go_wp2
        go_loopw [9] (fun r wr => ∃ k : Nat, r = .int .i64 k ∧ k ≤ ps.length ∧ Hid ((ps.take k).all nmB = true) ∧ Hid (RowS wr AnyZ 1 (.slice pa ps.length pc) ps.length (ps.flatMap cN)) ∧ Hid (Blk wr w.heap.size 24 #[.slice (some ⟨tb, tof, none⟩) l.length tc]) ∧ Hid (Blk wr (w.heap.size + 1) 62 #[.string (strOfNums t.name), .bool t.enum, .slice fa t.fs.length fc, .slice oa t.os.length oc, .slice sa t.ss.length sc, .slice ra t.rs.length rc]) ∧ Hid (Below w.heap.size w wr)) (fun r wr => ps.length - numAt wr r)
        case atStart => exact ⟨0, rfl, by omega, hid rfl, HP, Ca, Cb, hb1⟩
        case round =>
          clear Ca Cb xa za xb zb hb1 HP
          obtain ⟨k, rfl, hk, hall, HP, Ca, Cb, hb1⟩ := hrel
          by_cases hlt : k < ps.length
          · have h4 : (k : Int) < (ps.length : Int) := by omega
            obtain ⟨b, o, rfl, hc⟩ := rowAt (g := cN) (fun _ => rfl) HP.out (i := k) (x := ps[k]) (by simp [hlt])
            have c0 : wr.cell? ⟨b, o + k, none⟩ = some (.string (strOfNums ps[k])) := by have := hc 0 _ rfl; simpa using this
            have hbl : b < wr.heap.size := World.block_lt_of_cell? _ _ c0
            have HTY := HPT.out _ (List.getElem_mem hlt)
            have HTK : Hid ((ps.take (k + 1)).all nmB = nmB ps[k]) := hid (by rw [List.take_succ_eq_append_getElem hlt, List.all_append, hall.out]; simp)
            have HAL : Hid (ps.all nmB = true → nmB ps[k] = true) := hid (fun q => List.all_eq_true.1 q _ (List.getElem_mem hlt))
            generalize ps[k] = y at *
            go_wp2_with fail
            refine (isNameR y _ HTY.1 HTY.2).mono ?_
            rintro e w2 ⟨rfl, rfl⟩
            cases hq : nmB y with
            | true =>
              go_wp2
              exact ⟨⟨k + 1, by simp, by omega, hid (by rw [HTK.out, hq]), HP, Ca, Cb, hb1⟩, by simp [numAt]; omega⟩
            | false =>
              have HF : Hid (res = false) := hid (by rw [HX.out]; cases qq : ps.all nmB with | false => rfl | true => rw [HAL.out qq] at hq; cases hq)
              go_wp2
              go_ret
              exact ⟨ret_bool HF.out.symm, hb1.out⟩
          have h4 : ¬ (k : Int) < (ps.length : Int) := by omega
          have ek : ps.take k = ps := List.take_of_length_le (by omega)
          rw [ek] at hall
          replace HX := hid (show res = (decide (ps.length = 1) || headA (t.name.take (hdN t.name)) (l.take j)) by rw [HX.out, hall.out]; rfl)
          clear hall ek
          have xa := Ca.out.cellF
          have za := Ca.out.lt
          have xb := Cb.out.cellF
          have zb := Cb.out.lt
          by_cases h1 : ps.length = 1
          case pos =>
            have k2 : ((ps.length : Int) == 1) = true := by rw [beq_iff_eq]; omega
            have HF : Hid (res = true) := hid (by rw [HX.out, decide_eq_true h1]; rfl)
            replace h1 := hid h1
            go_wp2
            go_ret
            exact ⟨ret_bool HF.out.symm, hb1.out⟩
          have k2 : ((ps.length : Int) == 1) = false := by rw [beq_eq_false_iff_ne]; omega
          replace HX := hid (show res = headA (t.name.take (hdN t.name)) (l.take j) by rw [HX.out, decide_eq_false h1]; rfl)
          obtain ⟨lp, hlp, hsum⟩ := HH.out (by omega)
          obtain ⟨b, o, rfl, hc⟩ := rowAt (g := cN) (fun _ => rfl) HP.out (i := ps.length - 1) (x := lp) hlp
          have c0 : wr.cell? ⟨b, o + (ps.length - 1), none⟩ = some (.string (strOfNums lp)) := by have := hc 0 _ rfl; simpa using this
          have hbl : b < wr.heap.size := World.block_lt_of_cell? _ _ c0
          obtain ⟨n, hn2⟩ : ∃ n, ps.length = n + 1 := ⟨ps.length - 1, by omega⟩
          rw [hn2, Nat.add_sub_cancel] at c0
          have HSL : (strOfNums lp).size = lp.length := strOfNums_size _
          have HS : Hid ((strOfNums t.name).extract 0 (hdN t.name) = strOfNums (t.name.take (hdN t.name))) := hid (by rw [str_cut]; rfl)
          have HHD : TxA (t.name.take (hdN t.name)) := ⟨fun c hc => HN.1 c (List.mem_of_mem_take hc), by have := HN.2; simp; omega⟩
          have hhd : hdN t.name < t.name.length := by omega
          generalize hdN t.name = hd at *
          have hs1 : (t.name.length : Int) - (lp.length : Int) - 1 = (hd : Int) := by omega
          have hs2 : (t.name.length : Int) - (lp.length : Int) = (hd : Int) + 1 := by omega
          have hn1 : 1 ≤ n := by omega
          have hhd' : (hd : Int) ≤ (t.name.length : Int) := by omega
          clear h1 hlp hc HH HPT HP hsum
          generalize ps.length = pl at *
          subst hn2
          have k4 : ((n : Int) + 1 == 1) = false := by rw [beq_eq_false_iff_ne]; omega
          have n1 : (n : Int) ≤ 4000000 := by omega
          have n2 : (n : Int) < (n : Int) + 1 := by omega
          clear hlen1 hlen2 hps k1 k2
          go_wp2
          go_region
          have Ca1 := hid (Ca.out.kept (show Below wr.heap.size wr wr.drew by exact blBy))
          have Cb1 := hid (Cb.out.kept (show Below wr.heap.size wr wr.drew by exact blBy))
          have hb2 : Hid (Below w.heap.size w wr.drew) := hid (by have := hb1.out; exact blBy)
          clear Ca Cb xa za xb zb hb1 c0 hbl
          generalize wr.drew = W2 at *
          go_wp2
          go_loopw [11] (fun r wr => ∃ k : Nat, r = .int .i64 k ∧ k ≤ j ∧ Hid (headA (t.name.take hd) (l.take j) = headA (t.name.take hd) ((l.take j).drop k)) ∧ Hid (Blk wr w.heap.size 24 #[.slice (some ⟨tb, tof, none⟩) l.length tc]) ∧ Hid (Blk wr (w.heap.size + 1) 62 #[.string (strOfNums t.name), .bool t.enum, .slice fa t.fs.length fc, .slice oa t.os.length oc, .slice sa t.ss.length sc, .slice ra t.rs.length rc]) ∧ Hid (Below w.heap.size w wr)) (fun r wr => j - numAt wr r)
          case atStart => exact ⟨0, rfl, by omega, hid rfl, Ca1, Cb1, hb2⟩
          case round =>
            clear Ca1 Cb1 hb2
            obtain ⟨k, rfl, hk2, hh, Ca, Cb, hb1⟩ := hrel
            have xa := Ca.out.cellF
            have za := Ca.out.lt
            have xb := Cb.out.cellF
            have zb := Cb.out.lt
            by_cases hlt : k < j
            · have h6 : (k : Int) < (j : Int) := by omega
              have h7 : (k : Int) < (l.length : Int) := by omega
              obtain ⟨b', o', e, hbl, c0, c1, -⟩ := row6 (HT.out.row.kept hb1.out) (show k < l.length by omega)
              cases e
              have hs := str_eq (HK.out _ (List.getElem_mem (show k < l.length by omega))).1 HHD.1
              rw [← HS.out] at hs
              have HST : Hid (headA (t.name.take hd) ((l.take j).drop k) = if nameP (t.name.take hd) l[k] = true then !l[k].t.enum else headA (t.name.take hd) ((l.take j).drop (k + 1))) := hid (by rw [List.drop_eq_getElem_cons (by simp; omega), headA, List.getElem_take])
              generalize l[k] = y at *
              by_cases hq : y.t.name = t.name.take hd
              · rw [decide_eq_true hq] at hs
                have HF : Hid (res = !y.t.enum) := hid (by rw [HX.out, hh.out, HST.out, if_pos (show nameP _ y = true from decide_eq_true hq)])
                replace hq := hid hq
                go_wp2
                go_ret
                exact ⟨ret_bool HF.out.symm, by have := hb1.out; exact blBy⟩
              · rw [decide_eq_false hq] at hs
                have HF : Hid (headA (t.name.take hd) (l.take j) = headA (t.name.take hd) ((l.take j).drop (k + 1))) := hid (by rw [hh.out, HST.out, if_neg (by rw [show nameP _ y = false from decide_eq_false hq]; simp)])
                replace hq := hid hq
                go_wp2
                exact ⟨⟨k + 1, by simp, by omega, HF, Ca, Cb, hb1⟩, by simp [numAt]; omega⟩
            · have h6 : ¬ (k : Int) < (j : Int) := by omega
              have HF : Hid (res = false) := hid (by rw [HX.out, hh.out, List.drop_of_length_le (by simp; omega)]; rfl)
              go_wp2
              go_ret
              exact ⟨ret_bool HF.out.symm, by have := hb1.out; exact blBy⟩
      | false =>
        replace HX := hid (show res = (decide (ps.length ≤ 8) && (ps.all nmB && (decide (ps.length = 1) || headA (t.name.take (hdN t.name)) (l.take j)))) by rw [HX.out, q0]; rfl)
        by_cases hbig : 8 < ps.length
        case pos =>
          have k1 : (8 : Int) < (ps.length : Int) := by omega
          have HF : Hid (res = false) := hid (by rw [HX.out, decide_eq_false (by omega)]; rfl)
          go_wp2
          go_ret
          exact ⟨ret_bool HF.out.symm, by have := hb1.out; exact blBy⟩
        have k1 : ¬ (8 : Int) < (ps.length : Int) := by omega
        replace HX := hid (show res = (ps.all nmB && (decide (ps.length = 1) || headA (t.name.take (hdN t.name)) (l.take j))) by rw [HX.out, decide_eq_true (by omega)]; rfl)
        go_wp2
        go_loopw [9] (fun r wr => ∃ k : Nat, r = .int .i64 k ∧ k ≤ ps.length ∧ Hid ((ps.take k).all nmB = true) ∧ Hid (RowS wr AnyZ 1 (.slice pa ps.length pc) ps.length (ps.flatMap cN)) ∧ Hid (Blk wr w.heap.size 24 #[.slice (some ⟨tb, tof, none⟩) l.length tc]) ∧ Hid (Blk wr (w.heap.size + 1) 62 #[.string (strOfNums t.name), .bool t.enum, .slice fa t.fs.length fc, .slice oa t.os.length oc, .slice sa t.ss.length sc, .slice ra t.rs.length rc]) ∧ Hid (Below w.heap.size w wr)) (fun r wr => ps.length - numAt wr r)
        case atStart => exact ⟨0, rfl, by omega, hid rfl, HP, Ca, Cb, hb1⟩
        case round =>
          clear Ca Cb xa za xb zb hb1 HP
          obtain ⟨k, rfl, hk, hall, HP, Ca, Cb, hb1⟩ := hrel
          by_cases hlt : k < ps.length
          · have h4 : (k : Int) < (ps.length : Int) := by omega
            obtain ⟨b, o, rfl, hc⟩ := rowAt (g := cN) (fun _ => rfl) HP.out (i := k) (x := ps[k]) (by simp [hlt])
            have c0 : wr.cell? ⟨b, o + k, none⟩ = some (.string (strOfNums ps[k])) := by have := hc 0 _ rfl; simpa using this
            have hbl : b < wr.heap.size := World.block_lt_of_cell? _ _ c0
            have HTY := HPT.out _ (List.getElem_mem hlt)
            have HTK : Hid ((ps.take (k + 1)).all nmB = nmB ps[k]) := hid (by rw [List.take_succ_eq_append_getElem hlt, List.all_append, hall.out]; simp)
            have HAL : Hid (ps.all nmB = true → nmB ps[k] = true) := hid (fun q => List.all_eq_true.1 q _ (List.getElem_mem hlt))
            generalize ps[k] = y at *
            go_wp2_with fail
            refine (isNameR y _ HTY.1 HTY.2).mono ?_
            rintro e w2 ⟨rfl, rfl⟩
            cases hq : nmB y with
            | true =>
              go_wp2
              exact ⟨⟨k + 1, by simp, by omega, hid (by rw [HTK.out, hq]), HP, Ca, Cb, hb1⟩, by simp [numAt]; omega⟩
            | false =>
              have HF : Hid (res = false) := hid (by rw [HX.out]; cases qq : ps.all nmB with | false => rfl | true => rw [HAL.out qq] at hq; cases hq)
              go_wp2
              go_ret
              exact ⟨ret_bool HF.out.symm, hb1.out⟩
          have h4 : ¬ (k : Int) < (ps.length : Int) := by omega
          have ek : ps.take k = ps := List.take_of_length_le (by omega)
          rw [ek] at hall
          replace HX := hid (show res = (decide (ps.length = 1) || headA (t.name.take (hdN t.name)) (l.take j)) by rw [HX.out, hall.out]; rfl)
          clear hall ek
          have xa := Ca.out.cellF
          have za := Ca.out.lt
          have xb := Cb.out.cellF
          have zb := Cb.out.lt
          by_cases h1 : ps.length = 1
          case pos =>
            have k2 : ((ps.length : Int) == 1) = true := by rw [beq_iff_eq]; omega
            have HF : Hid (res = true) := hid (by rw [HX.out, decide_eq_true h1]; rfl)
            replace h1 := hid h1
            go_wp2
            go_ret
            exact ⟨ret_bool HF.out.symm, hb1.out⟩
          have k2 : ((ps.length : Int) == 1) = false := by rw [beq_eq_false_iff_ne]; omega
          replace HX := hid (show res = headA (t.name.take (hdN t.name)) (l.take j) by rw [HX.out, decide_eq_false h1]; rfl)
          obtain ⟨lp, hlp, hsum⟩ := HH.out (by omega)
          obtain ⟨b, o, rfl, hc⟩ := rowAt (g := cN) (fun _ => rfl) HP.out (i := ps.length - 1) (x := lp) hlp
          have c0 : wr.cell? ⟨b, o + (ps.length - 1), none⟩ = some (.string (strOfNums lp)) := by have := hc 0 _ rfl; simpa using this
          have hbl : b < wr.heap.size := World.block_lt_of_cell? _ _ c0
          obtain ⟨n, hn2⟩ : ∃ n, ps.length = n + 1 := ⟨ps.length - 1, by omega⟩
          rw [hn2, Nat.add_sub_cancel] at c0
          have HSL : (strOfNums lp).size = lp.length := strOfNums_size _
          have HS : Hid ((strOfNums t.name).extract 0 (hdN t.name) = strOfNums (t.name.take (hdN t.name))) := hid (by rw [str_cut]; rfl)
          have HHD : TxA (t.name.take (hdN t.name)) := ⟨fun c hc => HN.1 c (List.mem_of_mem_take hc), by have := HN.2; simp; omega⟩
          have hhd : hdN t.name < t.name.length := by omega
          generalize hdN t.name = hd at *
          have hs1 : (t.name.length : Int) - (lp.length : Int) - 1 = (hd : Int) := by omega
          have hs2 : (t.name.length : Int) - (lp.length : Int) = (hd : Int) + 1 := by omega
          have hn1 : 1 ≤ n := by omega
          have hhd' : (hd : Int) ≤ (t.name.length : Int) := by omega
          clear h1 hlp hc HH HPT HP hsum
          generalize ps.length = pl at *
          subst hn2
          have k4 : ((n : Int) + 1 == 1) = false := by rw [beq_eq_false_iff_ne]; omega
          have n1 : (n : Int) ≤ 4000000 := by omega
          have n2 : (n : Int) < (n : Int) + 1 := by omega
          clear hlen1 hlen2 hps k1 k2
          go_wp2
          go_region
          have Ca1 := hid (Ca.out.kept (show Below wr.heap.size wr wr.drew by exact blBy))
          have Cb1 := hid (Cb.out.kept (show Below wr.heap.size wr wr.drew by exact blBy))
          have hb2 : Hid (Below w.heap.size w wr.drew) := hid (by have := hb1.out; exact blBy)
          clear Ca Cb xa za xb zb hb1 c0 hbl
          generalize wr.drew = W2 at *
          go_wp2
          go_loopw [11] (fun r wr => ∃ k : Nat, r = .int .i64 k ∧ k ≤ j ∧ Hid (headA (t.name.take hd) (l.take j) = headA (t.name.take hd) ((l.take j).drop k)) ∧ Hid (Blk wr w.heap.size 24 #[.slice (some ⟨tb, tof, none⟩) l.length tc]) ∧ Hid (Blk wr (w.heap.size + 1) 62 #[.string (strOfNums t.name), .bool t.enum, .slice fa t.fs.length fc, .slice oa t.os.length oc, .slice sa t.ss.length sc, .slice ra t.rs.length rc]) ∧ Hid (Below w.heap.size w wr)) (fun r wr => j - numAt wr r)
          case atStart => exact ⟨0, rfl, by omega, hid rfl, Ca1, Cb1, hb2⟩
          case round =>
            clear Ca1 Cb1 hb2
            obtain ⟨k, rfl, hk2, hh, Ca, Cb, hb1⟩ := hrel
            have xa := Ca.out.cellF
            have za := Ca.out.lt
            have xb := Cb.out.cellF
            have zb := Cb.out.lt
            by_cases hlt : k < j
            · have h6 : (k : Int) < (j : Int) := by omega
              have h7 : (k : Int) < (l.length : Int) := by omega
              obtain ⟨b', o', e, hbl, c0, c1, -⟩ := row6 (HT.out.row.kept hb1.out) (show k < l.length by omega)
              cases e
              have hs := str_eq (HK.out _ (List.getElem_mem (show k < l.length by omega))).1 HHD.1
              rw [← HS.out] at hs
              have HST : Hid (headA (t.name.take hd) ((l.take j).drop k) = if nameP (t.name.take hd) l[k] = true then !l[k].t.enum else headA (t.name.take hd) ((l.take j).drop (k + 1))) := hid (by rw [List.drop_eq_getElem_cons (by simp; omega), headA, List.getElem_take])
              generalize l[k] = y at *
              by_cases hq : y.t.name = t.name.take hd
              · rw [decide_eq_true hq] at hs
                have HF : Hid (res = !y.t.enum) := hid (by rw [HX.out, hh.out, HST.out, if_pos (show nameP _ y = true from decide_eq_true hq)])
                replace hq := hid hq
                go_wp2
                go_ret
                exact ⟨ret_bool HF.out.symm, by have := hb1.out; exact blBy⟩
              · rw [decide_eq_false hq] at hs
                have HF : Hid (headA (t.name.take hd) (l.take j) = headA (t.name.take hd) ((l.take j).drop (k + 1))) := hid (by rw [hh.out, HST.out, if_neg (by rw [show nameP _ y = false from decide_eq_false hq]; simp)])
                replace hq := hid hq
                go_wp2
                exact ⟨⟨k + 1, by simp, by omega, HF, Ca, Cb, hb1⟩, by simp [numAt]; omega⟩
            · have h6 : ¬ (k : Int) < (j : Int) := by omega
              have HF : Hid (res = false) := hid (by rw [HX.out, hh.out, List.drop_of_length_le (by simp; omega)]; rfl)
              go_wp2
              go_ret
              exact ⟨ret_bool HF.out.symm, by have := hb1.out; exact blBy⟩
def dupP (s y : SY) : Bool := decide (y.name = s.name) || decide (y.num = s.num)
def enmA (pre : List SY) : List SY → Bool
  | [] => true
  | s :: r => nmB s.name && (decide (0 ≤ s.num ∧ s.num < 2147483648) && (!pre.any (dupP s) && enmA (pre ++ [s]) r))
def enmB (t : TT) : Bool := decide (1 ≤ t.ss.length ∧ t.ss.length ≤ 128) && (decide ((t.ss[0]?.map SY.num).getD 0 = 0) && (decide (t.fs.length = 0) && (decide (t.os.length = 0) && (decide (t.rs.length = 0) && enmA [] t.ss))))
theorem takeS_any {l : List SY} {p : SY → Bool} {j : Nat} (h : j < l.length) : (l.take (j + 1)).any p = ((l.take j).any p || p l[j]) := by
  rw [List.take_succ_eq_append_getElem h, List.any_append]; simp
theorem anyS_mono {l : List SY} {p : SY → Bool} {j i : Nat} (h : j < i) (hj : j < l.length) (hp : p l[j] = true) : (l.take i).any p = true := by
  rw [List.any_eq_true]
  exact ⟨l[j], List.mem_take_iff_getElem.2 ⟨j, by omega, rfl⟩, hp⟩
theorem enumR (w : World) (t : TT) (fa oa sa ra : Option Addr) (fc oc sc rc : Nat) (hx : TyR w ⟨t, .slice fa t.fs.length fc, .slice oa t.os.length oc, .slice sa t.ss.length sc, .slice ra t.rs.length rc⟩) (hk : ∀ x ∈ t.ss, TxA x.name) : Calls Tryd.prog 40 #[.agg #[.string (strOfNums t.name), .bool t.enum, .slice fa t.fs.length fc, .slice oa t.os.length oc, .slice sa t.ss.length sc, .slice ra t.rs.length rc]] w fun e w' => e = .returned (.bool (enmB t)) ∧ Below w.heap.size w w' := by
  have HX : Hid (enmB t = (decide (1 ≤ t.ss.length ∧ t.ss.length ≤ 128) && (decide ((t.ss[0]?.map SY.num).getD 0 = 0) && (decide (t.fs.length = 0) && (decide (t.os.length = 0) && (decide (t.rs.length = 0) && enmA [] t.ss)))))) := hid rfl
  generalize enmB t = res at *
  obtain ⟨_, _, e, hns⟩ := rowS_sl hx.s
  clear e
  dsimp only at hns
  have h63s : (t.ss.length : Int) ≤ 9223372036854775807 := by omega
  obtain ⟨_, _, e, hnf⟩ := rowS_sl hx.f
  clear e
  dsimp only at hnf
  have h63f : (t.fs.length : Int) ≤ 9223372036854775807 := by omega
  obtain ⟨_, _, e, hno⟩ := rowS_sl hx.o
  clear e
  dsimp only at hno
  have h63o : (t.os.length : Int) ≤ 9223372036854775807 := by omega
  obtain ⟨_, _, e, hnr⟩ := rowS_sl hx.r
  clear e
  dsimp only at hnr
  have h63r : (t.rs.length : Int) ≤ 9223372036854775807 := by omega
  have HY := hid hx.s
  dsimp only at HY
  have HK := hid hk
  clear hx hk
  by_cases q1 : t.ss.length < 1
  case pos =>
    have k1 : ((t.ss.length : Int) < 1) = True := eq_true (by omega)
    have HF : Hid (res = false) := hid (by rw [HX.out, decide_eq_false (by omega)]; rfl)
    go_enter Tryd.func40, Tryd.ntmps40
    go_wp2
    go_ret
    exact ⟨ret_bool HF.out.symm, by exact blBy⟩
  have k1 : ((t.ss.length : Int) < 1) = False := eq_false (by omega)
  by_cases q2 : 128 < t.ss.length
  case pos =>
    have k2 : ((128 : Int) < (t.ss.length : Int)) = True := eq_true (by omega)
    have HF : Hid (res = false) := hid (by rw [HX.out, decide_eq_false (by omega)]; rfl)
    go_enter Tryd.func40, Tryd.ntmps40
    go_wp2
    go_ret
    exact ⟨ret_bool HF.out.symm, by exact blBy⟩
  have k2 : ((128 : Int) < (t.ss.length : Int)) = False := eq_false (by omega)
  replace HX := hid (show res = (decide ((t.ss[0]?.map SY.num).getD 0 = 0) && (decide (t.fs.length = 0) && (decide (t.os.length = 0) && (decide (t.rs.length = 0) && enmA [] t.ss)))) by rw [HX.out, decide_eq_true (by omega)]; rfl)
  obtain ⟨sb, so, rfl, hbl, -, c1⟩ := rowY HY.out (j := 0) (by omega)
  have e0 : (t.ss[0]?.map SY.num).getD 0 = t.ss[0].num := by rw [List.getElem?_eq_getElem (by omega)]; rfl
  rw [e0] at HX
  simp only [Nat.zero_mul, Nat.add_zero] at c1
  have h0 : (0 : Int) < (t.ss.length : Int) := by omega
  clear e0
  generalize t.ss[0].num = n0 at *
  by_cases q3 : n0 = 0
  case neg =>
    have k3 : (n0 != 0) = true := by simpa using q3
    have HF : Hid (res = false) := hid (by rw [HX.out, decide_eq_false q3]; rfl)
    go_enter Tryd.func40, Tryd.ntmps40
    go_wp2
    go_ret
    exact ⟨ret_bool HF.out.symm, by exact blBy⟩
  subst q3
  replace HX := hid (show res = (decide (t.fs.length = 0) && (decide (t.os.length = 0) && (decide (t.rs.length = 0) && enmA [] t.ss))) by rw [HX.out]; rfl)
  by_cases q4f : 0 < t.fs.length
  case pos =>
    have k4f : ((0 : Int) < (t.fs.length : Int)) = True := eq_true (by omega)
    have HF : Hid (res = false) := hid (by rw [HX.out, decide_eq_false (by omega)]; rfl)
    go_enter Tryd.func40, Tryd.ntmps40
    go_wp2
    go_ret
    exact ⟨ret_bool HF.out.symm, by exact blBy⟩
  have k4f : ((0 : Int) < (t.fs.length : Int)) = False := eq_false (by omega)
  replace HX := hid (show res = (decide (t.os.length = 0) && (decide (t.rs.length = 0) && enmA [] t.ss)) by rw [HX.out, decide_eq_true (by omega)]; first | rfl | simp)
  by_cases q4o : 0 < t.os.length
  case pos =>
    have k4o : ((0 : Int) < (t.os.length : Int)) = True := eq_true (by omega)
    have HF : Hid (res = false) := hid (by rw [HX.out, decide_eq_false (by omega)]; rfl)
    go_enter Tryd.func40, Tryd.ntmps40
    go_wp2
    go_ret
    exact ⟨ret_bool HF.out.symm, by exact blBy⟩
  have k4o : ((0 : Int) < (t.os.length : Int)) = False := eq_false (by omega)
  replace HX := hid (show res = (decide (t.rs.length = 0) && enmA [] t.ss) by rw [HX.out, decide_eq_true (by omega)]; first | rfl | simp)
  by_cases q4r : 0 < t.rs.length
  case pos =>
    have k4r : ((0 : Int) < (t.rs.length : Int)) = True := eq_true (by omega)
    have HF : Hid (res = false) := hid (by rw [HX.out, decide_eq_false (by omega)]; rfl)
    go_enter Tryd.func40, Tryd.ntmps40
    go_wp2
    go_ret
    exact ⟨ret_bool HF.out.symm, by exact blBy⟩
  have k4r : ((0 : Int) < (t.rs.length : Int)) = False := eq_false (by omega)
  replace HX := hid (show res = enmA [] t.ss by rw [HX.out, decide_eq_true (by omega)]; first | rfl | simp)
  go_enter Tryd.func40, Tryd.ntmps40
  go_wp2
  clear c1
  go_loopw [4] (fun r wr => ∃ j : Nat, r = .int .i64 j ∧ j ≤ t.ss.length ∧ Hid (res = enmA (t.ss.take j) (t.ss.drop j)) ∧ Hid (Blk wr w.heap.size 62 #[.string (strOfNums t.name), .bool t.enum, .slice fa t.fs.length fc, .slice oa t.os.length oc, .slice (some ⟨sb, so, none⟩) t.ss.length sc, .slice ra t.rs.length rc]) ∧ Hid (Below w.heap.size w wr)) (fun r wr => t.ss.length - numAt wr r)
  case atStart => exact ⟨0, rfl, by omega, HX, hid (Blk.new _ _ _), hid (by exact blBy)⟩
  case round =>
    clear HX
    obtain ⟨j, rfl, hj, HX, Bx, hb⟩ := hrel
    have xb := Bx.out.cellF
    have zb := Bx.out.lt
    by_cases hlt : j < t.ss.length
    case neg =>
      have h2 : ¬ (j : Int) < (t.ss.length : Int) := by omega
      have HF : Hid (res = true) := hid (by rw [HX.out, List.drop_of_length_le (by omega)]; rfl)
      go_wp2
      go_ret
      exact ⟨ret_bool HF.out.symm, hb.out⟩
    have h2 : (j : Int) < (t.ss.length : Int) := by omega
    obtain ⟨b', o', e, hbl2, c0, c1⟩ := rowY (HY.out.kept hb.out) hlt
    cases e
    have HTN := HK.out _ (List.getElem_mem hlt)
    have HST : Hid (enmA (t.ss.take j) (t.ss.drop j) = (nmB t.ss[j].name && (decide (0 ≤ t.ss[j].num ∧ t.ss[j].num < 2147483648) && (!(t.ss.take j).any (dupP t.ss[j]) && enmA (t.ss.take (j + 1)) (t.ss.drop (j + 1)))))) := hid (by rw [List.drop_eq_getElem_cons hlt, enmA, List.take_succ_eq_append_getElem hlt])
    rw [HST.out] at HX
    clear HST
    generalize t.ss[j] = s at *
    go_wp2_with fail
    refine (isNameR s.name _ HTN.1 HTN.2).mono ?_
    rintro e w1 ⟨rfl, rfl⟩
    cases hq : nmB s.name with
    | false =>
      have HF : Hid (res = false) := hid (by rw [HX.out, hq]; rfl)
      go_wp2
      go_ret
      exact ⟨ret_bool HF.out.symm, by have := hb.out; exact blBy⟩
    | true =>
    replace HX := hid (show res = (decide (0 ≤ s.num ∧ s.num < 2147483648) && (!(t.ss.take j).any (dupP s) && enmA (t.ss.take (j + 1)) (t.ss.drop (j + 1)))) by rw [HX.out, hq]; rfl)
    by_cases n1 : s.num < 0
    case pos =>
      have n2 : (s.num < 0) = True := eq_true n1
      have HF : Hid (res = false) := hid (by rw [HX.out, decide_eq_false (by omega)]; rfl)
      go_wp2
      go_ret
      exact ⟨ret_bool HF.out.symm, by have := hb.out; exact blBy⟩
    have n2 : (s.num < 0) = False := eq_false n1
    by_cases n3 : 2147483648 ≤ s.num
    case pos =>
      have n4 : (2147483648 ≤ s.num) = True := eq_true n3
      have HF : Hid (res = false) := hid (by rw [HX.out, decide_eq_false (by omega)]; rfl)
      go_wp2
      go_ret
      exact ⟨ret_bool HF.out.symm, by have := hb.out; exact blBy⟩
    have n4 : (2147483648 ≤ s.num) = False := eq_false n3
    replace HX := hid (show res = (!(t.ss.take j).any (dupP s) && enmA (t.ss.take (j + 1)) (t.ss.drop (j + 1))) by rw [HX.out, decide_eq_true (by omega)]; rfl)
    go_wp2
    have Bs : Blk (wr.alloc (.cells #[.string (strOfNums s.name), .int .i64 s.num] 56)) wr.heap.size 56 #[.string (strOfNums s.name), .int .i64 s.num] := Blk.new _ _ _
    have Bx1 := Bx.out.kept (below_alloc (w := wr) (.cells #[.string (strOfNums s.name), .int .i64 s.num] 56))
    have hb1 : Hid (Below w.heap.size w (wr.alloc (.cells #[.string (strOfNums s.name), .int .i64 s.num] 56))) := hid (by have := hb.out; exact blBy)
    have hne : w.heap.size < wr.heap.size := zb
    clear c0 c1 xb zb Bx hb hbl2
    generalize (wr.alloc (.cells #[.string (strOfNums s.name), .int .i64 s.num] 56)) = W at *
    generalize wr.heap.size = sp at *
    go_loopw [6] (fun r wr => ∃ k : Nat, r = .int .i64 k ∧ k ≤ j ∧ Hid ((t.ss.take k).any (dupP s) = false) ∧ Hid (Blk wr w.heap.size 62 #[.string (strOfNums t.name), .bool t.enum, .slice fa t.fs.length fc, .slice oa t.os.length oc, .slice (some ⟨sb, so, none⟩) t.ss.length sc, .slice ra t.rs.length rc]) ∧ Hid (Blk wr sp 56 #[.string (strOfNums s.name), .int .i64 s.num]) ∧ Hid (Below w.heap.size w wr)) (fun r wr => j - numAt wr r)
    case atStart => exact ⟨0, rfl, by omega, hid rfl, hid Bx1, hid Bs, hb1⟩
    case round =>
      clear Bx1 Bs hb1
      obtain ⟨k, rfl, hk, hany, Bx, Bs, hb⟩ := hrel
      have xb := Bx.out.cellF
      have zb := Bx.out.lt
      have xs := Bs.out.cellF
      have zs := Bs.out.lt
      by_cases hlt2 : k < j
      case neg =>
        have h3 : ¬ (k : Int) < (j : Int) := by omega
        have ek : k = j := by omega
        subst ek
        have HF : Hid (res = enmA (t.ss.take (k + 1)) (t.ss.drop (k + 1))) := hid (by rw [HX.out, hany.out]; rfl)
        go_wp2
        exact ⟨⟨k + 1, by simp, by omega, HF, Bx, hb⟩, by simp [numAt]; omega⟩
      have h3 : (k : Int) < (j : Int) := by omega
      have h4 : (k : Int) < (t.ss.length : Int) := by omega
      obtain ⟨b', o', e, hbl2, c0, c1⟩ := rowY (HY.out.kept hb.out) (show k < t.ss.length by omega)
      cases e
      have hs := str_eq (HK.out _ (List.getElem_mem (show k < t.ss.length by omega))).1 HTN.1
      have HA := hid (takeS_any (p := dupP s) (show k < t.ss.length by omega))
      have HM : Hid (dupP s t.ss[k] = true → (t.ss.take j).any (dupP s) = true) := hid (anyS_mono hlt2 (by omega))
      generalize t.ss[k] = y at *
      by_cases hq1 : y.name = s.name
      case pos =>
        rw [decide_eq_true hq1] at hs
        have HF : Hid (res = false) := hid (by rw [HX.out, HM.out (by unfold dupP; rw [decide_eq_true hq1]; rfl)]; rfl)
        replace hq1 := hid hq1
        go_wp2
        go_region
        go_wp2
        go_ret
        exact ⟨ret_bool HF.out.symm, by have := hb.out; exact blBy⟩
      rw [decide_eq_false hq1] at hs
      by_cases hq2 : y.num = s.num
      case pos =>
        have hs2 : (y.num == s.num) = true := by simpa using hq2
        have HF : Hid (res = false) := hid (by rw [HX.out, HM.out (by unfold dupP; rw [decide_eq_true hq2]; simp)]; rfl)
        replace hq2 := hid hq2
        go_wp2
        go_region
        go_wp2
        go_ret
        exact ⟨ret_bool HF.out.symm, by have := hb.out; exact blBy⟩
      have hs2 : (y.num == s.num) = false := by simpa using hq2
      have HA2 : Hid ((t.ss.take (k + 1)).any (dupP s) = false) := hid (by rw [HA.out, hany.out]; unfold dupP; rw [decide_eq_false hq1, decide_eq_false hq2]; rfl)
      replace hq1 := hid hq1
      replace hq2 := hid hq2
      go_wp2
      go_region
      go_wp2
      exact ⟨⟨k + 1, by simp, by omega, HA2, hid (Bx.out.kept (by exact blBy)), hid (Bs.out.kept (by exact blBy)), hid (by have := hb.out; exact blBy)⟩, by simp [numAt]; omega⟩
def docB (l : List TV) (k : Nat) (f : FT) : Bool := decide (1 ≤ f.num ∧ f.num ≤ 536870911) && fldB l k f
theorem wrapN {n : Nat} (h : n < 4000000) : IntKind.i64.wrap (n : Int) = (n : Int) := by
  first
  | (unfold IntKind.wrap; simp [IntKind.signed, IntKind.bits]; omega)
  | (simp [IntKind.wrap, IntKind.signed, IntKind.bits, IntKind.min, IntKind.max]; omega)
def riseP (fs : List FT) (i : Nat) (f : FT) : Bool := decide (i = 0 ∨ (fs[i - 1]?.map FT.num).getD 0 < f.num)
def outP (n : Int) (g : RG) : Bool := !decide (g.lo ≤ n ∧ n ≤ g.hi)
def flA (l : List TV) (k : Nat) (rs : List RG) (fs : List FT) : Nat → List FT → Bool
  | _, [] => true
  | i, f :: r => docB l k f && (riseP fs i f && (rs.all (outP f.num) && flA l k rs fs (i + 1) r))
def sameP (s y : List Int) : Bool := decide (s = y)
def nmsA (pre : List (List Int)) : List (List Int) → Bool
  | [] => true
  | s :: r => nmB s && (!pre.any (sameP s) && nmsA (pre ++ [s]) r)
def rgP (rs : List RG) (i : Nat) (g : RG) : Bool := decide (1 ≤ g.lo) && (decide (g.hi ≤ 536870911) && (decide (g.lo ≤ g.hi) && decide (i = 0 ∨ (rs[i - 1]?.map RG.hi).getD 0 < g.lo)))
def rgA (rs : List RG) : Nat → List RG → Bool
  | _, [] => true
  | i, g :: r => rgP rs i g && rgA rs (i + 1) r
def cntB (t : TT) : Bool := decide (t.ss.length = 0 ∧ t.fs.length ≤ 128 ∧ t.rs.length ≤ 128 ∧ t.os.length ≤ t.fs.length)
def msgD (l : List TV) (t : TT) : Bool := cntB t && (memA t.fs t.os.length 0 && (flA l t.os.length t.rs t.fs 0 t.fs && (nmsA [] (t.os ++ t.fs.map FT.name) && rgA t.rs 0 t.rs)))
theorem takeG_any {α : Type} {l : List α} {p : α → Bool} {j : Nat} (h : j < l.length) : (l.take (j + 1)).any p = ((l.take j).any p || p l[j]) := by
  rw [List.take_succ_eq_append_getElem h, List.any_append]; simp
theorem anyG_mono {α : Type} {l : List α} {p : α → Bool} {j i : Nat} (h : j < i) (hj : j < l.length) (hp : p l[j] = true) : (l.take i).any p = true := by
  rw [List.any_eq_true]
  exact ⟨l[j], List.mem_take_iff_getElem.2 ⟨j, by omega, rfl⟩, hp⟩
theorem takeG_all {α : Type} {l : List α} {p : α → Bool} {j : Nat} (h : j < l.length) : (l.take (j + 1)).all p = ((l.take j).all p && p l[j]) := by
  rw [List.take_succ_eq_append_getElem h, List.all_append]; simp
theorem allG_no {α : Type} {l : List α} {p : α → Bool} {j : Nat} (hj : j < l.length) (hp : p l[j] = false) : l.all p = false := by
  cases q : l.all p with
  | false => rfl
  | true => rw [List.all_eq_true.1 q _ (List.getElem_mem hj)] at hp; cases hp
theorem fieldLow (nm : List Int) (num kind ref lab one key : Int) (w : World) (l : List TV) (ta : Option Addr) (tc : Nat) (t : TT) (fa oa sa ra : Option Addr) (fc oc sc rc : Nat) (h : TbR w (.slice ta l.length tc) l) (hl : t.os.length ≤ 9223372036854775807) (n1 : 1 ≤ num) (n2 : num ≤ 536870911) (l1 : 0 ≤ lab) (l2 : lab ≤ 5) (k1 : 1 ≤ kind) (k2 : kind < 16) : Calls Tryd.prog 59 #[.agg #[.slice ta l.length tc], .agg #[.string (strOfNums t.name), .bool t.enum, .slice fa t.fs.length fc, .slice oa t.os.length oc, .slice sa t.ss.length sc, .slice ra t.rs.length rc], .agg #[.string (strOfNums nm), .int .i64 num, .int .i64 kind, .int .i64 ref, .int .i64 lab, .int .i64 one, .int .i64 key]] w fun e w' => e = .returned (.bool (docB l t.os.length ⟨nm, num, kind, ref, lab, one, key⟩)) ∧ Below w.heap.size w w' := by
  obtain ⟨_, _, e, hn⟩ := rowS_sl h.row
  clear e
  have h63 : (l.length : Int) ≤ 9223372036854775807 := by omega
  have h64 : (t.os.length : Int) ≤ 9223372036854775807 := by omega
  have m1 : (num < 1) = False := eq_false (by omega)
  have m2 : (536870911 < num) = False := eq_false (by omega)
  have m3 : (lab < 0) = False := eq_false (by omega)
  have m4 : (5 < lab) = False := eq_false (by omega)
  have HD : Hid (docB l t.os.length ⟨nm, num, kind, ref, lab, one, key⟩ = (refB l ⟨nm, num, kind, ref, lab, one, key⟩ && (labB ⟨nm, num, kind, ref, lab, one, key⟩ && (oneB t.os.length ⟨nm, num, kind, ref, lab, one, key⟩ && keyB ⟨nm, num, kind, ref, lab, one, key⟩)))) := hid (by unfold docB fldB; rw [decide_eq_true (by dsimp only; omega), decide_eq_true (by dsimp only; omega)]; rfl)
  have HK := hid (isKeyR key)
  have HN := hid (numericR kind)
  clear n1 n2
  have kA : (16 ≤ kind) = False := eq_false (by omega)
  have kB : (kind == 17) = false := by rw [beq_eq_false_iff_ne]; omega
  have kC : (kind < 1) = False := eq_false (by omega)
  have kD : (17 < kind) = False := eq_false (by omega)
  have HKX : Hid (¬ kind = 17) := hid (by omega)
  have HR0 : Hid (refB l ⟨nm, num, kind, ref, lab, one, key⟩ = decide (ref = 0)) := hid (by unfold refB; rw [if_neg (by dsimp only; omega)])
  clear k1 k2 h
  by_cases r1 : ref = 0
  case neg =>
    have r2 : (ref != 0) = true := by simpa using r1
    have HR : Hid (refB l ⟨nm, num, kind, ref, lab, one, key⟩ = false) := hid (by rw [HR0.out]; simp [r1])
    replace r1 := hid r1
    go_enter Tryd.func59, Tryd.ntmps59
    go_wp2
    go_ret
    exact ⟨ret_bool (by rw [HD.out, HR.out]; rfl), by exact blBy⟩
  have r2 : (ref != 0) = false := by simpa using r1
  have HR : Hid (refB l ⟨nm, num, kind, ref, lab, one, key⟩ = true) := hid (by rw [HR0.out]; simp [r1])
  replace r1 := hid r1
  clear HR0
  go_enter Tryd.func59, Tryd.ntmps59
  go_upto_region 8 with fail
  have Ba : Blk (((w.alloc (.cells #[.slice ta l.length tc] 24)).alloc (.cells #[.string (strOfNums t.name), .bool t.enum, .slice fa t.fs.length fc, .slice oa t.os.length oc, .slice sa t.ss.length sc, .slice ra t.rs.length rc] 62)).alloc (.cells #[.string (strOfNums nm), .int .i64 num, .int .i64 kind, .int .i64 ref, .int .i64 lab, .int .i64 one, .int .i64 key] 39)) w.heap.size 24 #[.slice ta l.length tc] := (((Blk.new _ _ _).kept (below_alloc _)).kept (below_alloc _))
  have Bb : Blk (((w.alloc (.cells #[.slice ta l.length tc] 24)).alloc (.cells #[.string (strOfNums t.name), .bool t.enum, .slice fa t.fs.length fc, .slice oa t.os.length oc, .slice sa t.ss.length sc, .slice ra t.rs.length rc] 62)).alloc (.cells #[.string (strOfNums nm), .int .i64 num, .int .i64 kind, .int .i64 ref, .int .i64 lab, .int .i64 one, .int .i64 key] 39)) (w.heap.size + 1) 62 #[.string (strOfNums t.name), .bool t.enum, .slice fa t.fs.length fc, .slice oa t.os.length oc, .slice sa t.ss.length sc, .slice ra t.rs.length rc] := ((Blk.newAt (by simp)).kept (below_alloc _))
  have Bc : Blk (((w.alloc (.cells #[.slice ta l.length tc] 24)).alloc (.cells #[.string (strOfNums t.name), .bool t.enum, .slice fa t.fs.length fc, .slice oa t.os.length oc, .slice sa t.ss.length sc, .slice ra t.rs.length rc] 62)).alloc (.cells #[.string (strOfNums nm), .int .i64 num, .int .i64 kind, .int .i64 ref, .int .i64 lab, .int .i64 one, .int .i64 key] 39)) (w.heap.size + 1 + 1) 39 #[.string (strOfNums nm), .int .i64 num, .int .i64 kind, .int .i64 ref, .int .i64 lab, .int .i64 one, .int .i64 key] := (Blk.newAt (by simp))
  have hb0 : Hid (Below w.heap.size w (((w.alloc (.cells #[.slice ta l.length tc] 24)).alloc (.cells #[.string (strOfNums t.name), .bool t.enum, .slice fa t.fs.length fc, .slice oa t.os.length oc, .slice sa t.ss.length sc, .slice ra t.rs.length rc] 62)).alloc (.cells #[.string (strOfNums nm), .int .i64 num, .int .i64 kind, .int .i64 ref, .int .i64 lab, .int .i64 one, .int .i64 key] 39))) := hid (by exact blBy)
  generalize (((w.alloc (.cells #[.slice ta l.length tc] 24)).alloc (.cells #[.string (strOfNums t.name), .bool t.enum, .slice fa t.fs.length fc, .slice oa t.os.length oc, .slice sa t.ss.length sc, .slice ra t.rs.length rc] 62)).alloc (.cells #[.string (strOfNums nm), .int .i64 num, .int .i64 kind, .int .i64 ref, .int .i64 lab, .int .i64 one, .int .i64 key] 39)) = W at *
  have xa := Ba.cellF
  have za := Ba.lt
  have xb := Bb.cellF
  have zb := Bb.lt
  have xc := Bc.cellF
  have zc := Bc.lt
  clear Ba Bb Bc
  have hlab : lab = 0 ∨ lab = 1 ∨ lab = 2 ∨ lab = 3 ∨ lab = 4 ∨ lab = 5 := by omega
  clear m3 m4 l1 l2
  rcases hlab with rfl | rfl | rfl | rfl | rfl | rfl
  · skip
    by_cases o1 : one = 0
    case neg =>
      have o2 : (one != 0) = true := by simpa using o1
      replace o1 := hid o1
      go_wp2_with (first | (go_at_call 45; refine (HN.out _).mono ?_; rintro e w1 ⟨rfl, rfl⟩) | (go_at_call 87; refine (HK.out _).mono ?_; rintro e w1 ⟨rfl, rfl⟩))
      go_ret
      exact ⟨ret_bool (by rw [HD.out, HR.out]; simp [oneB, o1.out]), by have := hb0.out; exact blBy⟩
    have o2 : (one != 0) = false := by simpa using o1
    replace o1 := hid o1
    go_wp2_with (first | (go_at_call 45; refine (HN.out _).mono ?_; rintro e w1 ⟨rfl, rfl⟩) | (go_at_call 87; refine (HK.out _).mono ?_; rintro e w1 ⟨rfl, rfl⟩))
    go_ret
    exact ⟨ret_bool (by rw [HD.out, HR.out]; simp [labB, HKX.out, oneB, keyB, o1.out]; by_cases hk : key = 0 <;> simp [hk]), by have := hb0.out; exact blBy⟩
  · skip
    by_cases o1 : one = 0
    case neg =>
      have o2 : (one != 0) = true := by simpa using o1
      replace o1 := hid o1
      go_wp2_with (first | (go_at_call 45; refine (HN.out _).mono ?_; rintro e w1 ⟨rfl, rfl⟩) | (go_at_call 87; refine (HK.out _).mono ?_; rintro e w1 ⟨rfl, rfl⟩))
      go_ret
      exact ⟨ret_bool (by rw [HD.out, HR.out]; simp [oneB, o1.out]), by have := hb0.out; exact blBy⟩
    have o2 : (one != 0) = false := by simpa using o1
    replace o1 := hid o1
    go_wp2_with (first | (go_at_call 45; refine (HN.out _).mono ?_; rintro e w1 ⟨rfl, rfl⟩) | (go_at_call 87; refine (HK.out _).mono ?_; rintro e w1 ⟨rfl, rfl⟩))
    go_ret
    exact ⟨ret_bool (by rw [HD.out, HR.out]; simp [labB, oneB, keyB, o1.out]; by_cases hk : key = 0 <;> simp [hk]), by have := hb0.out; exact blBy⟩
  · skip
    by_cases o1 : one = 0
    case neg =>
      have o2 : (one != 0) = true := by simpa using o1
      replace o1 := hid o1
      go_wp2_with (first | (go_at_call 45; refine (HN.out _).mono ?_; rintro e w1 ⟨rfl, rfl⟩) | (go_at_call 87; refine (HK.out _).mono ?_; rintro e w1 ⟨rfl, rfl⟩))
      go_ret
      exact ⟨ret_bool (by rw [HD.out, HR.out]; simp [oneB, o1.out]), by have := hb0.out; exact blBy⟩
    have o2 : (one != 0) = false := by simpa using o1
    replace o1 := hid o1
    go_wp2_with (first | (go_at_call 45; refine (HN.out _).mono ?_; rintro e w1 ⟨rfl, rfl⟩) | (go_at_call 87; refine (HK.out _).mono ?_; rintro e w1 ⟨rfl, rfl⟩))
    go_ret
    exact ⟨ret_bool (by rw [HD.out, HR.out]; simp [labB, oneB, keyB, o1.out]; by_cases hk : key = 0 <;> simp [hk]), by have := hb0.out; exact blBy⟩
  · skip
    cases q : knum kind with
    | false =>
      rw [q] at HN
      go_wp2_with (first | (go_at_call 45; refine (HN.out _).mono ?_; rintro e w1 ⟨rfl, rfl⟩) | (go_at_call 87; refine (HK.out _).mono ?_; rintro e w1 ⟨rfl, rfl⟩))
      go_ret
      exact ⟨ret_bool (by rw [HD.out, HR.out]; simp [labB, q]), by have := hb0.out; exact blBy⟩
    | true =>
      rw [q] at HN
      by_cases o1 : one = 0
      case neg =>
        have o2 : (one != 0) = true := by simpa using o1
        replace o1 := hid o1
        go_wp2_with (first | (go_at_call 45; refine (HN.out _).mono ?_; rintro e w1 ⟨rfl, rfl⟩) | (go_at_call 87; refine (HK.out _).mono ?_; rintro e w1 ⟨rfl, rfl⟩))
        go_ret
        exact ⟨ret_bool (by rw [HD.out, HR.out]; simp [oneB, o1.out]), by have := hb0.out; exact blBy⟩
      have o2 : (one != 0) = false := by simpa using o1
      replace o1 := hid o1
      go_wp2_with (first | (go_at_call 45; refine (HN.out _).mono ?_; rintro e w1 ⟨rfl, rfl⟩) | (go_at_call 87; refine (HK.out _).mono ?_; rintro e w1 ⟨rfl, rfl⟩))
      go_ret
      exact ⟨ret_bool (by rw [HD.out, HR.out]; simp [labB, q, oneB, keyB, o1.out]; by_cases hk : key = 0 <;> simp [hk]), by have := hb0.out; exact blBy⟩
  · skip
    by_cases o1 : one < 0
    · have o2 : (one < 0) = True := eq_true o1
      have HO : Hid (one < 0) := hid o1
      clear o1
      go_wp2_with (first | (go_at_call 45; refine (HN.out _).mono ?_; rintro e w1 ⟨rfl, rfl⟩) | (go_at_call 87; refine (HK.out _).mono ?_; rintro e w1 ⟨rfl, rfl⟩))
      go_ret
      exact ⟨ret_bool (by rw [HD.out, HR.out]; have := HO.out; simp [labB, oneB]; intro _ h2; omega), by have := hb0.out; exact blBy⟩
    by_cases o3 : (t.os.length : Int) ≤ one
    · have o2 : (one < 0) = False := eq_false o1
      have o4 : ((t.os.length : Int) ≤ one) = True := eq_true o3
      have HO : Hid ((t.os.length : Int) ≤ one) := hid o3
      clear o1 o3
      go_wp2_with (first | (go_at_call 45; refine (HN.out _).mono ?_; rintro e w1 ⟨rfl, rfl⟩) | (go_at_call 87; refine (HK.out _).mono ?_; rintro e w1 ⟨rfl, rfl⟩))
      go_ret
      exact ⟨ret_bool (by rw [HD.out, HR.out]; have := HO.out; simp [labB, oneB]; intro _ h2; omega), by have := hb0.out; exact blBy⟩
    have o2 : (one < 0) = False := eq_false o1
    have o4 : ((t.os.length : Int) ≤ one) = False := eq_false o3
    have HO : Hid (¬ one < 0 ∧ ¬ (t.os.length : Int) ≤ one) := hid ⟨o1, o3⟩
    clear o1 o3
    go_wp2_with (first | (go_at_call 45; refine (HN.out _).mono ?_; rintro e w1 ⟨rfl, rfl⟩) | (go_at_call 87; refine (HK.out _).mono ?_; rintro e w1 ⟨rfl, rfl⟩))
    go_ret
    exact ⟨ret_bool (by rw [HD.out, HR.out]; have := HO.out; simp [labB, oneB, keyB]; rw [show (decide (0 ≤ one) && decide (one < (t.os.length : Int))) = true by simp; omega]; by_cases hk : key = 0 <;> simp [hk]), by have := hb0.out; exact blBy⟩
  · skip
    by_cases o1 : one = 0
    case neg =>
      have o2 : (one != 0) = true := by simpa using o1
      replace o1 := hid o1
      go_wp2_with (first | (go_at_call 45; refine (HN.out _).mono ?_; rintro e w1 ⟨rfl, rfl⟩) | (go_at_call 87; refine (HK.out _).mono ?_; rintro e w1 ⟨rfl, rfl⟩))
      go_ret
      exact ⟨ret_bool (by rw [HD.out, HR.out]; simp [oneB, o1.out]), by have := hb0.out; exact blBy⟩
    have o2 : (one != 0) = false := by simpa using o1
    replace o1 := hid o1
    go_wp2_with (first | (go_at_call 45; refine (HN.out _).mono ?_; rintro e w1 ⟨rfl, rfl⟩) | (go_at_call 87; refine (HK.out _).mono ?_; rintro e w1 ⟨rfl, rfl⟩))
    go_ret
    exact ⟨ret_bool (by rw [HD.out, HR.out]; simp [labB, oneB, keyB, o1.out]), by have := hb0.out; exact blBy⟩
end Go.Proofs.YtbiohlfcikdldaaDoor
