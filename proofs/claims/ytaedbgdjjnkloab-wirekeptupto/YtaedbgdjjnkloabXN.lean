/-
  The walk of the law WireKept.
-/
import Derived.Test.YtaedbgdjjnkloabXM
namespace Go.Proofs.Ytaedbgdjjnkloab
open Go.RowKit

set_option maxRecDepth 100000 in
set_option maxHeartbeats 8000000 in
theorem keptW (a1 : Option Addr) (l1 c1 : Nat) (xs : List Int) (p : Int) (w : World) (ha : Reads w a1 l1 c1 xs) (s1 : l1 ≤ 1048576) :
    Calls Try.prog 4 #[.slice a1 l1 c1, .int .i64 p] w fun e w' => e = .returned (.bool true) ∧ Below w.heap.size w w' := by
  have HA := hid ha
  have HB := hid (bd_mem ha.bd)
  have hl := hid ha.length
  clear ha
  go_enter Try.func4, Try.ntmps4
  go_wp2_with fail
  refine (awakeW _).mono ?_
  rintro e w1 ⟨rfl, hb⟩
  obtain ⟨v3, w3, g, c, w4, r3, r4, hc1, hc2, hx, hx201, hbx, hglt⟩ := copy201 w1 a1 l1 c1 xs (reads_kept HA.out hb) s1
  have R3 := hid r3
  have R4 := hid r4
  have HX := hid hx
  have HX2 := hid hx201
  have HB4 := hid (below_trans hb hbx)

  clear r3 r4 hx hx201 hb hbx
  go_wp2_with (first
    | (at_builtin; refine wpList_append_ran rfl (.tmp 24) (.tmp 25) 23 23 rfl rfl _ _ v3 w3 rfl rfl R3.out ?_)
    | (at_builtin; refine wpList_append_ran rfl (.tmp 26) (.tmp 27) 23 23 rfl rfl _ _ _ w4 rfl rfl R4.out ?_)
    | fail)
  have HRB := hid (reads_kept HA.out HB4.out)
  clear R3 R4 HA
  have HBL : Hid (Below w4.heap.size w4 w4) := Below.refl _ _
  refine (getChunkO (some ⟨g, 0, none⟩) l1 c p xs w4 HX.out s1).mono ?_
  rintro e w5 ⟨cb, cn, cc, cys, cnx, cer, rfl, hcn, hoc, hb5⟩
  have HX5 := hid (reads_kept HX.out hb5)
  have HC := hid hoc
  have HB5 := hid hb5
  have hs5 := hb5.size
  clear hoc hb5
  go_wp2_with fail
  refine (putChunkO (some ⟨g, 0, none⟩) l1 c xs w5 HX5.out (by omega)).mono ?_
  rintro e w6 ⟨pb, pcp, rfl, hop, hb6⟩
  have hpn : (pc xs).length ≤ 1048586 := by
    have := (pv_len (xs.length : Int)).2
    have := hl.out
    unfold pc
    rw [List.length_append]
    omega
  generalize hpys : (pc xs).map (Value.int .u8) = pys at hop
  generalize (pc xs).length = pn at hop hpn ⊢
  clear hpys
  have HX6 := hid (reads_kept HX5.out hb6)
  have HC6 := hid (own_kept HC.out hb6)
  have HP := hid hop
  have HB6 := hid (below_trans HB5.out hb6)
  have hs6 := hb6.size
  clear hop hb6
  go_wp2_with fail
  refine (splitA (some ⟨g, 0, none⟩) l1 c xs w6 HX6.out (by omega)).mono ?_
  rintro e w7 ⟨v, es, rfl, hes, hol, hap, hb7⟩
  obtain ⟨la, lc, rfl⟩ := own_shape hol.row
  have HX7 := hid (reads_kept HX6.out hb7)
  have HC7 := hid (own_kept HC6.out hb7)
  have HP7 := hid (own_kept HP.out hb7)
  have HL := hid hol
  have HES := hid hes
  have HAP := hid hap
  have HB7 := hid (below_trans HB6.out hb7)
  have hs7 := hb7.size
  clear hol hap hb7 hes
  go_wp2_with fail
  refine (splitA (some ⟨g, 0, none⟩) l1 c xs w7 HX7.out (by omega)).mono ?_
  rintro e w8 ⟨v, ek, rfl, hek, hok, hapk, hb8⟩
  obtain ⟨ka, kc, rfl⟩ := own_shape hok.row
  have HC8 := hid (own_kept HC7.out hb8)
  have HP8 := hid (own_kept HP7.out hb8)
  have HL8 := hid (HL.out.kept hb8)
  have HK := hid hok
  have HEK := hid hek
  have HB8 := hid (below_trans HB7.out hb8)
  have hs8 := hb8.size
  have LC := hid (fun k hk => (HC.out.lt k hk))
  have LP := hid (fun k hk => (HP.out.lt k hk))
  have LL := hid (fun k hk => (HL.out.row.lt k hk))
  have LE := hid (fun x hx k hk => ((HL.out.each x hx).lt k hk))
  have LK := hid (fun k hk => (HK.out.row.lt k hk))
  have LM := hid (fun x hx k hk => ((HK.out.each x hx).lt k hk))
  clear hok hapk hb8 hek HC HC6 HC7 HP HP7 HL HX5 HX6 HX7 HB5 HB6 HB7 HBL
  go_wp2
  go_loopw [14] (fun r wr => ∃ (i : Nat) (ys : List Value), i ≤ cn ∧ r = .int .i64 i ∧ Hid (wr.ownsRow w4.heap.size 5 1 (.slice cb cn cc) cn ys) ∧ Hid (Keep (fun k => (Value.slice cb cn cc).ownBlock ≠ some k) w8 wr)) (fun r _ => cn - (intOf r).toNat)
  case atStart => exact ⟨0, cys, by omega, rfl, HC8, Keep.refl _ _⟩
  case round =>
    obtain ⟨i, ys, hi, rfl, HO, HKP⟩ := hrel
    by_cases hlt : i < cn
    · rcases HO.out.2 with ⟨e1, e2⟩ | ⟨gb, gcap, cur, hv, hbg, hg, hnc, hcm, hcs, htake⟩
      · omega
      · simp only [Value.slice.injEq, true_and] at hv
        obtain ⟨rfl, rfl⟩ := hv
        have hyl : i < ys.length := by have := HO.out.1; omega
        have hcA : wr.cell? ⟨gb, i, none⟩ = some ys[i] := (HO.out.cellAt i (by omega)).trans (List.getElem?_eq_getElem hyl)
        have hfA := HO.out.frozenAt i
        have HST := hid (HO.out.stored i (.int .u8 99)).1
        have HKP2 := hid (HKP.out.trans (Keep.setCell wr ⟨gb, i, none⟩ (.int .u8 99) (by simp [Value.ownBlock])))
        clear hbg hg hnc hcm hcs htake
        go_wp2
        refine ⟨⟨i + 1, _, by omega, rfl, HST, HKP2⟩, by simp [intOf]; omega⟩
    · obtain ⟨v9, w9, r9, g9⟩ := append_two w4.heap.size _ cn ys wr 98 97 HO.out (by have := HKP.out.size; omega) (by omega)
      have R9 := hid r9
      have HKP2 := hid (HKP.out.trans (Keep.ofGrow g9 (fun _ h => h)))
      have HP9 := hid (own_keep HP8.out (fun k hk e => by have := LC.out k e; have := LP.out k hk; omega) HKP2.out)
      have HL9 := hid (HL8.out.keep (fun k hk e => by have := LC.out k e; have := LL.out k hk; omega) (fun x hx k hk e => by have := LC.out k e; have := LE.out x hx k hk; omega) HKP2.out)
      have HK9 := hid (HK.out.keep (fun k hk e => by have := LC.out k e; have := LK.out k hk; omega) (fun x hx k hk e => by have := LC.out k e; have := LM.out x hx k hk; omega) HKP2.out)
      have HB9 := hid (HB8.out.trans (HKP2.out.below (B := w4.heap.size) (by omega) (fun k hk e => by have := LC.out k e; omega)))
      have hs9 := HKP2.out.size
      clear r9 g9 HO HKP HKP2 HP8 HL8 HK HB8 HC8 LC
      go_wp2_with (first
        | (at_builtin; refine wpList_append_ran rfl _ _ 23 23 rfl rfl _ _ v9 w9 rfl rfl R9.out ?_)
        | fail)
      clear R9
      go_loopw [15] (fun r wr => ∃ (i : Nat) (ys : List Value), i ≤ pn ∧ r = .int .i64 i ∧ Hid (wr.ownsRow w5.heap.size 5 1 (.slice pb pn pcp) pn ys) ∧ Hid (Keep (fun k => (Value.slice pb pn pcp).ownBlock ≠ some k) w9 wr)) (fun r _ => pn - (intOf r).toNat)
      case atStart => exact ⟨0, pys, by omega, rfl, HP9, Keep.refl _ _⟩
      case round =>
        clear hi hlt
        obtain ⟨i, ys, hi, rfl, HO, HKP⟩ := hrel
        by_cases hlt : i < pn
        · rcases HO.out.2 with ⟨e1, e2⟩ | ⟨gb, gcap, cur, hv, hbg, hg, hnc, hcm, hcs, htake⟩
          · omega
          · simp only [Value.slice.injEq, true_and] at hv
            obtain ⟨rfl, rfl⟩ := hv
            have hyl : i < ys.length := by have := HO.out.1; omega
            have hcA : wr.cell? ⟨gb, i, none⟩ = some ys[i] := (HO.out.cellAt i (by omega)).trans (List.getElem?_eq_getElem hyl)
            have hfA := HO.out.frozenAt i
            have HST := hid (HO.out.stored i (.int .u8 96)).1
            have HKP2 := hid (HKP.out.trans (Keep.setCell wr ⟨gb, i, none⟩ (.int .u8 96) (by simp [Value.ownBlock])))
            clear hbg hg hnc hcm hcs htake
            go_wp2
            refine ⟨⟨i + 1, _, by omega, rfl, HST, HKP2⟩, by simp [intOf]; omega⟩
        · obtain ⟨v10, w10, r10, g10⟩ := append_two w5.heap.size _ pn ys wr 95 94 HO.out (by have := HKP.out.size; omega) (by omega)
          have R10 := hid r10
          have HKP2 := hid (HKP.out.trans (Keep.ofGrow g10 (fun _ h => h)))
          have HL10 := hid (HL9.out.keep (fun k hk e => by have := LP.out k e; have := LL.out k hk; omega) (fun x hx k hk e => by have := LP.out k e; have := LE.out x hx k hk; omega) HKP2.out)
          have HK10 := hid (HK9.out.keep (fun k hk e => by have := LP.out k e; have := LK.out k hk; omega) (fun x hx k hk e => by have := LP.out k e; have := LM.out x hx k hk; omega) HKP2.out)
          have HB10 := hid (HB9.out.trans (HKP2.out.below (B := w4.heap.size) (by omega) (fun k hk e => by have := LP.out k e; omega)))
          have hs10 := HKP2.out.size
          clear r10 g10 HO HKP HKP2 HP9 HL9 HK9 HB9 LP
          go_wp2_with (first
            | (at_builtin; refine wpList_append_ran rfl _ _ 23 23 rfl rfl _ _ v10 w10 rfl rfl R10.out ?_)
            | fail)
          clear R10
          have hD0 := hid (done_zero HES.out (sp_short HB.out (by have := hl.out; omega)))
          have hesn : es.length ≤ 20971520 := by
            have h1 := sp_count HB.out (by have := hl.out; omega)
            rw [← HES.out, List.length_map] at h1
            exact h1
          have hs11 : w8.heap.size ≤ w10.heap.size := by omega
          generalize w6.heap.size = z6 at hs6 hs7 LL LE HL10
          generalize w7.heap.size = z7 at hs7 hs8 LL LE LK LM HK10
          generalize w8.heap.size = z8 at hs8 hs11 LK LM hs9
          generalize hln : es.length = ln at LL HL10 hesn ⊢
          have HLN := hid hln
          clear hln
          have LF := hid (show ∀ x ∈ es, ∀ k, x.2.ownBlock = some k → ¬ (k < z6 ∨ (z7 ≤ k ∧ k < z8)) from fun x hx k hk e => by have := LE.out x hx k hk; omega)
          have LG := hid (show ∀ k, (Value.slice la ln lc).ownBlock = some k → ¬ (k < z6 ∨ (z7 ≤ k ∧ k < z8)) from fun k hk e => by have := LL.out k hk; omega)
          clear LL LE hi hlt
          go_loopw [16] (fun r wr => ∃ (i : Nat) (et : List (Ent × Value)), i ≤ ln ∧ Hid (et.length = ln) ∧ r = .int .i64 i ∧ Hid (OwnL wr z6 (.slice la ln lc) et) ∧ Hid (Apart et) ∧ Hid (∀ x ∈ et, ∀ k, x.2.ownBlock = some k → ¬ (k < z6 ∨ (z7 ≤ k ∧ k < z8))) ∧ Hid (Keep (fun k => k < z6 ∨ (z7 ≤ k ∧ k < z8)) w10 wr) ∧ Hid (Done i et)) (fun r _ => ln - (intOf r).toNat)
          case atStart => exact ⟨0, es, by omega, HLN, rfl, HL10, HAP, LF, Keep.refl _ _, hD0⟩
          case round =>
            clear hD0 LF HL10 HAP
            obtain ⟨i, et, hi, hel, rfl, HO, HAP, LF, HKP, HD⟩ := hrel
            by_cases hlt : i < ln
            · have hel2 := hel.out
              rcases HO.out.row.2 with ⟨e1, e2⟩ | ⟨gr, gcap, cur, hv, hbg, hg, hnc, hcm, hcs, htake⟩
              · omega
              · simp only [Value.slice.injEq] at hv
                obtain ⟨rfl, hz, rfl⟩ := hv
                clear hz hel2 hbg hg hnc hcm hcs htake
                obtain ⟨⟨x, v⟩, hx⟩ : ∃ y, et[i]? = some y := ⟨_, List.getElem?_eq_getElem (by have := hel.out; omega)⟩
                obtain ⟨va, vc, e⟩ := own_shape (HO.out.each _ (List.mem_of_getElem? hx))
                dsimp only at e
                subst e
                have HX0 := hid hx
                have hxl := ((HD.out i _ hx).2.2 (Nat.le_refl _))
                dsimp only at hxl
                obtain ⟨xnum, xkind, xn, xb⟩ := x
                dsimp only at hx hxl HX0 ⊢
                clear hx
                go_wp2
                go_loopw [17] (fun r wq => ∃ (j : Nat) (ys : List Int), j ≤ xb.length ∧ Hid (ys.length = xb.length) ∧ r = .int .i64 j ∧ Hid (OwnL wq z6 (.slice (some ⟨gr, 0, none⟩) ln lc) (et.set i (⟨xnum, xkind, xn, ys⟩, .slice va xb.length vc))) ∧ Hid (Keep (fun k => k < z6 ∨ (z7 ≤ k ∧ k < z8)) w10 wq) ∧ Hid (∀ t, t < j → ys[t]? = some ((i : Int) % 256))) (fun r _ => xb.length - (intOf r).toNat)
                case atStart =>
                  refine ⟨0, xb, by omega, hid rfl, rfl, ?_, HKP, fun t ht => by omega⟩
                  rw [show et.set i (⟨xnum, xkind, xn, xb⟩, .slice va xb.length vc) = et from set_self HX0.out]
                  exact HO
                case round =>
                  clear HO HKP
                  obtain ⟨j, ys, hj, hyl, rfl, HO, HKP, HY⟩ := hrel
                  have hset : (et.set i ((⟨xnum, xkind, xn, ys⟩ : Ent), Value.slice va xb.length vc))[i]? = some (⟨xnum, xkind, xn, ys⟩, .slice va xb.length vc) := by rw [List.getElem?_set]; have := hel.out; simp; omega
                  have HSET := hid hset
                  clear hset
                  obtain ⟨hcell, hfro⟩ := ownL_cell HO.out HSET.out
                  by_cases hjl : j < xb.length
                  · have hrow := HO.out.each _ (List.mem_of_getElem? HSET.out)
                    dsimp only at hrow
                    rw [hyl.out] at hrow
                    rcases hrow.2 with ⟨e1, e2⟩ | ⟨gb, gcap, cur, hv, hbg, hg, hnc, hcm, hcs, htake⟩
                    · omega
                    · simp only [Value.slice.injEq, true_and] at hv
                      obtain ⟨rfl, rfl⟩ := hv
                      have hcA : wr.cell? ⟨gb, j, none⟩ = some (.int .u8 (ys[j]'(by have := hyl.out; omega))) := (hrow.cellAt j (by omega)).trans (by simp [show j < ys.length by have := hyl.out; omega])
                      have hfA := hrow.frozenAt j
                      clear hbg hg hnc hcm hcs htake hrow
                      have HB2 := hid (ownL_byte HO.out (apart_set HAP.out _ HX0.out (.inl rfl)) HSET.out hyl.out.symm hjl ((i : Int) % 256))
                      have HKP2 := hid (HKP.out.trans (Keep.setCell wr ⟨gb, j, none⟩ (.int .u8 ((i : Int) % 256)) (LF.out _ (List.mem_of_getElem? HX0.out) gb rfl)))
                      go_wp2
                      refine ⟨⟨j + 1, ys.set j ((i : Int) % 256), by omega, hid (by rw [List.length_set]; exact hyl.out), rfl, ?_, HKP2, ?_⟩, by simp [intOf]; omega⟩
                      · have h2 := HB2.out
                        rw [List.set_set] at h2
                        exact h2
                      · intro t ht
                        rw [List.getElem?_set]
                        have := hyl.out
                        split
                        · rw [if_pos (by omega)]
                        · exact HY.out t (by omega)
                  · obtain rfl : j = xb.length := by omega
                    obtain ⟨v', w', r', o', g'⟩ := append_byte z6 _ xb.length (ys.map (Value.int .u8)) wr 93 (by have h := HO.out.each _ (List.mem_of_getElem? HSET.out); dsimp only at h; rw [hyl.out] at h; exact h) (by have := HKP.out.size; omega) (by omega)
                    obtain ⟨na, nc, rfl⟩ := own_shape o'
                    obtain ⟨hO2, hA2⟩ := ownL_grow HO.out (apart_set HAP.out _ HX0.out (.inl rfl)) HSET.out g' (bs := ys ++ [93]) (by have := hyl.out; simp only [List.length_append, List.length_singleton, List.map_append, List.map_cons, List.map_nil]; rw [this]; exact o')
                    have hrow' := own_other HO.out.row (HO.out.each _ (List.mem_of_getElem? HSET.out)) (by decide) g'
                    have hlt4 : i * 4 + 3 < (flat (et.set i ((⟨xnum, xkind, xn, ys⟩ : Ent), Value.slice va xb.length vc))).length := (List.getElem?_eq_some_iff.1 (flat_at _ _ _ _ HSET.out)).1
                    have hcell2 : w'.cell? ⟨gr, i * 4 + 3, none⟩ = some (.slice va xb.length vc) := by
                      have hln2 : (et.set i ((⟨xnum, xkind, xn, ys⟩ : Ent), Value.slice va xb.length vc)).length = ln := by rw [List.length_set]; exact hel.out
                      rw [hln2] at hrow'
                      exact (hrow'.cellAt _ (by omega)).trans (flat_at _ _ _ _ HSET.out)
                    have hfro2 : w'.frozen? ⟨gr, i * 4 + 3, none⟩ = false := by
                      have hln2 : (et.set i ((⟨xnum, xkind, xn, ys⟩ : Ent), Value.slice va xb.length vc)).length = ln := by rw [List.length_set]; exact hel.out
                      rw [hln2] at hrow'
                      exact hrow'.frozenAt _
                    rw [List.set_set] at hO2 hA2
                    have HO2 := hid hO2
                    have HA2 := hid hA2
                    have HKP2 := hid ((HKP.out.trans (Keep.ofGrow (f := fun k => k < z6 ∨ (z7 ≤ k ∧ k < z8)) g' (fun k hk e => LF.out _ (List.mem_of_getElem? HX0.out) k e hk))).trans (Keep.setCell w' ⟨gr, i * 4 + 3, none⟩ (.slice na (xb.length + 1) nc) (LG.out gr rfl)))
                    have HD2 := hid (done_step HD.out HX0.out ys hyl.out (fun t ht => HY.out t (by have := hyl.out; omega)) (.slice na (xb.length + 1) nc) xnum xkind xn)
                    have LF2 := hid (show ∀ y ∈ et.set i ((⟨xnum, xkind, xn, ys ++ [93]⟩ : Ent), Value.slice na (xb.length + 1) nc), ∀ k, y.2.ownBlock = some k → ¬ (k < z6 ∨ (z7 ≤ k ∧ k < z8)) from fun y hy k hk e => by
                      rcases mem_set hy with rfl | hy
                      · rcases g'.own with g1 | g1
                        · exact LF.out _ (List.mem_of_getElem? HX0.out) k (g1.symm.trans hk) e
                        · have := g1 k hk
                          have := HKP.out.size
                          omega
                      · exact LF.out y hy k hk e)
                    have R' := hid r'
                    clear hO2 hA2 hrow' hlt4 r' o' g' HO HKP HD
                    go_wp2_with (first
                      | (at_builtin; refine wpList_append_ran rfl _ _ 23 23 rfl rfl _ _ _ w' rfl rfl R'.out ?_)
                      | fail)
                    exact ⟨⟨i + 1, _, by omega, hid (by rw [List.length_set]; exact hel.out), rfl, HO2, HA2, LF2, HKP2, HD2⟩, by simp [intOf]; omega⟩
            · have hiln : i = ln := by omega
              have HD := hid (show Done ln et from hiln ▸ HD.out)
              clear hiln
              have HB11 := hid (HB10.out.trans (HKP.out.below (B := w4.heap.size) (by omega) (fun k hk => .inl (by omega))))
              have HK11 := hid (HK10.out.keep (fun k hk => .inr (LK.out k hk)) (fun x hx k hk => .inr (LM.out x hx k hk)) HKP.out)
              clear HKP HK10 HB10 LF LG LK LM HAP
              go_wp2
              clear hlt hi
              generalize hW : wr = W at HO HB11 HK11 ⊢
              have HW := hid hW
              clear hW
              go_loopw [18] (fun r wr => ∃ (i : Nat), i ≤ ln ∧ r = .int .i64 i ∧ wr = W) (fun r _ => ln - (intOf r).toNat)
              case atStart => exact ⟨0, by omega, rfl, rfl⟩
              case round =>
                obtain ⟨i2, hi2, rfl, rfl⟩ := hrel
                by_cases hlt : i2 < ln
                · have hel2 := hel.out
                  rcases HO.out.row.2 with ⟨e1, e2⟩ | ⟨gr, gcap, cur, hv, hbg, hg, hnc, hcm, hcs, htake⟩
                  · omega
                  · simp only [Value.slice.injEq] at hv
                    obtain ⟨rfl, hz, rfl⟩ := hv
                    clear hz hel2 hbg hg hnc hcm hcs htake
                    obtain ⟨⟨x, v⟩, hx⟩ : ∃ y, et[i2]? = some y := ⟨_, List.getElem?_eq_getElem (by have := hel.out; omega)⟩
                    obtain ⟨va, vc, e⟩ := own_shape (HO.out.each _ (List.mem_of_getElem? hx))
                    dsimp only at e
                    subst e
                    obtain ⟨hcell, hfro⟩ := ownL_cell HO.out hx
                    have hdone := HD.out i2 _ hx
                    have hdone2 := hdone.1 (by omega)
                    have hxl := hdone.2.1
                    obtain ⟨xnum, xkind, xn, xb⟩ := x
                    dsimp only at hx hdone2 hxl hcell
                    have HX0 := hid hx
                    have HD2 := hid hdone2
                    clear hx hdone hdone2
                    go_wp2
                    go_loopw [19] (fun r wq => ∃ (j : Nat), j ≤ xb.length ∧ r = .int .i64 j ∧ wq = wr) (fun r _ => xb.length - (intOf r).toNat)
                    case atStart => exact ⟨0, by omega, rfl, rfl⟩
                    case round =>
                      obtain ⟨j, hj, rfl, rfl⟩ := hrel
                      by_cases hjl : j + 1 < xb.length
                      · have hrow := HO.out.each _ (List.mem_of_getElem? HX0.out)
                        dsimp only at hrow
                        rcases hrow.2 with ⟨e1, e2⟩ | ⟨gb, gcap, cur, hv, hbg, hg, hnc, hcm, hcs, htake⟩
                        · omega
                        · simp only [Value.slice.injEq, true_and] at hv
                          obtain ⟨rfl, rfl⟩ := hv
                          have hcA : wr.cell? ⟨gb, j, none⟩ = some (.int .u8 ((i2 : Int) % 256)) := (hrow.cellAt j (by omega)).trans (by rw [List.getElem?_map, HD2.out j hjl]; rfl)
                          clear hbg hg hnc hcm hcs htake hrow
                          go_wp2
                          exact ⟨⟨j + 1, by omega, rfl, trivial⟩, by simp [intOf]; omega⟩
                      · go_wp2
                        exact ⟨⟨i2 + 1, by omega, rfl, trivial⟩, by simp [intOf]; omega⟩
                · go_wp2_with fail
                  refine (splitWr a1 l1 c1 xs _ (reads_kept HRB.out HB11.out) (by omega)).mono ?_
                  rintro e w12 ⟨ab, ac, rfl, hag, hb12⟩
                  have hxr := conv (reads_kept (reads_kept HX.out HB11.out) hb12)
                  have HX12 := hid (reads_kept (reads_kept HX.out HB11.out) hb12)
                  have HR12 := hid (reads_kept (reads_kept HRB.out HB11.out) hb12)
                  have h201 := cell_kept (cell_kept HX2.out HB11.out) hb12
                  have HAG := hid hag
                  have HK12 := hid (HK11.out.kept hb12)
                  have HB12 := hid (below_trans (below_trans HB4.out HB11.out) hb12)
                  clear hag hb12 hxr
                  go_wp2_with fail
                  refine (sameYes _ _ _ _ _ _ xs _ HX12.out HR12.out).mono ?_
                  rintro e w' ⟨rfl, rfl⟩
                  go_wp2_with fail
                  obtain ⟨ka', kc', ek', hrk⟩ := ownL_reads HK12.out (by rw [HEK.out]; exact sp_good HB.out)
                  simp only [Value.slice.injEq, true_and] at ek'
                  obtain ⟨rfl, rfl⟩ := ek'
                  rw [HEK.out] at hrk
                  refine (listYes _ _ _ _ _ _ (sp xs).1 _ hrk HAG.out).mono ?_
                  rintro e w13 ⟨rfl, hb13⟩
                  have HB13 := hid (below_trans HB12.out hb13)
                  clear hb13 hrk
                  go_wp2
                  go_ret
                  exact ⟨rfl, HB13.out⟩
end Go.Proofs.Ytaedbgdjjnkloab
