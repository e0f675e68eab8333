/-
  The reader's number.
-/
import Derived.Test.YtlkdcdmdkncjoaaDoorYH
import Derived.Test.YtlkdcdmdkncjoaaDoorYI
import Derived.Deep.RegionHeld3
namespace Go.Proofs.YtlkdcdmdkncjoaaDoor
open Go.RowKit
set_option maxRecDepth 1000000
set_option maxHeartbeats 16000000
set_option linter.unusedVariables false

/-- The error's variable can be read. -/
def Sentinel (w : World) (g : Nat) : Prop := ∃ te pe, w.cell? ⟨g, 0, none⟩ = some (.iface te pe)
theorem cell_keep {f : Nat → Prop} {w w' : World} {b o : Nat} {v : Value} (h : w.cell? ⟨b, o, none⟩ = some v) (hb : Keep f w w') (hf : f b) : w'.cell? ⟨b, o, none⟩ = some v := by
  have hlt := World.block_lt_of_cell? _ _ h
  have e : w'.cell? ⟨b, o, none⟩ = w.cell? ⟨b, o, none⟩ := by
    simp only [World.cell?]
    rw [hb.block b hlt hf]
  rw [e]; exact h
theorem Sentinel.keep {f : Nat → Prop} {w w' : World} {g : Nat} (h : Sentinel w g) (hb : Keep f w w') (hf : f g) : Sentinel w' g := by
  obtain ⟨te, pe, h⟩ := h
  exact ⟨te, pe, cell_keep h hb hf⟩
theorem Sentinel.kept {w w' : World} {g : Nat} (h : Sentinel w g) (hb : Below w.heap.size w w') : Sentinel w' g := h.keep (f := fun _ => True) (Keep.ofBelow hb) trivial
/-- A label in the middle: what holds when it is reached. -/
theorem wp_scope_mid {P : Program} {a : Act} {w : World} {Q : Exit → Act → World → Prop} {c X : Code} (J : Nat → Act → World → Prop) (h0 : findLabel c 0 = some (Code.skip.seq X))
    (key : ∀ g a w, J g a w → X.wp P (Exit.jumps (fun l a w => l = 0 ∧ ∃ g', g' < g ∧ J g' a w) Q) a w)
    (first : ∀ R : Exit → Act → World → Prop, (∀ g a w, J g a w → X.wp P R a w) → c.wp P R a w) : (Code.scope c).wp P Q a w := by
  refine wp_scope_one J h0 (first _ fun g a w h => wp_mono (key g a w h) ?_) (fun g a w h => wp_seq (wp_skip (key g a w h)))
  intro e a w h
  cases e <;> first | exact h | (obtain ⟨h1, g, h2, h3⟩ := h; exact ⟨h1, g, h3⟩)

theorem parse10P (xs : List Int) (hb : ∀ x ∈ xs, 0 ≤ x ∧ x ≤ 255) (hd : ∀ x ∈ xs, digB x = true) (hne : xs.length ≠ 0) (hle : xs.length ≤ 65536) (w : World) (hs : Sentinel w 2) :
    Calls Tryd.prog 41 #[.string (strOfNums xs), .int .i64 10, .int .i64 64] w fun e w' => (∃ n er, e = .returned (.tuple #[.int .u64 n, er]) ∧ ((vlF 10 0 xs < 18446744073709551616 ∧ n = vlF 10 0 xs ∧ er = .nilIface) ∨ (18446744073709551616 ≤ vlF 10 0 xs ∧ ∃ t v, er = .iface t v))) ∧ Below w.heap.size w w' := by
  have HC := hid (parse10 xs hb hd hne hle w)
  have hbw := Lib.bytesWorld_below w 5 (strOfNums xs)
  have HS := hid (hs.kept hbw)
  have HB := hid hbw
  have hsz : (strOfNums xs).size ≤ 281474976710656 := by rw [strOfNums_size]; omega
  generalize Lib.bytesWorld w 5 (strOfNums xs) = W1 at HC HS HB
  clear hbw
  by_cases hv : vlF 10 0 xs < 18446744073709551616
  · rw [gotU_ok hv] at HC
    have HV := hid hv
    generalize vlF 10 0 xs = v at *
    clear hv
    go_enter Tryd.func41, Tryd.ntmps41
    go_wp2_with (go_at_call 46; refine HC.out.mono ?_; rintro e w' ⟨rfl, rfl⟩)
    go_ret2
    exact ⟨⟨_, _, rfl, .inl ⟨HV.out, rfl, rfl⟩⟩, HB.out⟩
  · rw [gotU_big (by omega)] at HC
    have HV : Hid (18446744073709551616 ≤ vlF 10 0 xs) := hid (by omega)
    generalize vlF 10 0 xs = v at *
    obtain ⟨te, pe, hvv⟩ := HS.out
    have HT := hid (Tryd.strconv_toError_range ⟨#[80, 97, 114, 115, 101, 85, 105, 110, 116]⟩ (strOfNums xs) 10 64 (.iface te pe) W1 hsz hvv (.inr ⟨te, pe, rfl⟩))
    clear hvv hv
    go_enter Tryd.func41, Tryd.ntmps41
    go_wp2_with (first | (go_at_call 46; refine HC.out.mono ?_; rintro e w' ⟨rfl, rfl⟩) | (go_at_call 47; refine HT.out.mono ?_; rintro e w' ⟨N, rfl, _, _, hb2⟩; replace hb2 := hid hb2))
    go_ret2
    exact ⟨⟨_, _, rfl, .inr ⟨HV.out, _, _, rfl⟩⟩, below_trans HB.out hb2.out⟩

theorem parse16P (xs : List Int) (hb : ∀ x ∈ xs, 0 ≤ x ∧ x ≤ 255) (hd : ∀ x ∈ xs, hexB x = true) (hne : xs.length ≠ 0) (hle : xs.length ≤ 65536) (w : World) (hs : Sentinel w 2) :
    Calls Tryd.prog 41 #[.string (strOfNums xs), .int .i64 16, .int .i64 64] w fun e w' => (∃ n er, e = .returned (.tuple #[.int .u64 n, er]) ∧ ((vlF 16 0 xs < 18446744073709551616 ∧ n = vlF 16 0 xs ∧ er = .nilIface) ∨ (18446744073709551616 ≤ vlF 16 0 xs ∧ ∃ t v, er = .iface t v))) ∧ Below w.heap.size w w' := by
  have HC := hid (parse16 xs hb hd hne hle w)
  have hbw := Lib.bytesWorld_below w 5 (strOfNums xs)
  have HS := hid (hs.kept hbw)
  have HB := hid hbw
  have hsz : (strOfNums xs).size ≤ 281474976710656 := by rw [strOfNums_size]; omega
  generalize Lib.bytesWorld w 5 (strOfNums xs) = W1 at HC HS HB
  clear hbw
  by_cases hv : vlF 16 0 xs < 18446744073709551616
  · rw [gotU_ok hv] at HC
    have HV := hid hv
    generalize vlF 16 0 xs = v at *
    clear hv
    go_enter Tryd.func41, Tryd.ntmps41
    go_wp2_with (go_at_call 46; refine HC.out.mono ?_; rintro e w' ⟨rfl, rfl⟩)
    go_ret2
    exact ⟨⟨_, _, rfl, .inl ⟨HV.out, rfl, rfl⟩⟩, HB.out⟩
  · rw [gotU_big (by omega)] at HC
    have HV : Hid (18446744073709551616 ≤ vlF 16 0 xs) := hid (by omega)
    generalize vlF 16 0 xs = v at *
    obtain ⟨te, pe, hvv⟩ := HS.out
    have HT := hid (Tryd.strconv_toError_range ⟨#[80, 97, 114, 115, 101, 85, 105, 110, 116]⟩ (strOfNums xs) 16 64 (.iface te pe) W1 hsz hvv (.inr ⟨te, pe, rfl⟩))
    clear hvv hv
    go_enter Tryd.func41, Tryd.ntmps41
    go_wp2_with (first | (go_at_call 46; refine HC.out.mono ?_; rintro e w' ⟨rfl, rfl⟩) | (go_at_call 47; refine HT.out.mono ?_; rintro e w' ⟨N, rfl, _, _, hb2⟩; replace hb2 := hid hb2))
    go_ret2
    exact ⟨⟨_, _, rfl, .inr ⟨HV.out, _, _, rfl⟩⟩, below_trans HB.out hb2.out⟩

section
variable (p : Nat) (xs : List Int) (fr : Nat) (bl bc : Int) (i : Nat) (kept : Value) (w : World)

theorem numberTen (base : Nat) (ws : List (Mw × Value)) (hb : ∀ x ∈ xs, 0 ≤ x ∧ x ≤ 255) (hf : fr = i) (hi : i < xs.length) (hl : xs.length ≤ 65536) (h : Rd w p xs fr bl bc i kept) (hk : Kp w base p 39 kept ws) (hbase : base ≤ w.heap.size) (hn : ws.length ≤ 70000) (hs : Sentinel w 2) (hp : p ≠ 2) (hx0 : hxA xs i = false) :
    Calls Tryd.prog 30 #[.pointer (some ⟨p, 0, none⟩)] w fun e w' => Went base xs p fr bl bc kept ws w (tokN xs i) e w' := by
  have HPA := hid (fun W j (hj : j < xs.length) (g1 : Rd W p xs fr bl bc j kept) => passW p xs fr bl bc j kept W hb hj hl g1)
  have HPE := hid (fun W j (hj : j ≤ xs.length) (g1 : Rd W p xs fr bl bc j kept) => peekW p xs fr bl bc j kept W hb hj hl g1)
  have HRE := hid (fun W j (hj : j ≤ xs.length) (g1 : Rd W p xs fr bl bc j kept) => restW p xs fr bl bc j kept W hj hl g1)
  have HPX := hid (fun W => prefixHex xs i W hb (by omega))
  rw [hx0] at HPX
  have HIN := hid (fun W j => inNameW (bt xs j) (bt_bd hb j).1 (bt_bd hb j).2 W)
  have HSE := hid (fun W j => tenW (bt xs j) (bt_bd hb j).1 (bt_bd hb j).2 W)
  have HK := hid hk
  have HBS := hid hbase
  have HR := hid h
  have HSN := hid hs
  have HNP := hid hp
  obtain ⟨fs, hfs⟩ : ∃ fs, nfr xs i = fs := ⟨_, rfl⟩
  have hfs2 : fs = i + 0 := by rw [← hfs]; unfold nfr; rw [hx0]; rfl
  have HT : Hid (tokN xs i = if sc digB xs fs = fs ∨ namB (bt xs (sc digB xs fs)) = true then .bad 11 else if 18446744073709551616 ≤ vl 10 xs fs (sc digB xs fs) then .bad 7 else .word 2 (sc digB xs fs) (vl 10 xs fs (sc digB xs fs)) []) := hid (by
    unfold tokN nen ndg nbs
    rw [hfs, hx0]
    rfl)
  have HPU := hid (fun W k (hk1 : fs < k) (hk2 : k ≤ xs.length) (hd : ∀ x ∈ cut xs fs k, digB x = true) (g : Sentinel W 2) => parse10P (cut xs fs k) (cut_bd hb fs k) hd (by rw [cut_length _ _ _ hk2]; omega) (by rw [cut_length _ _ _ hk2]; omega) W g)
  have H2 := hid (fun W j (nn : Int) (hj : j ≤ xs.length) (hfj : fr ≤ j) (g1 : Rd W p xs fr bl bc j kept) (g2 : Kp W base p 39 kept ws) (g3 : base ≤ W.heap.size) => keepW p xs fr bl bc j kept W base ws 2 nn [] none 0 hfj hj hl g1 g2 g3 hn (reads_nil _) (fun y hy => by cases hy))
  have HZ : Hid (∀ k, strOfNums (cut xs fs k) = (strOfNums xs).extract fs k) := hid (fun k => (str_cut xs fs k).symm)
  have HSZ : Hid ((strOfNums xs).size = xs.length) := hid (strOfNums_size xs)
  have HFS := hid hfs2
  have HFR := hid hf
  have hfs3 : i ≤ fs := by omega
  have hfr3 : fr ≤ fs := by omega
  clear hb h hk hbase hn hs hp hfs hx0 hfs2 hf
  go_enter Tryd.func30, Tryd.ntmps30
  go_wp2
  refine wp_scope_mid (fun g a' w' => ∃ (j : Nat) (u1 u2 u6 u7 u8 u9 u10 u11 u12 u13 u14 u15 u16 u17 u18 u19 u20 u21 u22 u23 u24 u25 u26 u27 u28 u29 u30 u31 u32 u33 u34 u35 u36 u37 u38 u39 u40 u41 u42 u43 u44 u45 u46 u47 u48 u49 u50 u51 u52 u53 u54 : Value), a' = { tmps := List.toArray (.pointer (some ⟨p, 0, none⟩) :: u1 :: u2 :: .int .i64 10 :: .string ⟨#[48, 49, 50, 51, 52, 53, 54, 55, 56, 57]⟩ :: .int .i64 (fs : Nat) :: u6 :: u7 :: u8 :: u9 :: u10 :: u11 :: u12 :: u13 :: u14 :: u15 :: u16 :: u17 :: u18 :: u19 :: u20 :: u21 :: u22 :: u23 :: u24 :: u25 :: u26 :: u27 :: u28 :: u29 :: u30 :: u31 :: u32 :: u33 :: u34 :: u35 :: u36 :: u37 :: u38 :: u39 :: u40 :: u41 :: u42 :: u43 :: u44 :: u45 :: u46 :: u47 :: u48 :: u49 :: u50 :: u51 :: u52 :: u53 :: u54 :: []), defers := [] } ∧ fs ≤ j ∧ j ≤ xs.length ∧ g = xs.length - j ∧ Hid (Rd w' p xs fr bl bc j kept) ∧ Hid (Keep (· ≠ p) w w') ∧ Hid (sc digB xs j = sc digB xs fs) ∧ Hid (∀ x ∈ cut xs fs j, digB x = true)) rfl ?_ ?_
  · rintro g a' w' ⟨j, u1, u2, u6, u7, u8, u9, u10, u11, u12, u13, u14, u15, u16, u17, u18, u19, u20, u21, u22, u23, u24, u25, u26, u27, u28, u29, u30, u31, u32, u33, u34, u35, u36, u37, u38, u39, u40, u41, u42, u43, u44, u45, u46, u47, u48, u49, u50, u51, u52, u53, u54, rfl, hij, hj, rfl, R0, K0, S0, D0⟩
    go_wp2_with fail
    refine (HPE.out _ j hj R0.out).mono ?_
    rintro e w1 ⟨rfl, B1⟩
    have HR1 := hid (R0.out.kept B1)
    have HK1 := hid (K0.out.trans (Keep.ofBelow B1))
    clear B1
    go_wp2_with fail
    refine (HSE.out _ j).mono ?_
    rintro e w1' ⟨rfl, rfl⟩
    cases hdg : digB (bt xs j) with
    | true =>
      have hjl : j < xs.length := by
        rcases Nat.lt_or_ge j xs.length with h | h
        · exact h
        · rw [bt_end h] at hdg; cases hdg
      have HS : Hid (sc digB xs (j + 1) = sc digB xs fs) := hid (by rw [← S0.out, ← sc_step hjl hdg])
      have HD : Hid (∀ x ∈ cut xs fs (j + 1), digB x = true) := hid (fun x hx => by
        rw [cut_snoc hjl hij] at hx
        rcases List.mem_append.1 hx with h | h
        · exact D0.out x h
        · simp at h; subst h; exact hdg)
      go_wp2_with fail
      refine (HPA.out _ j hjl HR1.out).mono ?_
      rintro e w3 ⟨rfl, R3, K3⟩
      have HR3 := hid R3
      have HK3 := hid (HK1.out.trans K3)
      clear R3 K3
      go_wp2
      go_step3
      exact ⟨rfl, xs.length - (j + 1), by omega, j + 1, _, _, _, _, _, _, _, _, _, _, _, _, _, _, _, _, _, _, _, _, _, _, _, _, _, _, _, _, _, _, _, _, _, _, _, _, _, _, _, _, _, _, _, _, _, _, _, _, _, _, _, rfl, by omega, by omega, rfl, HR3, HK3, HS, HD⟩
    | false =>
      have HS : Hid (sc digB xs fs = j) := hid (by rw [← S0.out, sc_stop hdg])
      obtain ⟨c0, c1, c2, c3, c4, c5, c6, c7⟩ := HR1.out.cells
      by_cases hjf : j = fs
      · have HTB : Hid (tokN xs i = .bad 11) := hid (by rw [HT.out, HS.out, if_pos (.inl hjf)])
        have hjf2 : ((j : Int) == (fs : Int)) = true := by simp; omega
        clear hjf
        go_wp2
        simp only [Exit.jumps]
        go_ret
        rw [HTB.out]
        exact ⟨rfl, _, HR1.out, HK1.out⟩
      · have hjf2 : ((j : Int) == (fs : Int)) = false := by simp; omega
        go_wp2_with fail
        refine (HPE.out _ j hj HR1.out).mono ?_
        rintro e w2 ⟨rfl, B2⟩
        have HR2 := hid (HR1.out.kept B2)
        have HK2 := hid (HK1.out.trans (Keep.ofBelow B2))
        clear B2
        go_wp2_with fail
        refine (HIN.out _ j).mono ?_
        rintro e w2' ⟨rfl, rfl⟩
        cases hnm : namB (bt xs j) with
        | true =>
          have HTB : Hid (tokN xs i = .bad 11) := hid (by rw [HT.out, HS.out, if_pos (.inr hnm)])
          go_wp2
          simp only [Exit.jumps]
          go_ret
          rw [HTB.out]
          exact ⟨rfl, _, HR2.out, HK2.out⟩
        | false =>
          have HT2 : Hid (tokN xs i = if 18446744073709551616 ≤ vl 10 xs fs j then .bad 7 else .word 2 j (vl 10 xs fs j) []) := hid (by rw [HT.out, HS.out, if_neg (by simp [hjf, hnm])])
          have hcut := (HZ.out j).symm
          have hsz := HSZ.out
          have hj1 : (j : Int) ≤ (xs.length : Int) := by omega
          have hj2 : (fs : Int) ≤ (j : Int) := by omega
          clear c0 c1 c2 c3 c4 c5 c6 c7
          obtain ⟨c0, c1, c2, c3, c4, c5, c6, c7⟩ := HR2.out.cells
          have HQ := hid (fun W (hW : Below w2.heap.size w2 W) => HPU.out W j (by omega) hj D0.out (HSN.out.keep (HK2.out.trans (Keep.ofBelow hW)) HNP.out.symm))
          clear c1 c3 c4 c5 c6 c7 HT hjf
          go_wp2_with fail
          go_region_held3 (fun w' => w'.cell? ⟨p, 0, none⟩ = some (.string (strOfNums xs)) ∧ w'.cell? ⟨p, 2, none⟩ = some (.int .i64 j)) (go_keep) (first | (go_at_call 41; refine (HQ.out _ (by first | exact below_drew1 _ | exact Below.refl _ _)).mono ?_; rintro e w3 ⟨⟨nn, er, rfl, hor⟩, B3⟩; have d0 : w3.cell? ⟨p, 0, none⟩ = some (.string (strOfNums xs)) := (HR2.out.kept (below_trans (below_drew1 _) B3)).cells.1; have d2 : w3.cell? ⟨p, 2, none⟩ = some (.int .i64 j) := (HR2.out.kept (below_trans (below_drew1 _) B3)).cells.2.2.1; replace B3 := hid B3))
          have HR3 := hid (HR2.out.kept (below_trans (below_drew1 _) B3.out))
          have HK3 := hid (HK2.out.trans (Keep.ofBelow (below_trans (below_drew1 _) B3.out)))
          clear d0 d2 B3 c0 c2
          rcases hor with ⟨hv, rfl, rfl⟩ | ⟨hv, t, v, rfl⟩
          · have HT3 : Hid (tokN xs i = .word 2 j (vlF 10 0 (cut xs fs j)) []) := hid (by rw [HT2.out, if_neg (by unfold vl; omega)]; rfl)
            generalize vlF 10 0 (cut xs fs j) = nn at *
            clear hv
            go_wp2_with fail
            refine (H2.out _ j nn hj (by omega) HR3.out (HK.out.keep HK3.out) (Nat.le_trans HBS.out HK3.out.size)).mono ?_
            rintro e w4 ⟨rfl, kept', R4, K4, B4⟩
            have HH : Hid (Took base xs p fr bl bc kept ws w 2 j nn [] w4) := hid ⟨kept', _, R4, K4, (keep_weak HK3.out).trans B4⟩
            clear R4 K4 B4
            go_wp2
            simp only [Exit.jumps]
            go_ret
            rw [HT3.out]
            exact ⟨rfl, HH.out⟩
          · have HT3 : Hid (tokN xs i = .bad 7) := hid (by rw [HT2.out, if_pos (by unfold vl; omega)])
            clear hv
            go_wp2
            simp only [Exit.jumps]
            go_ret
            rw [HT3.out]
            exact ⟨rfl, _, HR3.out, HK3.out⟩
  · intro R hX
    go_wp2_with fail
    refine (HRE.out _ i (by omega) HR.out).mono ?_
    rintro e w1 ⟨rfl, B1⟩
    have HR1 := hid (HR.out.kept B1)
    have HK1 := hid (Keep.ofBelow (f := (· ≠ p)) B1)
    clear B1
    go_wp2_with fail
    refine (HPX.out _).mono ?_
    rintro e w1' ⟨rfl, rfl⟩
    obtain ⟨c0, c1, c2, c3, c4, c5, c6, c7⟩ := HR1.out.cells
    go_wp2
    rename_i K hK
    refine wp_label (hK _ _ (hX (xs.length - fs) _ _ ⟨fs, _, _, _, _, _, _, _, _, _, _, _, _, _, _, _, _, _, _, _, _, _, _, _, _, _, _, _, _, _, _, _, _, _, _, _, _, _, _, _, _, _, _, _, _, _, _, _, _, _, _, _, (by rw [HFS.out]; rfl), Nat.le_refl _, (by have := HFS.out; omega), rfl, hid (by rw [HFS.out]; exact HR1.out), HK1, hid rfl, hid (by rw [cut_nil]; simp)⟩))

theorem numberHex (base : Nat) (ws : List (Mw × Value)) (hb : ∀ x ∈ xs, 0 ≤ x ∧ x ≤ 255) (hf : fr = i) (hi : i < xs.length) (hl : xs.length ≤ 65536) (h : Rd w p xs fr bl bc i kept) (hk : Kp w base p 39 kept ws) (hbase : base ≤ w.heap.size) (hn : ws.length ≤ 70000) (hs : Sentinel w 2) (hp : p ≠ 2) (hx0 : hxA xs i = true) :
    Calls Tryd.prog 30 #[.pointer (some ⟨p, 0, none⟩)] w fun e w' => Went base xs p fr bl bc kept ws w (tokN xs i) e w' := by
  have HPA := hid (fun W j (hj : j < xs.length) (g1 : Rd W p xs fr bl bc j kept) => passW p xs fr bl bc j kept W hb hj hl g1)
  have HPE := hid (fun W j (hj : j ≤ xs.length) (g1 : Rd W p xs fr bl bc j kept) => peekW p xs fr bl bc j kept W hb hj hl g1)
  have HRE := hid (fun W j (hj : j ≤ xs.length) (g1 : Rd W p xs fr bl bc j kept) => restW p xs fr bl bc j kept W hj hl g1)
  have HPX := hid (fun W => prefixHex xs i W hb (by omega))
  rw [hx0] at HPX
  have HIN := hid (fun W j => inNameW (bt xs j) (bt_bd hb j).1 (bt_bd hb j).2 W)
  have HSE := hid (fun W j => sixteenW (bt xs j) (bt_bd hb j).1 (bt_bd hb j).2 W)
  have HK := hid hk
  have HBS := hid hbase
  have HR := hid h
  have HSN := hid hs
  have HNP := hid hp
  obtain ⟨fs, hfs⟩ : ∃ fs, nfr xs i = fs := ⟨_, rfl⟩
  have hfs2 : fs = i + 2 := by rw [← hfs]; unfold nfr; rw [hx0]; rfl
  have HT : Hid (tokN xs i = if sc hexB xs fs = fs ∨ namB (bt xs (sc hexB xs fs)) = true then .bad 11 else if 18446744073709551616 ≤ vl 16 xs fs (sc hexB xs fs) then .bad 7 else .word 2 (sc hexB xs fs) (vl 16 xs fs (sc hexB xs fs)) []) := hid (by
    unfold tokN nen ndg nbs
    rw [hfs, hx0]
    rfl)
  have HPU := hid (fun W k (hk1 : fs < k) (hk2 : k ≤ xs.length) (hd : ∀ x ∈ cut xs fs k, hexB x = true) (g : Sentinel W 2) => parse16P (cut xs fs k) (cut_bd hb fs k) hd (by rw [cut_length _ _ _ hk2]; omega) (by rw [cut_length _ _ _ hk2]; omega) W g)
  have H2 := hid (fun W j (nn : Int) (hj : j ≤ xs.length) (hfj : fr ≤ j) (g1 : Rd W p xs fr bl bc j kept) (g2 : Kp W base p 39 kept ws) (g3 : base ≤ W.heap.size) => keepW p xs fr bl bc j kept W base ws 2 nn [] none 0 hfj hj hl g1 g2 g3 hn (reads_nil _) (fun y hy => by cases hy))
  have hi1 : i + 1 < xs.length := by
    rcases Nat.lt_or_ge (i + 1) xs.length with h | h
    · exact h
    · simp [hxA, bt_end h] at hx0
  have HTW := hid (fun W (g1 : Rd W p xs fr bl bc i kept) => passTwoW p xs fr bl bc i kept W ⟨#[48, 120]⟩ rfl hb hi1 hl g1)
  have HZ : Hid (∀ k, strOfNums (cut xs fs k) = (strOfNums xs).extract fs k) := hid (fun k => (str_cut xs fs k).symm)
  have HSZ : Hid ((strOfNums xs).size = xs.length) := hid (strOfNums_size xs)
  have HFS := hid hfs2
  have HFR := hid hf
  have hfs3 : i ≤ fs := by omega
  have hfr3 : fr ≤ fs := by omega
  clear hb h hk hbase hn hs hp hfs hx0 hfs2 hf
  go_enter Tryd.func30, Tryd.ntmps30
  go_wp2
  refine wp_scope_mid (fun g a' w' => ∃ (j : Nat) (u1 u2 u6 u7 u8 u9 u10 u11 u12 u13 u14 u15 u16 u17 u18 u19 u20 u21 u22 u23 u24 u25 u26 u27 u28 u29 u30 u31 u32 u33 u34 u35 u36 u37 u38 u39 u40 u41 u42 u43 u44 u45 u46 u47 u48 u49 u50 u51 u52 u53 u54 : Value), a' = { tmps := List.toArray (.pointer (some ⟨p, 0, none⟩) :: u1 :: u2 :: .int .i64 16 :: .string ⟨#[48, 49, 50, 51, 52, 53, 54, 55, 56, 57, 97, 98, 99, 100, 101, 102, 65, 66, 67, 68, 69, 70]⟩ :: .int .i64 (fs : Nat) :: u6 :: u7 :: u8 :: u9 :: u10 :: u11 :: u12 :: u13 :: u14 :: u15 :: u16 :: u17 :: u18 :: u19 :: u20 :: u21 :: u22 :: u23 :: u24 :: u25 :: u26 :: u27 :: u28 :: u29 :: u30 :: u31 :: u32 :: u33 :: u34 :: u35 :: u36 :: u37 :: u38 :: u39 :: u40 :: u41 :: u42 :: u43 :: u44 :: u45 :: u46 :: u47 :: u48 :: u49 :: u50 :: u51 :: u52 :: u53 :: u54 :: []), defers := [] } ∧ fs ≤ j ∧ j ≤ xs.length ∧ g = xs.length - j ∧ Hid (Rd w' p xs fr bl bc j kept) ∧ Hid (Keep (· ≠ p) w w') ∧ Hid (sc hexB xs j = sc hexB xs fs) ∧ Hid (∀ x ∈ cut xs fs j, hexB x = true)) rfl ?_ ?_
  · rintro g a' w' ⟨j, u1, u2, u6, u7, u8, u9, u10, u11, u12, u13, u14, u15, u16, u17, u18, u19, u20, u21, u22, u23, u24, u25, u26, u27, u28, u29, u30, u31, u32, u33, u34, u35, u36, u37, u38, u39, u40, u41, u42, u43, u44, u45, u46, u47, u48, u49, u50, u51, u52, u53, u54, rfl, hij, hj, rfl, R0, K0, S0, D0⟩
    go_wp2_with fail
    refine (HPE.out _ j hj R0.out).mono ?_
    rintro e w1 ⟨rfl, B1⟩
    have HR1 := hid (R0.out.kept B1)
    have HK1 := hid (K0.out.trans (Keep.ofBelow B1))
    clear B1
    go_wp2_with fail
    refine (HSE.out _ j).mono ?_
    rintro e w1' ⟨rfl, rfl⟩
    cases hdg : hexB (bt xs j) with
    | true =>
      have hjl : j < xs.length := by
        rcases Nat.lt_or_ge j xs.length with h | h
        · exact h
        · rw [bt_end h] at hdg; cases hdg
      have HS : Hid (sc hexB xs (j + 1) = sc hexB xs fs) := hid (by rw [← S0.out, ← sc_step hjl hdg])
      have HD : Hid (∀ x ∈ cut xs fs (j + 1), hexB x = true) := hid (fun x hx => by
        rw [cut_snoc hjl hij] at hx
        rcases List.mem_append.1 hx with h | h
        · exact D0.out x h
        · simp at h; subst h; exact hdg)
      go_wp2_with fail
      refine (HPA.out _ j hjl HR1.out).mono ?_
      rintro e w3 ⟨rfl, R3, K3⟩
      have HR3 := hid R3
      have HK3 := hid (HK1.out.trans K3)
      clear R3 K3
      go_wp2
      go_step3
      exact ⟨rfl, xs.length - (j + 1), by omega, j + 1, _, _, _, _, _, _, _, _, _, _, _, _, _, _, _, _, _, _, _, _, _, _, _, _, _, _, _, _, _, _, _, _, _, _, _, _, _, _, _, _, _, _, _, _, _, _, _, _, _, _, _, rfl, by omega, by omega, rfl, HR3, HK3, HS, HD⟩
    | false =>
      have HS : Hid (sc hexB xs fs = j) := hid (by rw [← S0.out, sc_stop hdg])
      obtain ⟨c0, c1, c2, c3, c4, c5, c6, c7⟩ := HR1.out.cells
      by_cases hjf : j = fs
      · have HTB : Hid (tokN xs i = .bad 11) := hid (by rw [HT.out, HS.out, if_pos (.inl hjf)])
        have hjf2 : ((j : Int) == (fs : Int)) = true := by simp; omega
        clear hjf
        go_wp2
        simp only [Exit.jumps]
        go_ret
        rw [HTB.out]
        exact ⟨rfl, _, HR1.out, HK1.out⟩
      · have hjf2 : ((j : Int) == (fs : Int)) = false := by simp; omega
        go_wp2_with fail
        refine (HPE.out _ j hj HR1.out).mono ?_
        rintro e w2 ⟨rfl, B2⟩
        have HR2 := hid (HR1.out.kept B2)
        have HK2 := hid (HK1.out.trans (Keep.ofBelow B2))
        clear B2
        go_wp2_with fail
        refine (HIN.out _ j).mono ?_
        rintro e w2' ⟨rfl, rfl⟩
        cases hnm : namB (bt xs j) with
        | true =>
          have HTB : Hid (tokN xs i = .bad 11) := hid (by rw [HT.out, HS.out, if_pos (.inr hnm)])
          go_wp2
          simp only [Exit.jumps]
          go_ret
          rw [HTB.out]
          exact ⟨rfl, _, HR2.out, HK2.out⟩
        | false =>
          have HT2 : Hid (tokN xs i = if 18446744073709551616 ≤ vl 16 xs fs j then .bad 7 else .word 2 j (vl 16 xs fs j) []) := hid (by rw [HT.out, HS.out, if_neg (by simp [hjf, hnm])])
          have hcut := (HZ.out j).symm
          have hsz := HSZ.out
          have hj1 : (j : Int) ≤ (xs.length : Int) := by omega
          have hj2 : (fs : Int) ≤ (j : Int) := by omega
          clear c0 c1 c2 c3 c4 c5 c6 c7
          obtain ⟨c0, c1, c2, c3, c4, c5, c6, c7⟩ := HR2.out.cells
          have HQ := hid (fun W (hW : Below w2.heap.size w2 W) => HPU.out W j (by omega) hj D0.out (HSN.out.keep (HK2.out.trans (Keep.ofBelow hW)) HNP.out.symm))
          clear c1 c3 c4 c5 c6 c7 HT hjf
          go_wp2_with fail
          go_region_held3 (fun w' => w'.cell? ⟨p, 0, none⟩ = some (.string (strOfNums xs)) ∧ w'.cell? ⟨p, 2, none⟩ = some (.int .i64 j)) (go_keep) (first | (go_at_call 41; refine (HQ.out _ (by first | exact below_drew1 _ | exact Below.refl _ _)).mono ?_; rintro e w3 ⟨⟨nn, er, rfl, hor⟩, B3⟩; have d0 : w3.cell? ⟨p, 0, none⟩ = some (.string (strOfNums xs)) := (HR2.out.kept (below_trans (below_drew1 _) B3)).cells.1; have d2 : w3.cell? ⟨p, 2, none⟩ = some (.int .i64 j) := (HR2.out.kept (below_trans (below_drew1 _) B3)).cells.2.2.1; replace B3 := hid B3))
          have HR3 := hid (HR2.out.kept (below_trans (below_drew1 _) B3.out))
          have HK3 := hid (HK2.out.trans (Keep.ofBelow (below_trans (below_drew1 _) B3.out)))
          clear d0 d2 B3 c0 c2
          rcases hor with ⟨hv, rfl, rfl⟩ | ⟨hv, t, v, rfl⟩
          · have HT3 : Hid (tokN xs i = .word 2 j (vlF 16 0 (cut xs fs j)) []) := hid (by rw [HT2.out, if_neg (by unfold vl; omega)]; rfl)
            generalize vlF 16 0 (cut xs fs j) = nn at *
            clear hv
            go_wp2_with fail
            refine (H2.out _ j nn hj (by omega) HR3.out (HK.out.keep HK3.out) (Nat.le_trans HBS.out HK3.out.size)).mono ?_
            rintro e w4 ⟨rfl, kept', R4, K4, B4⟩
            have HH : Hid (Took base xs p fr bl bc kept ws w 2 j nn [] w4) := hid ⟨kept', _, R4, K4, (keep_weak HK3.out).trans B4⟩
            clear R4 K4 B4
            go_wp2
            simp only [Exit.jumps]
            go_ret
            rw [HT3.out]
            exact ⟨rfl, HH.out⟩
          · have HT3 : Hid (tokN xs i = .bad 7) := hid (by rw [HT2.out, if_pos (by unfold vl; omega)])
            clear hv
            go_wp2
            simp only [Exit.jumps]
            go_ret
            rw [HT3.out]
            exact ⟨rfl, _, HR3.out, HK3.out⟩
  · intro R hX
    go_wp2_with fail
    refine (HRE.out _ i (by omega) HR.out).mono ?_
    rintro e w1 ⟨rfl, B1⟩
    have HR1 := hid (HR.out.kept B1)
    have HK1 := hid (Keep.ofBelow (f := (· ≠ p)) B1)
    clear B1
    go_wp2_with fail
    refine (HPX.out _).mono ?_
    rintro e w1' ⟨rfl, rfl⟩
    go_wp2_with fail
    refine (HTW.out _ HR1.out).mono ?_
    rintro e w2 ⟨rfl, R2, K2⟩
    have HR2 := hid R2
    have HK2 := hid (HK1.out.trans K2)
    clear R2 K2
    obtain ⟨c0, c1, c2, c3, c4, c5, c6, c7⟩ := HR2.out.cells
    go_wp2
    rename_i K hK
    refine wp_label (hK _ _ (hX (xs.length - fs) _ _ ⟨fs, _, _, _, _, _, _, _, _, _, _, _, _, _, _, _, _, _, _, _, _, _, _, _, _, _, _, _, _, _, _, _, _, _, _, _, _, _, _, _, _, _, _, _, _, _, _, _, _, _, _, _, (by rw [HFS.out]; rfl), Nat.le_refl _, (by have := HFS.out; omega), rfl, hid (by rw [HFS.out]; exact HR2.out), HK2, hid rfl, hid (by rw [cut_nil]; simp)⟩))

theorem numberW (base : Nat) (ws : List (Mw × Value)) (hb : ∀ x ∈ xs, 0 ≤ x ∧ x ≤ 255) (hf : fr = i) (hi : i < xs.length) (hl : xs.length ≤ 65536) (h : Rd w p xs fr bl bc i kept) (hk : Kp w base p 39 kept ws) (hbase : base ≤ w.heap.size) (hn : ws.length ≤ 70000) (hs : Sentinel w 2) (hp : p ≠ 2) :
    Calls Tryd.prog 30 #[.pointer (some ⟨p, 0, none⟩)] w fun e w' => Went base xs p fr bl bc kept ws w (tokN xs i) e w' := by
  cases hx : hxA xs i with
  | true => exact numberHex p xs fr bl bc i kept w base ws hb hf hi hl h hk hbase hn hs hp hx
  | false => exact numberTen p xs fr bl bc i kept w base ws hb hf hi hl h hk hbase hn hs hp hx
end
end Go.Proofs.YtlkdcdmdkncjoaaDoor
