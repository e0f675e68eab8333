/-
  Parse: the document's walk, as a whole.
  Parse: the document's walk over quoted texts and whole numbers.
  Parse: the document's walk over whole numbers; as a whole.
  Text: the program's walk and the document's.
  Text: the document's walk.
-/
import Derived.Test.YtcenkalhklpajaaGreatDoorCUG
import Derived.Test.YtcenkalhklpajaaGreatDoorCSF
import Derived.Lib.AppendIntMem
namespace Go.Proofs.YtcenkalhklpajaaGreatDoor
open Go.RowKit Go.Sort
set_option maxRecDepth 1000000
set_option linter.unusedVariables false
set_option maxHeartbeats 8000000

theorem reads_zero {w w' : World} {a : Option Addr} {c : Nat} (h : Reads w a 0 c []) : Reads w' a 0 c [] := by
  refine ⟨h.length, h.le, h.max, h.bd, .inl ⟨rfl, ?_⟩⟩
  rcases h.cells with h0 | ⟨b, off, rfl, _⟩
  · exact h0.2
  · intro e; cases e
theorem refPNo (k : Int) (xs : List Int) (w : World) (hk : k < 1 ∨ 16 < k) : Calls Tryz.prog 22 #[.int .i64 k, .string (strOfNums xs)] w fun e w' => GaveP w (.none 18) e w' := by
  have hc : k < 1 ∨ (¬ k < 1 ∧ 16 < k) := by omega
  clear hk
  rcases hc with h | ⟨h, h2⟩
  all_goals
    go_enter Tryz.func22, Tryz.ntmps22
    go_wp2
    exact bodyPost_ret (v := .tuple #[.agg #[.int .u64 0, .slice none 0 0, .slice none 0 0], .int .i64 18]) (by simp [results, Tryz.results22, go_sem]) rfl (gaveP_err rfl (below_two _ _))
theorem refPBool (xs : List Int) (hb : ∀ x ∈ xs, 0 ≤ x ∧ x ≤ 255) (w : World) : Calls Tryz.prog 22 #[.int .i64 1, .string (strOfNums xs)] w fun e w' => GaveP w (bitsG (pbool xs)) e w' := by
  have h1 : ((strOfNums xs).toList == ([102, 97, 108, 115, 101] : List UInt8)) = decide (xs = [102, 97, 108, 115, 101]) := by
    have h := str_eq (ys := [102, 97, 108, 115, 101]) hb (by decide)
    rw [str_list [102, 97, 108, 115, 101]] at h
    exact h
  have h2 : ((strOfNums xs).toList == ([116, 114, 117, 101] : List UInt8)) = decide (xs = [116, 114, 117, 101]) := by
    have h := str_eq (ys := [116, 114, 117, 101]) hb (by decide)
    rw [str_list [116, 114, 117, 101]] at h
    exact h
  by_cases ht : xs = [116, 114, 117, 101]
  · have hg : pbool xs = (1, 0) := by subst ht; rfl
    have h2' : ((strOfNums xs).toList == ([116, 114, 117, 101] : List UInt8)) = true := by rw [h2]; simpa using ht
    rw [hg]
    clear h1 h2 ht hg
    go_enter Tryz.func22, Tryz.ntmps22
    go_wp2
    exact bodyPost_ret (v := .tuple #[.agg #[.int .u64 1, .slice none 0 0, .slice none 0 0], .int .i64 0]) (by simp [results, Tryz.results22, go_sem]) rfl (gaveP_num (nx := 0) rfl (below_two _ _))
  · have h2' : ((strOfNums xs).toList == ([116, 114, 117, 101] : List UInt8)) = false := by rw [h2]; simpa using ht
    by_cases hf : xs = [102, 97, 108, 115, 101]
    · have hg : pbool xs = (0, 0) := by subst hf; rfl
      have h1' : ((strOfNums xs).toList == ([102, 97, 108, 115, 101] : List UInt8)) = true := by rw [h1]; simpa using hf
      rw [hg]
      clear h1 h2 ht hf hg
      go_enter Tryz.func22, Tryz.ntmps22
      go_wp2
      exact bodyPost_ret (v := .tuple #[.agg #[.int .u64 0, .slice none 0 0, .slice none 0 0], .int .i64 0]) (by simp [results, Tryz.results22, go_sem]) rfl (gaveP_num (nx := 0) rfl (below_two _ _))
    · have hg : pbool xs = (0, 11) := by unfold pbool; rw [if_neg hf, if_neg ht]
      have h1' : ((strOfNums xs).toList == ([102, 97, 108, 115, 101] : List UInt8)) = false := by rw [h1]; simpa using hf
      rw [hg]
      clear h1 h2 ht hf hg
      go_enter Tryz.func22, Tryz.ntmps22
      go_wp2
      exact bodyPost_ret (v := .tuple #[.agg #[.int .u64 0, .slice none 0 0, .slice none 0 0], .int .i64 11]) (by simp [results, Tryz.results22, go_sem]) rfl (gaveP_err rfl (below_two _ _))
theorem bitsG_b (p : Int × Int) : (bitsG p).b = [] := by unfold bitsG; split <;> rfl
theorem refPBits (k sg : Int) (size : Nat) (hk : (k = 12 ∧ sg = 102 ∧ size = 8) ∨ (k = 13 ∧ sg = 100 ∧ size = 16)) (xs : List Int) (hb : ∀ x ∈ xs, 0 ≤ x ∧ x ≤ 255) (hl : xs.length ≤ 281474976710656) (w : World) :
    Calls Tryz.prog 22 #[.int .i64 k, .string (strOfNums xs)] w fun e w' => GaveP w (bitsG (pbits sg size xs)) e w' := by
  have HB := hid (fun W => bitsPR k sg size hk xs hb hl W)
  have hgb := bitsG_b (pbits sg size xs)
  generalize bitsG (pbits sg size xs) = g at *
  obtain ⟨gn, gb, gx, ge⟩ := g
  have hgb : gb = [] := hgb
  subst hgb
  have hk2 : k = 12 ∨ k = 13 := by omega
  clear hk
  rcases hk2 with rfl | rfl
  all_goals
    go_enter Tryz.func22, Tryz.ntmps22
    go_wp2_with fail
    refine (HB.out _).mono ?_
    rintro e w2 ⟨a, c, rfl, hr, hb2⟩
    obtain ⟨⟨d0, d1, d2⟩, ⟨f0, f1, f2⟩, hfz, hfz2, hgr, hbel⟩ := two_cells hb2
    replace hb2 := hid hb2
    replace hbel := hid hbel
    replace hr := hid hr
    go_wp2
    exact bodyPost_ret (v := .tuple #[.agg #[.int .u64 gn, .slice a 0 c, .slice none 0 0], .int .i64 ge]) (by simp [results, Tryz.results22, go_sem, d0, d1, d2]) rfl ⟨a, c, rfl, reads_zero hr.out, below_set3 hbel.out _ _ _⟩
end Go.Proofs.YtcenkalhklpajaaGreatDoor
namespace Go.Proofs.YtcenkalhklpajaaGreatDoor
open Go.RowKit Go.Sort
set_option maxRecDepth 1000000
set_option linter.unusedVariables false
set_option maxHeartbeats 8000000

theorem uqF_len : ∀ (f : Nat) (l acc ys : List Int), uqF f l acc = some ys → ys.length ≤ acc.length + f
  | 0, l, acc, ys, h => by simp [uqF] at h; subst h; simp
  | f + 1, l, acc, ys, h => by
    rw [uqF] at h
    split at h
    · simp at h; subst h; omega
    · split at h
      · cases h
      · have := uqF_len f _ _ ys h
        simp at this
        omega
theorem uq_len {xs ys : List Int} (h : uq xs = some ys) : ys.length ≤ xs.length := by
  unfold uq at h
  split at h
  · cases h
  · have := uqF_len _ _ _ ys h
    rw [parts_len] at this
    simp at this
    omega
theorem refPRow (k : Int) (hk : k = 14 ∨ k = 15) (xs : List Int) (hb : ∀ x ∈ xs, 0 ≤ x ∧ x ≤ 255) (hl : xs.length ≤ 4194304) (w : World) :
    Calls Tryz.prog 22 #[.int .i64 k, .string (strOfNums xs)] w fun e w' => GaveP w (if (uqE xs).2 ≠ 0 then .none (uqE xs).2 else if k = 14 ∧ rn (uqE xs).1 < 0 then .none 8 else ⟨0, (uqE xs).1, 0, 0⟩) e w' := by
  have hsz : (strOfNums xs).size = xs.length := strOfNums_size xs
  by_cases hbig : 65536 < xs.length
  · rw [uqE_big hbig, if_pos (by simp)]
    have hi : (65536 : Int) < (xs.length : Int) := by omega
    generalize xs.length = yl at *
    clear hbig
    rcases hk with rfl | rfl
    all_goals
      go_enter Tryz.func22, Tryz.ntmps22
      go_wp2
      exact bodyPost_ret (v := .tuple #[.agg #[.int .u64 0, .slice none 0 0, .slice none 0 0], .int .i64 1]) (by simp [results, Tryz.results22, go_sem]) rfl (gaveP_err rfl (below_two _ _))
  · have hi : (xs.length : Int) ≤ 65536 := by omega
    have HU := hid (fun W => refUnqR xs W hb hl)
    cases hu : uq xs with
    | none =>
      rw [uqE_none hbig hu, if_pos (by simp)]
      rw [hu] at HU
      generalize xs.length = yl at *
      clear hbig hu
      rcases hk with rfl | rfl
      all_goals
        go_enter Tryz.func22, Tryz.ntmps22
        go_wp2_with fail
        refine (HU.out _).mono ?_
        rintro e w2 ⟨rfl, hb2⟩
        obtain ⟨⟨d0, d1, d2⟩, ⟨f0, f1, f2⟩, hfz, hfz2, hgr, hbel⟩ := two_cells hb2
        replace hb2 := hid hb2
        replace hbel := hid hbel
        go_wp2
        exact bodyPost_ret (v := .tuple #[.agg #[.int .u64 0, .slice none 0 0, .slice none 0 0], .int .i64 11]) (by simp [results, Tryz.results22, go_sem, d0, d1, d2]) rfl (gaveP_err rfl (below_set3 hbel.out _ _ _))
    | some ys =>
      rw [uqE_some hbig hu, if_neg (by simp)]
      rw [hu] at HU
      have hyl : ys.length ≤ 140737488355328 := by have := uq_len hu; omega
      have HV := hid (fun (b2 : Option Addr) (c2 : Nat) (W : World) (hr : Reads W b2 ys.length c2 ys) => validR b2 ys.length c2 W ys hr hyl)
      generalize xs.length = yl at *
      clear hbig hu hyl
      by_cases hbad : k = 14 ∧ rn ys < 0
      · rw [if_pos hbad]
        obtain ⟨rfl, hr⟩ := hbad
        have e : decide (0 ≤ rn ys) = false := by simpa using hr
        rw [e] at HV
        clear hk hr e
        go_enter Tryz.func22, Tryz.ntmps22
        go_wp2_with fail
        refine (HU.out _).mono ?_
        rintro e w2 ⟨b2, c2, rfl, hrd, hb2⟩
        obtain ⟨⟨d0, d1, d2⟩, ⟨f0, f1, f2⟩, hfz, hfz2, hgr, hbel⟩ := two_cells hb2
        replace hb2 := hid hb2
        replace hbel := hid hbel
        replace hrd := hid hrd
        go_wp2_with fail
        refine (HV.out b2 c2 _ hrd.out).mono ?_
        rintro e w' ⟨rfl, rfl⟩
        go_wp2
        exact bodyPost_ret (v := .tuple #[.agg #[.int .u64 0, .slice none 0 0, .slice none 0 0], .int .i64 8]) (by simp [results, Tryz.results22, go_sem, d0, d1, d2]) rfl (gaveP_err rfl (below_set3 hbel.out _ _ _))
      · rw [if_neg hbad]
        have HV2 : Hid (k = 14 → decide (0 ≤ rn ys) = true) := hid (fun hk => by simp; omega)
        clear hbad
        rcases hk with rfl | rfl
        · rw [HV2.out rfl] at HV
          clear HV2
          go_enter Tryz.func22, Tryz.ntmps22
          go_wp2_with fail
          refine (HU.out _).mono ?_
          rintro e w2 ⟨b2, c2, rfl, hrd, hb2⟩
          have hap := hid (reads_apart ((below_alloc _).trans (hb2.mono (by simp))) hrd)
          obtain ⟨⟨d0, d1, d2⟩, ⟨f0, f1, f2⟩, hfz, hfz2, hgr, hbel⟩ := two_cells hb2
          replace hb2 := hid hb2
          replace hbel := hid hbel
          replace hrd := hid hrd
          go_wp2_with fail
          refine (HV.out b2 c2 _ hrd.out).mono ?_
          rintro e w' ⟨rfl, rfl⟩
          go_wp2
          exact bodyPost_ret (v := .tuple #[.agg #[.int .u64 0, .slice b2 ys.length c2, .slice none 0 0], .int .i64 0]) (by simp [results, Tryz.results22, go_sem, d0, d1, d2]) rfl (gaveP_row rfl (reads_set3 hrd.out hap.out _ _ _) (below_set3 hbel.out _ _ _))
        · clear HV2
          go_enter Tryz.func22, Tryz.ntmps22
          go_wp2_with fail
          refine (HU.out _).mono ?_
          rintro e w2 ⟨b2, c2, rfl, hrd, hb2⟩
          have hap := hid (reads_apart ((below_alloc _).trans (hb2.mono (by simp))) hrd)
          obtain ⟨⟨d0, d1, d2⟩, ⟨f0, f1, f2⟩, hfz, hfz2, hgr, hbel⟩ := two_cells hb2
          replace hb2 := hid hb2
          replace hbel := hid hbel
          replace hrd := hid hrd
          go_wp2
          exact bodyPost_ret (v := .tuple #[.agg #[.int .u64 0, .slice b2 ys.length c2, .slice none 0 0], .int .i64 0]) (by simp [results, Tryz.results22, go_sem, d0, d1, d2]) rfl (gaveP_row rfl (reads_set3 hrd.out hap.out _ _ _) (below_set3 hbel.out _ _ _))

/-- What is told of a whole number. -/
def wholeG (k : Int) (xs : List Int) : GotV := if (pwhole k xs).2 ≠ 0 then .none (pwhole k xs).2 else if khold k (pwhole k xs).1 = false then .none 7 else ⟨(pwhole k xs).1, [], 0, 0⟩
section
variable (k : Int) (xs : List Int)
theorem plain_bad (hm : ¬ (kneg k = true ∧ xs.head? = some 45)) (hd : digs xs = false) : wholeG k xs = .none 11 := by
  have e : pwhole k xs = (0, 11) := by unfold pwhole; rw [if_neg hm, if_pos hd]
  unfold wholeG; rw [e]; rfl
theorem plain_over (hm : ¬ (kneg k = true ∧ xs.head? = some 45)) (hd : digs xs = true) (h : 18446744073709551616 ≤ dval 0 xs) : wholeG k xs = .none 7 := by
  have e : pwhole k xs = (0, 7) := by unfold pwhole; rw [if_neg hm, if_neg (by simp [hd]), if_neg (by split <;> omega)]
  unfold wholeG; rw [e]; rfl
theorem plain_num (hm : ¬ (kneg k = true ∧ xs.head? = some 45)) (hd : digs xs = true) (h : dval 0 xs < 18446744073709551616) : wholeG k xs = if (refNumS k (dval 0 xs)).2 = false then .none 7 else ⟨(refNumS k (dval 0 xs)).1, [], 0, 0⟩ := by
  have hn := dval_nonneg hd
  by_cases hk : kneg k = true
  · by_cases hv : 9223372036854775808 ≤ dval 0 xs
    · have e : pwhole k xs = (0, 7) := by unfold pwhole; rw [if_neg hm, if_neg (by simp [hd]), if_pos hk, if_neg (by omega)]
      have er : refNumS k (dval 0 xs) = (0, false) := by unfold refNumS; rw [if_pos ⟨by simp [hk], hv⟩]
      unfold wholeG; rw [e, er]; rfl
    · have e : pwhole k xs = (dval 0 xs, 0) := by unfold pwhole; rw [if_neg hm, if_neg (by simp [hd]), if_pos hk, if_pos (by omega)]
      have er : refNumS k (dval 0 xs) = (dval 0 xs, khold k (dval 0 xs)) := by unfold refNumS; rw [if_neg (fun h => hv h.2)]
      unfold wholeG; rw [e, er]; rfl
  · have e : pwhole k xs = (dval 0 xs, 0) := by unfold pwhole; rw [if_neg hm, if_neg (by simp [hd]), if_neg hk, if_pos h]
    by_cases h16 : k = 16
    · subst h16
      by_cases hv : 9223372036854775808 ≤ dval 0 xs
      · have er : refNumS 16 (dval 0 xs) = (0, false) := by unfold refNumS; rw [if_pos ⟨by simp, hv⟩]
        have hh : khold 16 (dval 0 xs) = false := by unfold khold; simp; omega
        unfold wholeG; rw [e, er]; simp [hh]
      · have er : refNumS 16 (dval 0 xs) = (dval 0 xs, khold 16 (dval 0 xs)) := by unfold refNumS; rw [if_neg (fun h => hv h.2)]
        unfold wholeG; rw [e, er]; rfl
    · have er : refNumS k (dval 0 xs) = (dval 0 xs, khold k (dval 0 xs)) := by unfold refNumS; rw [if_neg (fun h => by simp [hk, h16] at h)]
      unfold wholeG; rw [e, er]; rfl
theorem minus_bad (hk : kneg k = true) (ds : List Int) (hd : digs ds = false) : wholeG k (45 :: ds) = .none 11 := by
  have e : pwhole k (45 :: ds) = (0, 11) := by unfold pwhole; rw [if_pos ⟨hk, rfl⟩, List.drop_succ_cons, List.drop_zero, if_pos hd]
  unfold wholeG; rw [e]; rfl
theorem minus_over (hk : kneg k = true) (ds : List Int) (hd : digs ds = true) (h : 18446744073709551616 ≤ dval 0 ds) : wholeG k (45 :: ds) = .none 7 := by
  have e : pwhole k (45 :: ds) = (0, 7) := by unfold pwhole; rw [if_pos ⟨hk, rfl⟩, List.drop_succ_cons, List.drop_zero, if_neg (by simp [hd]), if_neg (by omega)]
  unfold wholeG; rw [e]; rfl
theorem minus_num (hk : kneg k = true) (ds : List Int) (hd : digs ds = true) : wholeG k (45 :: ds) = if (refNumM k (dval 0 ds)).2 = false then .none 7 else ⟨(refNumM k (dval 0 ds)).1, [], 0, 0⟩ := by
  by_cases hv : 9223372036854775808 < dval 0 ds
  · have e : pwhole k (45 :: ds) = (0, 7) := by unfold pwhole; rw [if_pos ⟨hk, rfl⟩, List.drop_succ_cons, List.drop_zero, if_neg (by simp [hd]), if_neg (by omega)]
    have er : refNumM k (dval 0 ds) = (0, false) := by unfold refNumM; rw [if_pos hv]
    unfold wholeG; rw [e, er]; rfl
  · have e : pwhole k (45 :: ds) = (uns (-(dval 0 ds)), 0) := by unfold pwhole; rw [if_pos ⟨hk, rfl⟩, List.drop_succ_cons, List.drop_zero, if_neg (by simp [hd]), if_pos (by omega)]
    have er : refNumM k (dval 0 ds) = (uns (-(dval 0 ds)), khold k (uns (-(dval 0 ds)))) := by unfold refNumM; rw [if_neg hv]
    unfold wholeG; rw [e, er]; rfl
end
end Go.Proofs.YtcenkalhklpajaaGreatDoor
namespace Go.Proofs.YtcenkalhklpajaaGreatDoor
open Go.RowKit Go.Sort
set_option maxRecDepth 1000000
set_option linter.unusedVariables false
set_option maxHeartbeats 8000000

section
variable (k : Int) (xs ds : List Int) (w : World)
/-- A minus ahead, of a kind that has it. -/
theorem refPMinus (k1 : 1 ≤ k) (k2 : k ≤ 16) (e1 : (k == 1) = false) (e12 : (k == 12) = false) (e13 : (k == 13) = false) (e14 : (k == 14) = false) (e15 : (k == 15) = false) (hk : kneg k = true) (hx : xs = 45 :: ds) (hb : ∀ x ∈ xs, 0 ≤ x ∧ x ≤ 255) (hl : xs.length ≤ 4194304) :
    Calls Tryz.prog 22 #[.int .i64 k, .string (strOfNums xs)] w fun e w' => GaveP w (wholeG k xs) e w' := by
  have hsz : (strOfNums xs).size = xs.length := strOfNums_size xs
  have hxl : xs.length = ds.length + 1 := by rw [hx]; rfl
  have HBAD : Hid (digs ds = false → wholeG k xs = .none 11) := hid (fun h => by rw [hx]; exact minus_bad k hk ds h)
  have HOVER : Hid (digs ds = true → 18446744073709551616 ≤ dval 0 ds → wholeG k xs = .none 7) := hid (fun h h2 => by rw [hx]; exact minus_over k hk ds h h2)
  have HNUM : Hid (digs ds = true → dval 0 ds < 18446744073709551616 → wholeG k xs = if (refNumM k (dval 0 ds)).2 = false then .none 7 else ⟨(refNumM k (dval 0 ds)).1, [], 0, 0⟩) := hid (fun h _ => by rw [hx]; exact minus_num k hk ds h)
  have HD := hid (fun W => digitsR ds (fun x hxx => hb x (by rw [hx]; simp [hxx])) (by omega) W)
  have hi0 : ∀ W, (Instr.index 9 (.string (strOfNums xs)) (.int .i64 0)).run Tryz.prog W = .ok (.int .u8 45) W := fun W => by
    have h := index_str hb 0 (by omega) .i64 W
    rw [show xs[0]?.getD 0 = 45 by rw [hx]; rfl] at h
    exact h
  have hcut : (strOfNums xs).extract 1 xs.length = strOfNums ds := by rw [str_cut, List.take_of_length_le (Nat.le_refl _), hx]; rfl
  have HSG := hid (fun W => signedR k W)
  rw [hk] at HSG
  have h16 : (k != 16) = true := by
    have : k ≠ 16 := by intro e; subst e; cases hk
    simpa using this
  obtain ⟨yl, hyl⟩ : ∃ yl, xs.length = yl := ⟨_, rfl⟩
  rw [hyl] at hsz hcut hxl hl
  have hy1 : 0 < (yl : Int) := by omega
  clear hx hyl hk hxl hb
  go_enter Tryz.func22, Tryz.ntmps22
  go_wp2_with fail
  refine (HSG.out _).mono ?_
  rintro e w' ⟨rfl, rfl⟩
  go_wp2_with fail
  refine (HD.out _).mono ?_
  rintro e w' ⟨⟨n, ov, rfl, hnb, hv⟩, rfl⟩
  replace hv := hid hv
  cases hd : digs ds with
  | false =>
    have H := hid (HBAD.out hd)
    clear hd hv HBAD HOVER HNUM
    go_wp2
    exact bodyPost_ret (v := .tuple #[.agg #[.int .u64 0, .slice none 0 0, .slice none 0 0], .int .i64 11]) (by simp [results, Tryz.results22, go_sem]) rfl (gaveP_err H.out (below_two _ _))
  | true =>
    obtain ⟨hv1, hv2⟩ := hv.out hd
    cases ov with
    | true =>
      have H := hid (HOVER.out hd (hv1.1 rfl))
      clear hd hv hv1 hv2 HBAD HOVER HNUM
      go_wp2_with fail
      refine (numberOver k n _ _).mono ?_
      rintro e w' ⟨rfl, rfl⟩
      go_wp2
      exact bodyPost_ret (v := .tuple #[.agg #[.int .u64 0, .slice none 0 0, .slice none 0 0], .int .i64 7]) (by simp [results, Tryz.results22, go_sem]) rfl (gaveP_err H.out (below_two _ _))
    | false =>
      have hnd := hv2 rfl
      have hlt : dval 0 ds < 18446744073709551616 := by rw [← hnd]; exact hnb.2
      have H := hid (HNUM.out hd hlt)
      rw [← hnd] at H
      have HQ := hid (fun W => numberMinus k n W hnb.1 hnb.2)
      generalize refNumM k n = r at *
      obtain ⟨r1, r2⟩ := r
      clear hd hv hv1 hv2 hnd hlt HBAD HOVER HNUM
      cases r2 with
      | false =>
        go_wp2_with fail
        refine (HQ.out _).mono ?_
        rintro e w' ⟨rfl, rfl⟩
        go_wp2
        exact bodyPost_ret (v := .tuple #[.agg #[.int .u64 0, .slice none 0 0, .slice none 0 0], .int .i64 7]) (by simp [results, Tryz.results22, go_sem]) rfl (gaveP_err (by rw [H.out]; rfl) (below_two _ _))
      | true =>
        go_wp2_with fail
        refine (HQ.out _).mono ?_
        rintro e w' ⟨rfl, rfl⟩
        go_wp2
        exact bodyPost_ret (v := .tuple #[.agg #[.int .u64 r1, .slice none 0 0, .slice none 0 0], .int .i64 0]) (by simp [results, Tryz.results22, go_sem]) rfl (gaveP_num (nx := 0) (by rw [H.out]; rfl) (below_two _ _))

/-- No minus ahead, or of a kind that has none. -/
theorem refPPlain (k1 : 1 ≤ k) (k2 : k ≤ 16) (e1 : (k == 1) = false) (e12 : (k == 12) = false) (e13 : (k == 13) = false) (e14 : (k == 14) = false) (e15 : (k == 15) = false) (hm : ¬ (kneg k = true ∧ xs.head? = some 45)) (hb : ∀ x ∈ xs, 0 ≤ x ∧ x ≤ 255) (hl : xs.length ≤ 4194304) :
    Calls Tryz.prog 22 #[.int .i64 k, .string (strOfNums xs)] w fun e w' => GaveP w (wholeG k xs) e w' := by
  have hsz : (strOfNums xs).size = xs.length := strOfNums_size xs
  have HBAD : Hid (digs xs = false → wholeG k xs = .none 11) := hid (fun h => plain_bad k xs hm h)
  have HOVER : Hid (digs xs = true → 18446744073709551616 ≤ dval 0 xs → wholeG k xs = .none 7) := hid (fun h h2 => plain_over k xs hm h h2)
  have HNUM : Hid (digs xs = true → dval 0 xs < 18446744073709551616 → wholeG k xs = if (refNumS k (dval 0 xs)).2 = false then .none 7 else ⟨(refNumS k (dval 0 xs)).1, [], 0, 0⟩) := hid (fun h h2 => plain_num k xs hm h h2)
  have HD := hid (fun W => digitsR xs hb (by omega) W)
  have HSG := hid (fun W => signedR k W)
  by_cases h0 : xs.length = 0
  · rw [h0] at hsz
    clear hm hb HSG
    go_enter Tryz.func22, Tryz.ntmps22
    go_wp2_with fail
    refine (HD.out _).mono ?_
    rintro e w' ⟨⟨n, ov, rfl, hnb, hv⟩, rfl⟩
    replace hv := hid hv
    cases hd : digs xs with
    | false =>
      have H := hid (HBAD.out hd)
      clear hd hv HBAD HOVER HNUM
      go_wp2
      exact bodyPost_ret (v := .tuple #[.agg #[.int .u64 0, .slice none 0 0, .slice none 0 0], .int .i64 11]) (by simp [results, Tryz.results22, go_sem]) rfl (gaveP_err H.out (below_two _ _))
    | true =>
      obtain ⟨hv1, hv2⟩ := hv.out hd
      cases ov with
      | true =>
        have H := hid (HOVER.out hd (hv1.1 rfl))
        clear hd hv hv1 hv2 HBAD HOVER HNUM
        go_wp2_with fail
        refine (numberOver k n _ _).mono ?_
        rintro e w' ⟨rfl, rfl⟩
        go_wp2
        exact bodyPost_ret (v := .tuple #[.agg #[.int .u64 0, .slice none 0 0, .slice none 0 0], .int .i64 7]) (by simp [results, Tryz.results22, go_sem]) rfl (gaveP_err H.out (below_two _ _))
      | false =>
        have hnd := hv2 rfl
        have hlt : dval 0 xs < 18446744073709551616 := by rw [← hnd]; exact hnb.2
        have H := hid (HNUM.out hd hlt)
        rw [← hnd] at H
        have HQ := hid (fun W => numberPlain k n W hnb.1 hnb.2)
        generalize refNumS k n = r at *
        obtain ⟨r1, r2⟩ := r
        clear hd hv hv1 hv2 hnd hlt HBAD HOVER HNUM
        cases r2 with
        | false =>
          go_wp2_with fail
          refine (HQ.out _).mono ?_
          rintro e w' ⟨rfl, rfl⟩
          go_wp2
          exact bodyPost_ret (v := .tuple #[.agg #[.int .u64 0, .slice none 0 0, .slice none 0 0], .int .i64 7]) (by simp [results, Tryz.results22, go_sem]) rfl (gaveP_err (by rw [H.out]; rfl) (below_two _ _))
        | true =>
          go_wp2_with fail
          refine (HQ.out _).mono ?_
          rintro e w' ⟨rfl, rfl⟩
          go_wp2
          exact bodyPost_ret (v := .tuple #[.agg #[.int .u64 r1, .slice none 0 0, .slice none 0 0], .int .i64 0]) (by simp [results, Tryz.results22, go_sem]) rfl (gaveP_num (nx := 0) (by rw [H.out]; rfl) (below_two _ _))
  · have hi0 : ∀ W, (Instr.index 9 (.string (strOfNums xs)) (.int .i64 0)).run Tryz.prog W = .ok (.int .u8 (xs[0]?.getD 0)) W := fun W => index_str hb 0 (by omega) .i64 W
    have hhead : xs.head? = some (xs[0]?.getD 0) := by cases xs with
      | nil => simp at h0
      | cons x r => rfl
    obtain ⟨yl, hyl⟩ : ∃ yl, xs.length = yl := ⟨_, rfl⟩
    rw [hyl] at hsz h0 hl
    have hy1 : 0 < (yl : Int) := by omega
    obtain ⟨c0, hc0⟩ : ∃ c0, xs[0]?.getD 0 = c0 := ⟨_, rfl⟩
    rw [hc0] at hi0 hhead
    by_cases h45 : c0 = 45
    · subst h45
      have hkn : kneg k = false := by cases h : kneg k with
        | false => rfl
        | true => exact absurd ⟨h, by rw [hhead]⟩ hm
      rw [hkn] at HSG
      by_cases h16 : k = 16
      · have h16b : (k != 16) = false := by simpa using h16
        have hdd : (false || decide (k = 16)) = true := by simpa using h16
        rw [hdd] at HSG
        clear hm hb hyl hc0 hhead hkn h16 hdd h0
        go_enter Tryz.func22, Tryz.ntmps22
        go_wp2_with fail
        refine (HSG.out _).mono ?_
        rintro e w' ⟨rfl, rfl⟩
        go_wp2_with fail
        refine (HD.out _).mono ?_
        rintro e w' ⟨⟨n, ov, rfl, hnb, hv⟩, rfl⟩
        replace hv := hid hv
        cases hd : digs xs with
        | false =>
          have H := hid (HBAD.out hd)
          clear hd hv HBAD HOVER HNUM
          go_wp2
          exact bodyPost_ret (v := .tuple #[.agg #[.int .u64 0, .slice none 0 0, .slice none 0 0], .int .i64 11]) (by simp [results, Tryz.results22, go_sem]) rfl (gaveP_err H.out (below_two _ _))
        | true =>
          obtain ⟨hv1, hv2⟩ := hv.out hd
          cases ov with
          | true =>
            have H := hid (HOVER.out hd (hv1.1 rfl))
            clear hd hv hv1 hv2 HBAD HOVER HNUM
            go_wp2_with fail
            refine (numberOver k n _ _).mono ?_
            rintro e w' ⟨rfl, rfl⟩
            go_wp2
            exact bodyPost_ret (v := .tuple #[.agg #[.int .u64 0, .slice none 0 0, .slice none 0 0], .int .i64 7]) (by simp [results, Tryz.results22, go_sem]) rfl (gaveP_err H.out (below_two _ _))
          | false =>
            have hnd := hv2 rfl
            have hlt : dval 0 xs < 18446744073709551616 := by rw [← hnd]; exact hnb.2
            have H := hid (HNUM.out hd hlt)
            rw [← hnd] at H
            have HQ := hid (fun W => numberPlain k n W hnb.1 hnb.2)
            generalize refNumS k n = r at *
            obtain ⟨r1, r2⟩ := r
            clear hd hv hv1 hv2 hnd hlt HBAD HOVER HNUM
            cases r2 with
            | false =>
              go_wp2_with fail
              refine (HQ.out _).mono ?_
              rintro e w' ⟨rfl, rfl⟩
              go_wp2
              exact bodyPost_ret (v := .tuple #[.agg #[.int .u64 0, .slice none 0 0, .slice none 0 0], .int .i64 7]) (by simp [results, Tryz.results22, go_sem]) rfl (gaveP_err (by rw [H.out]; rfl) (below_two _ _))
            | true =>
              go_wp2_with fail
              refine (HQ.out _).mono ?_
              rintro e w' ⟨rfl, rfl⟩
              go_wp2
              exact bodyPost_ret (v := .tuple #[.agg #[.int .u64 r1, .slice none 0 0, .slice none 0 0], .int .i64 0]) (by simp [results, Tryz.results22, go_sem]) rfl (gaveP_num (nx := 0) (by rw [H.out]; rfl) (below_two _ _))
      · have hdd : (false || decide (k = 16)) = false := by simpa using h16
        rw [hdd] at HSG
        clear hm hb hyl hc0 hhead hkn h16 hdd h0
        go_enter Tryz.func22, Tryz.ntmps22
        go_wp2_with fail
        refine (HSG.out _).mono ?_
        rintro e w' ⟨rfl, rfl⟩
        go_wp2_with fail
        refine (HD.out _).mono ?_
        rintro e w' ⟨⟨n, ov, rfl, hnb, hv⟩, rfl⟩
        replace hv := hid hv
        cases hd : digs xs with
        | false =>
          have H := hid (HBAD.out hd)
          clear hd hv HBAD HOVER HNUM
          go_wp2
          exact bodyPost_ret (v := .tuple #[.agg #[.int .u64 0, .slice none 0 0, .slice none 0 0], .int .i64 11]) (by simp [results, Tryz.results22, go_sem]) rfl (gaveP_err H.out (below_two _ _))
        | true =>
          obtain ⟨hv1, hv2⟩ := hv.out hd
          cases ov with
          | true =>
            have H := hid (HOVER.out hd (hv1.1 rfl))
            clear hd hv hv1 hv2 HBAD HOVER HNUM
            go_wp2_with fail
            refine (numberOver k n _ _).mono ?_
            rintro e w' ⟨rfl, rfl⟩
            go_wp2
            exact bodyPost_ret (v := .tuple #[.agg #[.int .u64 0, .slice none 0 0, .slice none 0 0], .int .i64 7]) (by simp [results, Tryz.results22, go_sem]) rfl (gaveP_err H.out (below_two _ _))
          | false =>
            have hnd := hv2 rfl
            have hlt : dval 0 xs < 18446744073709551616 := by rw [← hnd]; exact hnb.2
            have H := hid (HNUM.out hd hlt)
            rw [← hnd] at H
            have HQ := hid (fun W => numberPlain k n W hnb.1 hnb.2)
            generalize refNumS k n = r at *
            obtain ⟨r1, r2⟩ := r
            clear hd hv hv1 hv2 hnd hlt HBAD HOVER HNUM
            cases r2 with
            | false =>
              go_wp2_with fail
              refine (HQ.out _).mono ?_
              rintro e w' ⟨rfl, rfl⟩
              go_wp2
              exact bodyPost_ret (v := .tuple #[.agg #[.int .u64 0, .slice none 0 0, .slice none 0 0], .int .i64 7]) (by simp [results, Tryz.results22, go_sem]) rfl (gaveP_err (by rw [H.out]; rfl) (below_two _ _))
            | true =>
              go_wp2_with fail
              refine (HQ.out _).mono ?_
              rintro e w' ⟨rfl, rfl⟩
              go_wp2
              exact bodyPost_ret (v := .tuple #[.agg #[.int .u64 r1, .slice none 0 0, .slice none 0 0], .int .i64 0]) (by simp [results, Tryz.results22, go_sem]) rfl (gaveP_num (nx := 0) (by rw [H.out]; rfl) (below_two _ _))
    · have h45b : (c0 == 45) = false := by simpa using h45
      clear hm hb hyl hc0 hhead h45 h0 HSG
      go_enter Tryz.func22, Tryz.ntmps22
      go_wp2_with fail
      refine (HD.out _).mono ?_
      rintro e w' ⟨⟨n, ov, rfl, hnb, hv⟩, rfl⟩
      replace hv := hid hv
      cases hd : digs xs with
      | false =>
        have H := hid (HBAD.out hd)
        clear hd hv HBAD HOVER HNUM
        go_wp2
        exact bodyPost_ret (v := .tuple #[.agg #[.int .u64 0, .slice none 0 0, .slice none 0 0], .int .i64 11]) (by simp [results, Tryz.results22, go_sem]) rfl (gaveP_err H.out (below_two _ _))
      | true =>
        obtain ⟨hv1, hv2⟩ := hv.out hd
        cases ov with
        | true =>
          have H := hid (HOVER.out hd (hv1.1 rfl))
          clear hd hv hv1 hv2 HBAD HOVER HNUM
          go_wp2_with fail
          refine (numberOver k n _ _).mono ?_
          rintro e w' ⟨rfl, rfl⟩
          go_wp2
          exact bodyPost_ret (v := .tuple #[.agg #[.int .u64 0, .slice none 0 0, .slice none 0 0], .int .i64 7]) (by simp [results, Tryz.results22, go_sem]) rfl (gaveP_err H.out (below_two _ _))
        | false =>
          have hnd := hv2 rfl
          have hlt : dval 0 xs < 18446744073709551616 := by rw [← hnd]; exact hnb.2
          have H := hid (HNUM.out hd hlt)
          rw [← hnd] at H
          have HQ := hid (fun W => numberPlain k n W hnb.1 hnb.2)
          generalize refNumS k n = r at *
          obtain ⟨r1, r2⟩ := r
          clear hd hv hv1 hv2 hnd hlt HBAD HOVER HNUM
          cases r2 with
          | false =>
            go_wp2_with fail
            refine (HQ.out _).mono ?_
            rintro e w' ⟨rfl, rfl⟩
            go_wp2
            exact bodyPost_ret (v := .tuple #[.agg #[.int .u64 0, .slice none 0 0, .slice none 0 0], .int .i64 7]) (by simp [results, Tryz.results22, go_sem]) rfl (gaveP_err (by rw [H.out]; rfl) (below_two _ _))
          | true =>
            go_wp2_with fail
            refine (HQ.out _).mono ?_
            rintro e w' ⟨rfl, rfl⟩
            go_wp2
            exact bodyPost_ret (v := .tuple #[.agg #[.int .u64 r1, .slice none 0 0, .slice none 0 0], .int .i64 0]) (by simp [results, Tryz.results22, go_sem]) rfl (gaveP_num (nx := 0) (by rw [H.out]; rfl) (below_two _ _))
end
theorem kone_whole {k : Int} (hk : kone k = true) : 1 ≤ k ∧ k ≤ 16 := by unfold kone at hk; simpa using hk
theorem p16_lt (xs : List Int) (n : Int) (h : p16 0 xs = some n) : n < 16 ^ xs.length := by have := (p16_nonneg xs 0 (by decide) n h).2; simpa using this
/-- Parse, the document's. -/
theorem parseKR (k : Int) (xs : List Int) (hb : ∀ x ∈ xs, 0 ≤ x ∧ x ≤ 255) (hl : xs.length ≤ 4194304) (w : World) :
    Calls Tryz.prog 22 #[.int .i64 k, .string (strOfNums xs)] w fun e w' => GaveP w (parseV k xs) e w' := by
  unfold parseV
  cases hk : kone k with
  | false => rw [if_pos rfl]; exact refPNo k xs w (by unfold kone at hk; simp at hk; omega)
  | true =>
    have hkk := kone_whole hk
    rw [if_neg (by simp)]
    by_cases h45 : k = 14 ∨ k = 15
    · rw [if_pos h45]; exact refPRow k h45 xs hb hl w
    · rw [if_neg h45]
      by_cases hk1 : k = 1
      · subst hk1
        refine (refPBool xs hb w).mono fun e w' h => gaveP_eq h ?_
        unfold bitsG pnum
        rw [if_pos rfl]
        unfold pbool
        split
        · rfl
        · split <;> rfl
      · by_cases hk12 : k = 12
        · subst hk12
          refine (refPBits 12 102 8 (.inl ⟨rfl, rfl, rfl⟩) xs hb (by omega) w).mono fun e w' h => gaveP_eq h ?_
          have hp : pnum 12 xs = pbits 102 8 xs := rfl
          rw [hp]
          unfold bitsG
          by_cases he : (pbits 102 8 xs).2 ≠ 0
          · rw [if_pos he, if_pos he]
          · rw [if_neg he, if_neg he]
            have hh : khold 12 (pbits 102 8 xs).1 = true := by
              unfold khold
              rw [if_neg (by decide), if_neg (by decide), if_pos (by decide)]
              unfold pbits at he ⊢
              split
              · rename_i hc
                cases hq : p16 0 (xs.drop 1) with
                | none => simp
                | some n =>
                  have := p16_lt _ n hq
                  rw [show (xs.drop 1).length = 8 by simp; omega, show (16 : Int) ^ 8 = 4294967296 by decide] at this
                  simp; omega
              · simp
            rw [if_neg (by simp [hh])]
        · by_cases hk13 : k = 13
          · subst hk13
            refine (refPBits 13 100 16 (.inr ⟨rfl, rfl, rfl⟩) xs hb (by omega) w).mono fun e w' h => gaveP_eq h ?_
            have hp : pnum 13 xs = pbits 100 16 xs := rfl
            rw [hp]
            unfold bitsG
            rw [show khold 13 (pbits 100 16 xs).1 = true from rfl]
            simp
          · have hp : pnum k xs = pwhole k xs := by unfold pnum; rw [if_neg hk1, if_neg hk12, if_neg hk13]
            rw [hp]
            show Calls _ _ _ _ fun e w' => GaveP w (wholeG k xs) e w'
            have f1 : (k == 1) = false := by simpa using hk1
            have f2 : (k == 12) = false := by simpa using hk12
            have f3 : (k == 13) = false := by simpa using hk13
            have f4 : (k == 14) = false := by simp; omega
            have f5 : (k == 15) = false := by simp; omega
            by_cases hm : kneg k = true ∧ xs.head? = some 45
            · obtain ⟨ds, hx⟩ : ∃ ds, xs = 45 :: ds := by
                cases xs with
                | nil => simp at hm
                | cons x r => have := hm.2; simp at this; exact ⟨r, by rw [this]⟩
              exact refPMinus k xs ds w hkk.1 hkk.2 f1 f2 f3 f4 f5 hm.1 hx hb hl
            · exact refPPlain k xs w hkk.1 hkk.2 f1 f2 f3 f4 f5 hm hb hl
end Go.Proofs.YtcenkalhklpajaaGreatDoor
namespace Go.Proofs.YtcenkalhklpajaaGreatDoor
open Go.RowKit Go.Sort
set_option maxRecDepth 1000000
set_option linter.unusedVariables false
set_option maxHeartbeats 8000000

/-- What the library's variables hold. -/
structure Laid (w : World) : Prop where
  tab : Lib.TabIs Tryz.prog w "internal/strconv.uint64pow10" .u64 Lib.pow10Tab
  deb : w.cell? ⟨5, 15, none⟩ = some (.int .u8 4)
  syn : Sentinel w 2
  rng : Sentinel w 3
theorem Laid.kept {w w' : World} (h : Laid w) (hb : Below w.heap.size w w') : Laid w' := ⟨Lib.tabBelow_of_tabIs h.tab w' hb, cell_keptG h.deb w' hb, h.syn.kept hb, h.rng.kept hb⟩

def textS (k n : Int) (xs : List Int) : ByteArray :=
  if k = 1 then (if n = 0 then ⟨#[102, 97, 108, 115, 101]⟩ else ⟨#[116, 114, 117, 101]⟩)
  else if k = 12 then strOfNums (102 :: hexD 8 n) else if k = 13 then strOfNums (100 :: hexD 16 n)
  else if k = 14 ∨ k = 15 then strOfNums (qt xs) else if kneg k = true then ⟨(Lib.itoa (sgn n)).toArray⟩ else ⟨(Lib.decDigits n.toNat).toArray⟩
def textE (k n : Int) (xs : List Int) (lm : Nat) : ByteArray := if flt k n xs lm = 0 then textS k n xs else ⟨#[]⟩
theorem flt_holds {k n : Int} {xs : List Int} {lm : Nat} (h : flt k n xs lm = 0) (h1 : k ≠ 14) (h2 : k ≠ 15) : khold k n = true := by
  have hv := (flt_zero h).2
  unfold vfit at hv
  rw [Bool.and_eq_true, if_neg (by omega), Bool.and_eq_true] at hv
  have := hv.2.2
  unfold nfit at this
  rw [Bool.and_eq_true] at this
  exact this.2
theorem boolTextW (n : Int) (w : World) : Calls Tryz.prog 31 #[.int .u64 n] w fun e w' => e = .returned (.string (if n = 0 then ⟨#[102, 97, 108, 115, 101]⟩ else ⟨#[116, 114, 117, 101]⟩)) ∧ w = w' := by
  by_cases h : n = 0
  · rw [if_pos h]
    have hb : (n == 0) = true := by simpa using h
    clear h
    go_enter Tryz.func31, Tryz.ntmps31
    go_wp2
    go_ret
    exact ⟨rfl, rfl⟩
  · rw [if_neg h]
    have hb : (n == 0) = false := by simpa using h
    clear h
    go_enter Tryz.func31, Tryz.ntmps31
    go_wp2
    go_ret
    exact ⟨rfl, rfl⟩
theorem ret_sE {s t : ByteArray} {a b : Int} (h1 : s = t) (h2 : a = b) : Ending.returned (.tuple #[.string s, .int .i64 a]) = .returned (.tuple #[.string t, .int .i64 b]) := by rw [h1, h2]
theorem fmtU10I (n : Int) (h0 : 0 ≤ n) (h1 : n < 18446744073709551616) (w : World) (htab : Lib.TabIs Tryz.prog w "internal/strconv.uint64pow10" .u64 Lib.pow10Tab) :
    Calls Tryz.prog 36 #[.int .u64 n, .int .i64 10] w fun e w' => e = .returned (.string ⟨(Lib.decDigits n.toNat).toArray⟩) ∧ Below w.heap.size w w' := by
  have := fmtU10P n.toNat (by omega) w htab
  rwa [Int.toNat_of_nonneg h0] at this
section
variable (k n : Int) (a am : Option Addr) (len cap lm cm : Nat) (w : World)
theorem textKW (xs : List Int) (h0 : 0 ≤ n) (h1 : n < 18446744073709551616) (h : Reads w a len cap xs) (hm : lm ≤ 9223372036854775807) (hlen : len ≤ 1048576) (hL : Laid w) :
    Calls Tryz.prog 17 #[.int .i64 k, .agg #[.int .u64 n, .slice a len cap, .slice am lm cm]] w fun e w' => e = .returned (.tuple #[.string (textE k n xs lm), .int .i64 (flt k n xs lm)]) ∧ Below w.heap.size w w' := by
  have HF := hid (fun W (hw : Reads W a len cap xs) => faultW k n a am len cap lm cm W xs h0 h1 hw hm)
  have HR := hid h
  have HL := hid hL
  have HN := hid (fun W => negW k W)
  have hs := sgn_bd h0 h1
  have HW := wrap64_sgn n h0 h1
  clear h hL
  unfold textE
  by_cases hz : flt k n xs lm = 0
  · rw [if_pos hz]
    have hk := kone_cases (flt_zero hz).1
    have HH : Hid (k ≠ 14 → k ≠ 15 → khold k n = true) := hid (flt_holds hz)
    rw [hz] at HF ⊢
    clear hz
    rcases hk with rfl | rfl | rfl | rfl | rfl | rfl | rfl | rfl | rfl | rfl | rfl | rfl | rfl | rfl | rfl | rfl
    next =>
      have HBT := hid (fun W => boolTextW n W)
      obtain ⟨st, hst⟩ : ∃ st, (if n = 0 then (⟨#[102, 97, 108, 115, 101]⟩ : ByteArray) else ⟨#[116, 114, 117, 101]⟩) = st := ⟨_, rfl⟩
      rw [hst] at HBT
      have HST : Hid (st = textS 1 n xs) := hid (by rw [← hst]; rfl)
      clear hst
      go_enter Tryz.func17, Tryz.ntmps17
      go_wp2_with fail
      refine (HF.out _ (reads_kept HR.out (below_alloc _))).mono ?_
      rintro e w2 ⟨rfl, hb2⟩
      obtain ⟨c0, c1, c2⟩ := vcells hb2
      have HB := hid (below_trans (below_alloc _) hb2)
      clear hb2
      go_wp2_with fail
      refine (HBT.out _).mono ?_
      rintro e w' ⟨rfl, rfl⟩
      go_wp2
      go_ret2
      exact ⟨ret_sE HST.out rfl, HB.out⟩
    next =>
      go_enter Tryz.func17, Tryz.ntmps17
      go_wp2_with fail
      refine (HF.out _ (reads_kept HR.out (below_alloc _))).mono ?_
      rintro e w2 ⟨rfl, hb2⟩
      obtain ⟨c0, c1, c2⟩ := vcells hb2
      have HB := hid (below_trans (below_alloc _) hb2)
      clear hb2
      rw [show kneg _ = true from rfl] at HN
      go_wp2_with fail
      refine (HN.out _).mono ?_
      rintro e w' ⟨rfl, rfl⟩
      go_wp2_with fail
      refine (fmtI10P (sgn n) hs.1 hs.2 _ (HL.out.kept HB.out).tab).mono ?_
      rintro e w3 ⟨rfl, hb3⟩
      replace HB := hid (below_trans HB.out hb3)
      clear hb3
      go_wp2
      go_ret2
      exact ⟨ret_sE rfl rfl, HB.out⟩
    next =>
      go_enter Tryz.func17, Tryz.ntmps17
      go_wp2_with fail
      refine (HF.out _ (reads_kept HR.out (below_alloc _))).mono ?_
      rintro e w2 ⟨rfl, hb2⟩
      obtain ⟨c0, c1, c2⟩ := vcells hb2
      have HB := hid (below_trans (below_alloc _) hb2)
      clear hb2
      rw [show kneg _ = true from rfl] at HN
      go_wp2_with fail
      refine (HN.out _).mono ?_
      rintro e w' ⟨rfl, rfl⟩
      go_wp2_with fail
      refine (fmtI10P (sgn n) hs.1 hs.2 _ (HL.out.kept HB.out).tab).mono ?_
      rintro e w3 ⟨rfl, hb3⟩
      replace HB := hid (below_trans HB.out hb3)
      clear hb3
      go_wp2
      go_ret2
      exact ⟨ret_sE rfl rfl, HB.out⟩
    next =>
      go_enter Tryz.func17, Tryz.ntmps17
      go_wp2_with fail
      refine (HF.out _ (reads_kept HR.out (below_alloc _))).mono ?_
      rintro e w2 ⟨rfl, hb2⟩
      obtain ⟨c0, c1, c2⟩ := vcells hb2
      have HB := hid (below_trans (below_alloc _) hb2)
      clear hb2
      rw [show kneg _ = false from rfl] at HN
      go_wp2_with fail
      refine (HN.out _).mono ?_
      rintro e w' ⟨rfl, rfl⟩
      go_wp2_with fail
      refine (fmtU10I n h0 h1 _ (HL.out.kept HB.out).tab).mono ?_
      rintro e w3 ⟨rfl, hb3⟩
      replace HB := hid (below_trans HB.out hb3)
      clear hb3
      go_wp2
      go_ret2
      exact ⟨ret_sE rfl rfl, HB.out⟩
    next =>
      go_enter Tryz.func17, Tryz.ntmps17
      go_wp2_with fail
      refine (HF.out _ (reads_kept HR.out (below_alloc _))).mono ?_
      rintro e w2 ⟨rfl, hb2⟩
      obtain ⟨c0, c1, c2⟩ := vcells hb2
      have HB := hid (below_trans (below_alloc _) hb2)
      clear hb2
      rw [show kneg _ = false from rfl] at HN
      go_wp2_with fail
      refine (HN.out _).mono ?_
      rintro e w' ⟨rfl, rfl⟩
      go_wp2_with fail
      refine (fmtU10I n h0 h1 _ (HL.out.kept HB.out).tab).mono ?_
      rintro e w3 ⟨rfl, hb3⟩
      replace HB := hid (below_trans HB.out hb3)
      clear hb3
      go_wp2
      go_ret2
      exact ⟨ret_sE rfl rfl, HB.out⟩
    next =>
      go_enter Tryz.func17, Tryz.ntmps17
      go_wp2_with fail
      refine (HF.out _ (reads_kept HR.out (below_alloc _))).mono ?_
      rintro e w2 ⟨rfl, hb2⟩
      obtain ⟨c0, c1, c2⟩ := vcells hb2
      have HB := hid (below_trans (below_alloc _) hb2)
      clear hb2
      rw [show kneg _ = true from rfl] at HN
      go_wp2_with fail
      refine (HN.out _).mono ?_
      rintro e w' ⟨rfl, rfl⟩
      go_wp2_with fail
      refine (fmtI10P (sgn n) hs.1 hs.2 _ (HL.out.kept HB.out).tab).mono ?_
      rintro e w3 ⟨rfl, hb3⟩
      replace HB := hid (below_trans HB.out hb3)
      clear hb3
      go_wp2
      go_ret2
      exact ⟨ret_sE rfl rfl, HB.out⟩
    next =>
      go_enter Tryz.func17, Tryz.ntmps17
      go_wp2_with fail
      refine (HF.out _ (reads_kept HR.out (below_alloc _))).mono ?_
      rintro e w2 ⟨rfl, hb2⟩
      obtain ⟨c0, c1, c2⟩ := vcells hb2
      have HB := hid (below_trans (below_alloc _) hb2)
      clear hb2
      rw [show kneg _ = true from rfl] at HN
      go_wp2_with fail
      refine (HN.out _).mono ?_
      rintro e w' ⟨rfl, rfl⟩
      go_wp2_with fail
      refine (fmtI10P (sgn n) hs.1 hs.2 _ (HL.out.kept HB.out).tab).mono ?_
      rintro e w3 ⟨rfl, hb3⟩
      replace HB := hid (below_trans HB.out hb3)
      clear hb3
      go_wp2
      go_ret2
      exact ⟨ret_sE rfl rfl, HB.out⟩
    next =>
      go_enter Tryz.func17, Tryz.ntmps17
      go_wp2_with fail
      refine (HF.out _ (reads_kept HR.out (below_alloc _))).mono ?_
      rintro e w2 ⟨rfl, hb2⟩
      obtain ⟨c0, c1, c2⟩ := vcells hb2
      have HB := hid (below_trans (below_alloc _) hb2)
      clear hb2
      rw [show kneg _ = false from rfl] at HN
      go_wp2_with fail
      refine (HN.out _).mono ?_
      rintro e w' ⟨rfl, rfl⟩
      go_wp2_with fail
      refine (fmtU10I n h0 h1 _ (HL.out.kept HB.out).tab).mono ?_
      rintro e w3 ⟨rfl, hb3⟩
      replace HB := hid (below_trans HB.out hb3)
      clear hb3
      go_wp2
      go_ret2
      exact ⟨ret_sE rfl rfl, HB.out⟩
    next =>
      go_enter Tryz.func17, Tryz.ntmps17
      go_wp2_with fail
      refine (HF.out _ (reads_kept HR.out (below_alloc _))).mono ?_
      rintro e w2 ⟨rfl, hb2⟩
      obtain ⟨c0, c1, c2⟩ := vcells hb2
      have HB := hid (below_trans (below_alloc _) hb2)
      clear hb2
      rw [show kneg _ = false from rfl] at HN
      go_wp2_with fail
      refine (HN.out _).mono ?_
      rintro e w' ⟨rfl, rfl⟩
      go_wp2_with fail
      refine (fmtU10I n h0 h1 _ (HL.out.kept HB.out).tab).mono ?_
      rintro e w3 ⟨rfl, hb3⟩
      replace HB := hid (below_trans HB.out hb3)
      clear hb3
      go_wp2
      go_ret2
      exact ⟨ret_sE rfl rfl, HB.out⟩
    next =>
      go_enter Tryz.func17, Tryz.ntmps17
      go_wp2_with fail
      refine (HF.out _ (reads_kept HR.out (below_alloc _))).mono ?_
      rintro e w2 ⟨rfl, hb2⟩
      obtain ⟨c0, c1, c2⟩ := vcells hb2
      have HB := hid (below_trans (below_alloc _) hb2)
      clear hb2
      rw [show kneg _ = true from rfl] at HN
      go_wp2_with fail
      refine (HN.out _).mono ?_
      rintro e w' ⟨rfl, rfl⟩
      go_wp2_with fail
      refine (fmtI10P (sgn n) hs.1 hs.2 _ (HL.out.kept HB.out).tab).mono ?_
      rintro e w3 ⟨rfl, hb3⟩
      replace HB := hid (below_trans HB.out hb3)
      clear hb3
      go_wp2
      go_ret2
      exact ⟨ret_sE rfl rfl, HB.out⟩
    next =>
      go_enter Tryz.func17, Tryz.ntmps17
      go_wp2_with fail
      refine (HF.out _ (reads_kept HR.out (below_alloc _))).mono ?_
      rintro e w2 ⟨rfl, hb2⟩
      obtain ⟨c0, c1, c2⟩ := vcells hb2
      have HB := hid (below_trans (below_alloc _) hb2)
      clear hb2
      rw [show kneg _ = true from rfl] at HN
      go_wp2_with fail
      refine (HN.out _).mono ?_
      rintro e w' ⟨rfl, rfl⟩
      go_wp2_with fail
      refine (fmtI10P (sgn n) hs.1 hs.2 _ (HL.out.kept HB.out).tab).mono ?_
      rintro e w3 ⟨rfl, hb3⟩
      replace HB := hid (below_trans HB.out hb3)
      clear hb3
      go_wp2
      go_ret2
      exact ⟨ret_sE rfl rfl, HB.out⟩
    next =>
      go_enter Tryz.func17, Tryz.ntmps17
      go_wp2_with fail
      refine (HF.out _ (reads_kept HR.out (below_alloc _))).mono ?_
      rintro e w2 ⟨rfl, hb2⟩
      obtain ⟨c0, c1, c2⟩ := vcells hb2
      have HB := hid (below_trans (below_alloc _) hb2)
      clear hb2
      have hn : n < 16 ^ (7 + 1) := by
        have hh := HH.out (by decide) (by decide)
        have e : (16 : Int) ^ (7 + 1) = 4294967296 := by decide
        rw [e]
        unfold khold at hh; simp at hh; omega
      go_wp2_with fail
      refine (bitsTextW 102 7 (by omega) n h0 hn _ (HL.out.kept HB.out).deb).mono ?_
      rintro e w3 ⟨rfl, hb3⟩
      replace HB := hid (below_trans HB.out hb3)
      clear hb3
      go_wp2
      go_ret2
      exact ⟨ret_sE rfl rfl, HB.out⟩
    next =>
      go_enter Tryz.func17, Tryz.ntmps17
      go_wp2_with fail
      refine (HF.out _ (reads_kept HR.out (below_alloc _))).mono ?_
      rintro e w2 ⟨rfl, hb2⟩
      obtain ⟨c0, c1, c2⟩ := vcells hb2
      have HB := hid (below_trans (below_alloc _) hb2)
      clear hb2
      have hn : n < 16 ^ (15 + 1) := by
        have hh := HH.out (by decide) (by decide)
        have e : (16 : Int) ^ (15 + 1) = 18446744073709551616 := by decide
        rw [e]
        exact h1
      go_wp2_with fail
      refine (bitsTextW 100 15 (by omega) n h0 hn _ (HL.out.kept HB.out).deb).mono ?_
      rintro e w3 ⟨rfl, hb3⟩
      replace HB := hid (below_trans HB.out hb3)
      clear hb3
      go_wp2
      go_ret2
      exact ⟨ret_sE rfl rfl, HB.out⟩
    next =>
      go_enter Tryz.func17, Tryz.ntmps17
      go_wp2_with fail
      refine (HF.out _ (reads_kept HR.out (below_alloc _))).mono ?_
      rintro e w2 ⟨rfl, hb2⟩
      obtain ⟨c0, c1, c2⟩ := vcells hb2
      have HB := hid (below_trans (below_alloc _) hb2)
      clear hb2
      go_wp2_with fail
      refine (quoteW a len cap xs _ (reads_kept HR.out HB.out) hlen).mono ?_
      rintro e w3 ⟨rfl, hb3⟩
      replace HB := hid (below_trans HB.out hb3)
      clear hb3
      go_wp2
      go_ret2
      exact ⟨ret_sE rfl rfl, HB.out⟩
    next =>
      go_enter Tryz.func17, Tryz.ntmps17
      go_wp2_with fail
      refine (HF.out _ (reads_kept HR.out (below_alloc _))).mono ?_
      rintro e w2 ⟨rfl, hb2⟩
      obtain ⟨c0, c1, c2⟩ := vcells hb2
      have HB := hid (below_trans (below_alloc _) hb2)
      clear hb2
      go_wp2_with fail
      refine (quoteW a len cap xs _ (reads_kept HR.out HB.out) hlen).mono ?_
      rintro e w3 ⟨rfl, hb3⟩
      replace HB := hid (below_trans HB.out hb3)
      clear hb3
      go_wp2
      go_ret2
      exact ⟨ret_sE rfl rfl, HB.out⟩
    next =>
      go_enter Tryz.func17, Tryz.ntmps17
      go_wp2_with fail
      refine (HF.out _ (reads_kept HR.out (below_alloc _))).mono ?_
      rintro e w2 ⟨rfl, hb2⟩
      obtain ⟨c0, c1, c2⟩ := vcells hb2
      have HB := hid (below_trans (below_alloc _) hb2)
      clear hb2
      rw [show kneg _ = false from rfl] at HN
      go_wp2_with fail
      refine (HN.out _).mono ?_
      rintro e w' ⟨rfl, rfl⟩
      go_wp2_with fail
      refine (fmtU10I n h0 h1 _ (HL.out.kept HB.out).tab).mono ?_
      rintro e w3 ⟨rfl, hb3⟩
      replace HB := hid (below_trans HB.out hb3)
      clear hb3
      go_wp2
      go_ret2
      exact ⟨ret_sE rfl rfl, HB.out⟩
  · rw [if_neg hz]
    have hne : (flt k n xs lm != 0) = true := by simpa using hz
    clear hz
    generalize flt k n xs lm = er at *
    go_enter Tryz.func17, Tryz.ntmps17
    go_wp2_with fail
    refine (HF.out _ (reads_kept HR.out (below_alloc _))).mono ?_
    rintro e w2 ⟨rfl, hb2⟩
    replace hb2 := hid hb2
    go_wp2
    go_ret2
    exact ⟨rfl, below_trans (below_alloc _) hb2.out⟩
end
end Go.Proofs.YtcenkalhklpajaaGreatDoor
namespace Go.Proofs.YtcenkalhklpajaaGreatDoor
open Go.RowKit Go.Sort
set_option maxRecDepth 1000000
set_option linter.unusedVariables false
set_option maxHeartbeats 8000000

section
variable (k n : Int) (a am : Option Addr) (len cap lm cm : Nat) (w : World)
theorem textKR (xs : List Int) (h0 : 0 ≤ n) (h1 : n < 18446744073709551616) (h : Reads w a len cap xs) (hlen : len ≤ 1048576) (hL : Laid w) (hz : flt k n xs lm = 0) :
    Calls Tryz.prog 23 #[.int .i64 k, .agg #[.int .u64 n, .slice a len cap, .slice am lm cm]] w fun e w' => e = .returned (.string (textS k n xs)) ∧ Below w.heap.size w w' := by
  have HR := hid h
  have HL := hid (hL.kept (below_alloc (w := w) (.cells #[.int .u64 n, .slice a len cap, .slice am lm cm] 33)))
  have HN := hid (fun W => signedR k W)
  have hs := sgn_bd h0 h1
  have HW := wrap64_sgn n h0 h1
  have hk := kone_cases (flt_zero hz).1
  have HH : Hid (k ≠ 14 → k ≠ 15 → khold k n = true) := hid (flt_holds hz)
  clear h hL hz
  rcases hk with rfl | rfl | rfl | rfl | rfl | rfl | rfl | rfl | rfl | rfl | rfl | rfl | rfl | rfl | rfl | rfl
  next =>
    by_cases hn : n = 1
    · have hb : (n == 1) = true := by simpa using hn
      have HT : Hid ((⟨#[116, 114, 117, 101]⟩ : ByteArray) = textS 1 n xs) := hid (by subst hn; rfl)
      clear hn
      go_enter Tryz.func23, Tryz.ntmps23
      go_wp2
      go_ret
      exact ⟨by rw [← HT.out]; rfl, below_alloc _⟩
    · have hb : (n == 1) = false := by simpa using hn
      have hh := HH.out (by decide) (by decide)
      have hn0 : n = 0 := by unfold khold at hh; simp at hh; omega
      have HT : Hid ((⟨#[102, 97, 108, 115, 101]⟩ : ByteArray) = textS 1 n xs) := hid (by subst hn0; rfl)
      clear hn hn0 hh
      go_enter Tryz.func23, Tryz.ntmps23
      go_wp2
      go_ret
      exact ⟨by rw [← HT.out]; rfl, below_alloc _⟩
  next =>
    have HT : Hid ((⟨(Lib.itoa (sgn n)).toArray⟩ : ByteArray) = textS 2 n xs) := hid (rfl)
    rw [show (kneg _ || decide _) = true from rfl] at HN
    go_enter Tryz.func23, Tryz.ntmps23
    go_wp2_with fail
    refine (HN.out _).mono ?_
    rintro e w' ⟨rfl, rfl⟩
    go_wp2_with fail
    refine (fmtI10P (sgn n) hs.1 hs.2 _ HL.out.tab).mono ?_
    rintro e w2 ⟨rfl, hb2⟩
    replace hb2 := hid hb2
    go_wp2
    go_ret
    exact ⟨by rw [← HT.out]; rfl, below_trans (below_alloc _) hb2.out⟩
  next =>
    have HT : Hid ((⟨(Lib.itoa (sgn n)).toArray⟩ : ByteArray) = textS 3 n xs) := hid (rfl)
    rw [show (kneg _ || decide _) = true from rfl] at HN
    go_enter Tryz.func23, Tryz.ntmps23
    go_wp2_with fail
    refine (HN.out _).mono ?_
    rintro e w' ⟨rfl, rfl⟩
    go_wp2_with fail
    refine (fmtI10P (sgn n) hs.1 hs.2 _ HL.out.tab).mono ?_
    rintro e w2 ⟨rfl, hb2⟩
    replace hb2 := hid hb2
    go_wp2
    go_ret
    exact ⟨by rw [← HT.out]; rfl, below_trans (below_alloc _) hb2.out⟩
  next =>
    have HT : Hid ((⟨(Lib.decDigits n.toNat).toArray⟩ : ByteArray) = textS 4 n xs) := hid (rfl)
    rw [show (kneg _ || decide _) = false from rfl] at HN
    go_enter Tryz.func23, Tryz.ntmps23
    go_wp2_with fail
    refine (HN.out _).mono ?_
    rintro e w' ⟨rfl, rfl⟩
    go_wp2_with fail
    refine (fmtU10I n h0 h1 _ HL.out.tab).mono ?_
    rintro e w2 ⟨rfl, hb2⟩
    replace hb2 := hid hb2
    go_wp2
    go_ret
    exact ⟨by rw [← HT.out]; rfl, below_trans (below_alloc _) hb2.out⟩
  next =>
    have HT : Hid ((⟨(Lib.decDigits n.toNat).toArray⟩ : ByteArray) = textS 5 n xs) := hid (rfl)
    rw [show (kneg _ || decide _) = false from rfl] at HN
    go_enter Tryz.func23, Tryz.ntmps23
    go_wp2_with fail
    refine (HN.out _).mono ?_
    rintro e w' ⟨rfl, rfl⟩
    go_wp2_with fail
    refine (fmtU10I n h0 h1 _ HL.out.tab).mono ?_
    rintro e w2 ⟨rfl, hb2⟩
    replace hb2 := hid hb2
    go_wp2
    go_ret
    exact ⟨by rw [← HT.out]; rfl, below_trans (below_alloc _) hb2.out⟩
  next =>
    have HT : Hid ((⟨(Lib.itoa (sgn n)).toArray⟩ : ByteArray) = textS 6 n xs) := hid (rfl)
    rw [show (kneg _ || decide _) = true from rfl] at HN
    go_enter Tryz.func23, Tryz.ntmps23
    go_wp2_with fail
    refine (HN.out _).mono ?_
    rintro e w' ⟨rfl, rfl⟩
    go_wp2_with fail
    refine (fmtI10P (sgn n) hs.1 hs.2 _ HL.out.tab).mono ?_
    rintro e w2 ⟨rfl, hb2⟩
    replace hb2 := hid hb2
    go_wp2
    go_ret
    exact ⟨by rw [← HT.out]; rfl, below_trans (below_alloc _) hb2.out⟩
  next =>
    have HT : Hid ((⟨(Lib.itoa (sgn n)).toArray⟩ : ByteArray) = textS 7 n xs) := hid (rfl)
    rw [show (kneg _ || decide _) = true from rfl] at HN
    go_enter Tryz.func23, Tryz.ntmps23
    go_wp2_with fail
    refine (HN.out _).mono ?_
    rintro e w' ⟨rfl, rfl⟩
    go_wp2_with fail
    refine (fmtI10P (sgn n) hs.1 hs.2 _ HL.out.tab).mono ?_
    rintro e w2 ⟨rfl, hb2⟩
    replace hb2 := hid hb2
    go_wp2
    go_ret
    exact ⟨by rw [← HT.out]; rfl, below_trans (below_alloc _) hb2.out⟩
  next =>
    have HT : Hid ((⟨(Lib.decDigits n.toNat).toArray⟩ : ByteArray) = textS 8 n xs) := hid (rfl)
    rw [show (kneg _ || decide _) = false from rfl] at HN
    go_enter Tryz.func23, Tryz.ntmps23
    go_wp2_with fail
    refine (HN.out _).mono ?_
    rintro e w' ⟨rfl, rfl⟩
    go_wp2_with fail
    refine (fmtU10I n h0 h1 _ HL.out.tab).mono ?_
    rintro e w2 ⟨rfl, hb2⟩
    replace hb2 := hid hb2
    go_wp2
    go_ret
    exact ⟨by rw [← HT.out]; rfl, below_trans (below_alloc _) hb2.out⟩
  next =>
    have HT : Hid ((⟨(Lib.decDigits n.toNat).toArray⟩ : ByteArray) = textS 9 n xs) := hid (rfl)
    rw [show (kneg _ || decide _) = false from rfl] at HN
    go_enter Tryz.func23, Tryz.ntmps23
    go_wp2_with fail
    refine (HN.out _).mono ?_
    rintro e w' ⟨rfl, rfl⟩
    go_wp2_with fail
    refine (fmtU10I n h0 h1 _ HL.out.tab).mono ?_
    rintro e w2 ⟨rfl, hb2⟩
    replace hb2 := hid hb2
    go_wp2
    go_ret
    exact ⟨by rw [← HT.out]; rfl, below_trans (below_alloc _) hb2.out⟩
  next =>
    have HT : Hid ((⟨(Lib.itoa (sgn n)).toArray⟩ : ByteArray) = textS 10 n xs) := hid (rfl)
    rw [show (kneg _ || decide _) = true from rfl] at HN
    go_enter Tryz.func23, Tryz.ntmps23
    go_wp2_with fail
    refine (HN.out _).mono ?_
    rintro e w' ⟨rfl, rfl⟩
    go_wp2_with fail
    refine (fmtI10P (sgn n) hs.1 hs.2 _ HL.out.tab).mono ?_
    rintro e w2 ⟨rfl, hb2⟩
    replace hb2 := hid hb2
    go_wp2
    go_ret
    exact ⟨by rw [← HT.out]; rfl, below_trans (below_alloc _) hb2.out⟩
  next =>
    have HT : Hid ((⟨(Lib.itoa (sgn n)).toArray⟩ : ByteArray) = textS 11 n xs) := hid (rfl)
    rw [show (kneg _ || decide _) = true from rfl] at HN
    go_enter Tryz.func23, Tryz.ntmps23
    go_wp2_with fail
    refine (HN.out _).mono ?_
    rintro e w' ⟨rfl, rfl⟩
    go_wp2_with fail
    refine (fmtI10P (sgn n) hs.1 hs.2 _ HL.out.tab).mono ?_
    rintro e w2 ⟨rfl, hb2⟩
    replace hb2 := hid hb2
    go_wp2
    go_ret
    exact ⟨by rw [← HT.out]; rfl, below_trans (below_alloc _) hb2.out⟩
  next =>
    have z2 : (strOfNums (hexD 8 n)).size = 8 := by rw [strOfNums_size, hexD_len]
    have z3 : (⟨#[102]⟩ : ByteArray) ++ strOfNums (hexD 8 n) = strOfNums (102 :: hexD 8 n) := str_app [102] (hexD 8 n)
    have HT : Hid (strOfNums (102 :: hexD 8 n) = textS 12 n xs) := hid rfl
    go_enter Tryz.func23, Tryz.ntmps23
    go_wp2_with fail
    refine (bitsR n 8 (by omega) h0 h1 _).mono ?_
    rintro e w2 ⟨rfl, hb2⟩
    replace hb2 := hid hb2
    go_wp2
    go_ret
    exact ⟨by rw [← HT.out]; rfl, below_trans (below_alloc _) hb2.out⟩
  next =>
    have z2 : (strOfNums (hexD 16 n)).size = 16 := by rw [strOfNums_size, hexD_len]
    have z3 : (⟨#[100]⟩ : ByteArray) ++ strOfNums (hexD 16 n) = strOfNums (100 :: hexD 16 n) := str_app [100] (hexD 16 n)
    have HT : Hid (strOfNums (100 :: hexD 16 n) = textS 13 n xs) := hid rfl
    go_enter Tryz.func23, Tryz.ntmps23
    go_wp2_with fail
    refine (bitsR n 16 (by omega) h0 h1 _).mono ?_
    rintro e w2 ⟨rfl, hb2⟩
    replace hb2 := hid hb2
    go_wp2
    go_ret
    exact ⟨by rw [← HT.out]; rfl, below_trans (below_alloc _) hb2.out⟩
  next =>
    have HT : Hid (strOfNums (qt xs) = textS 14 n xs) := hid rfl
    go_enter Tryz.func23, Tryz.ntmps23
    go_wp2_with fail
    refine (refQuoteR a len cap xs _ (reads_kept HR.out (below_alloc _)) hlen).mono ?_
    rintro e w2 ⟨rfl, hb2⟩
    replace hb2 := hid hb2
    go_wp2
    go_ret
    exact ⟨by rw [← HT.out]; rfl, below_trans (below_alloc _) hb2.out⟩
  next =>
    have HT : Hid (strOfNums (qt xs) = textS 15 n xs) := hid rfl
    go_enter Tryz.func23, Tryz.ntmps23
    go_wp2_with fail
    refine (refQuoteR a len cap xs _ (reads_kept HR.out (below_alloc _)) hlen).mono ?_
    rintro e w2 ⟨rfl, hb2⟩
    replace hb2 := hid hb2
    go_wp2
    go_ret
    exact ⟨by rw [← HT.out]; rfl, below_trans (below_alloc _) hb2.out⟩
  next =>
    have HT : Hid ((⟨(Lib.itoa (sgn n)).toArray⟩ : ByteArray) = textS 16 n xs) := hid (by
      have hh := HH.out (by decide) (by decide)
      have hn : n ≤ 2147483647 := by unfold khold at hh; simpa using hh
      have e : sgn n = (n.toNat : Int) := by unfold sgn; rw [if_pos (by omega)]; omega
      rw [e, Lib.itoa_nonneg]; rfl)
    rw [show (kneg _ || decide _) = true from rfl] at HN
    go_enter Tryz.func23, Tryz.ntmps23
    go_wp2_with fail
    refine (HN.out _).mono ?_
    rintro e w' ⟨rfl, rfl⟩
    go_wp2_with fail
    refine (fmtI10P (sgn n) hs.1 hs.2 _ HL.out.tab).mono ?_
    rintro e w2 ⟨rfl, hb2⟩
    replace hb2 := hid hb2
    go_wp2
    go_ret
    exact ⟨by rw [← HT.out]; rfl, below_trans (below_alloc _) hb2.out⟩
end
end Go.Proofs.YtcenkalhklpajaaGreatDoor
