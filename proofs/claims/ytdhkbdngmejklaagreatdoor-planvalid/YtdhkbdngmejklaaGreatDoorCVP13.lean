/-
  What the program asks of a block, and what the document asks of it, are one.
  The program's: is a block one? Is a program one? Both ways.
  Rows of steps and of lines, held against one another by the library's Equal.
  Programs, held against one another: where they are the same.
  The document's: are two programs the same?
  Programs, held against one another: both ways.
  A type by its name: both answers.
  The table of the examples.
-/
import Derived.Test.YtdhkbdngmejklaaGreatDoorCVD7
import Derived.Test.YtdhkbdngmejklaaGreatDoorCKO
import Derived.Test.YtdhkbdngmejklaaGreatDoorCTX
namespace Go.Proofs.YtdhkbdngmejklaaGreatDoor
open Go.RowKit
set_option maxRecDepth 1000000
set_option linter.unusedVariables false
set_option linter.unusedSimpArgs false
set_option maxHeartbeats 1000000
theorem rd_iff (bs : List BV) {n i : Nat} (hi : i < n) (s : IN) (h1 : s.op = 1 ↔ i = 0) : rdI bs (ahI n i) s = true ↔ RoP bs n i s := by
  unfold rdI RoP ahI
  by_cases h2 : s.op = 2
  · rw [if_pos h2]
    simp only [Bool.and_eq_true, decide_eq_true_eq]
    constructor
    · rintro ⟨a, b⟩
      exact ⟨by omega, by omega, a, by omega, by omega, by omega⟩
    · rintro ⟨a, b, c, d, e, f⟩
      exact ⟨c, by omega⟩
  rw [if_neg h2]
  by_cases h3 : s.op = 3
  · rw [if_pos h3]
    simp only [Bool.and_eq_true, decide_eq_true_eq]
    constructor
    · rintro ⟨a, b⟩
      exact ⟨by omega, by omega, a, by omega, by omega, by omega⟩
    · rintro ⟨a, b, c, d, e, f⟩
      exact ⟨c, by omega⟩
  rw [if_neg h3]
  by_cases h4 : s.op = 4
  · rw [if_pos h4]
    simp only [Bool.and_eq_true, Bool.or_eq_true, decide_eq_true_eq]
    constructor
    · rintro ⟨a, b⟩
      exact ⟨by omega, by omega, a, by omega, by omega, by omega⟩
    · rintro ⟨a, b, c, d, e, f⟩
      exact ⟨c, by omega⟩
  rw [if_neg h4]
  simp only [Bool.and_eq_true, decide_eq_true_eq]
  constructor
  · rintro ⟨a, b⟩
    exact ⟨by omega, by omega, b, by omega, by omega, by omega⟩
  · rintro ⟨a, b, c, d, e, f⟩
    exact ⟨a, c⟩
theorem wr_iff (bs : List BV) {n i : Nat} (hi : i < n) (s : IN) (h1 : s.op = 24 ↔ i + 1 = n) : wrI' bs (ahI n i) s = true ↔ WoP bs n i s := by
  unfold wrI' WoP ahI
  by_cases h2 : s.op = 16
  · rw [if_pos h2]
    simp only [Bool.and_eq_true, decide_eq_true_eq]
    constructor
    · rintro ⟨a, b⟩
      exact ⟨by omega, by omega, a, by omega⟩
    · rintro ⟨a, b, c, d⟩
      exact ⟨c, by omega⟩
  rw [if_neg h2]
  simp only [Bool.and_eq_true, decide_eq_true_eq]
  constructor
  · rintro ⟨a, b⟩
    exact ⟨by omega, by omega, b, by omega⟩
  · rintro ⟨a, b, c, d⟩
    exact ⟨a, c⟩
theorem lj_ex (l : List IN) : ∀ j, j ≤ l.length → ∃ p, LJ l j p := by
  intro j
  induction j with
  | zero => exact fun _ => ⟨0, .inl ⟨rfl, fun i h hi => by omega⟩⟩
  | succ j ih =>
    intro hj
    obtain ⟨p, hp⟩ := ih (by omega)
    by_cases h : l[j].op = 3
    · exact ⟨j, LJ.yes (by omega) h⟩
    · exact ⟨p, hp.no (by omega) h⟩
theorem enc_iff (bs : List BV) (l : List IN) : EcP bs l ↔ EnP bs l := by
  constructor
  · rintro ⟨h1, h2⟩
    exact ⟨h2, fun h => (h1 _ h).1.2 (by omega), fun i h => (wr_iff bs h _ (h1 i h).1).1 (h1 i h).2⟩
  · rintro ⟨h0, hl, ha⟩
    refine ⟨fun i h => ?_, h0⟩
    have e : l[i].op = 24 ↔ i + 1 = l.length := by
      constructor
      · intro q
        have := (ha i h).2.1
        omega
      · intro q
        have e2 : i = l.length - 1 := by omega
        subst e2
        exact hl _
    exact ⟨e, (wr_iff bs h _ e).2 (ha i h)⟩
theorem jm_iff {l : List IN} {p : Nat} (h : LJ l l.length p) (h0 : ∀ h : 0 < l.length, l[0].op = 1) : 0 < p ↔ JmP l l.length := by
  rcases h with ⟨e, h⟩ | ⟨hp, h1, h2, h3⟩
  · constructor
    · intro q
      omega
    · rintro ⟨i, hi, hj, hk⟩
      exact absurd hk (h i hi hj)
  · constructor
    · intro q
      exact ⟨p, hp, h1, h2⟩
    · rintro ⟨i, hi, hj, hk⟩
      rcases Nat.eq_zero_or_pos p with e | e
      · subst e
        have := h0 hp
        omega
      · exact e
theorem rw_iff {l : List IN} {p : Nat} (h : LJ l l.length p) (r : LN) : tgN l.length p r = true ↔ RwP l r := by
  unfold tgN RwP
  simp only [Bool.and_eq_true, decide_eq_true_eq]
  constructor
  · rintro ⟨a, b, c⟩
    exact ⟨a, fun p' h' => by rw [h'.uniq h]; exact b, c⟩
  · rintro ⟨a, b, c⟩
    exact ⟨a, b p h, c⟩
theorem dec_iff (bs : List BV) (K : BK) : (DcP bs K.dec ∧ TgP K.dec K.rows) ↔ DeP bs K := by
  constructor
  · rintro ⟨⟨h1, h2, h3⟩, p, g1, g2, g3⟩
    have h0 : ∀ h : 0 < K.dec.length, K.dec[0].op = 1 := fun h => (h1 0 h).1.2 rfl
    exact ⟨by omega, fun _ => h3, h0, fun i h => (rd_iff bs h _ (h1 i h).1).1 (h1 i h).2, (jm_iff g1 h0).symm.trans g2, fun r hr => (rw_iff g1 r).1 (g3 r hr)⟩
  · intro h
    obtain ⟨p, hp⟩ := lj_ex K.dec K.dec.length (Nat.le_refl _)
    refine ⟨⟨fun i hi => ?_, by have := h.pos; omega, h.last _⟩, p, hp, (jm_iff hp h.first).trans h.jump, fun r hr => (rw_iff hp r).2 (h.rows r hr)⟩
    have e : K.dec[i].op = 1 ↔ i = 0 := by
      constructor
      · intro q
        have := (h.all i hi).2.1
        omega
      · intro q
        subst q
        exact h.first hi
    exact ⟨e, (rd_iff bs hi _ e).2 (h.all i hi)⟩
theorem em_iff (K : BK) : (decide (0 < K.rows.length ∧ K.rows.length ≤ 128) && !K.rows.any (fun x => !syI x)) = true ↔ EmP K := by
  simp only [Bool.and_eq_true, decide_eq_true_eq, Bool.not_eq_true', List.any_eq_false]
  constructor
  · rintro ⟨a, b⟩
    refine ⟨by omega, fun r hr => ?_⟩
    have := b r hr
    simp only [Bool.not_eq_true', syI, decide_eq_false_iff_not, Decidable.not_not] at this
    omega
  · rintro ⟨a, b⟩
    refine ⟨by omega, fun r hr => ?_⟩
    have := b r hr
    simp only [Bool.not_eq_true', syI, decide_eq_false_iff_not, Decidable.not_not]
    omega
set_option maxHeartbeats 4000000
theorem isValidB (w : World) (bs : List BV) (ba : Option Addr) (bc : Nat) (hp : PgR w (.slice ba bs.length bc) bs) (hz : ∀ x ∈ bs, x.k.dec.length ≤ 140737488355328 ∧ x.k.enc.length ≤ 140737488355328) (x : BV) (hx : x.k.dec.length ≤ 140737488355328 ∧ x.k.enc.length ≤ 140737488355328) (hI : IB x) (da ea ra : Option Addr) (dc ec rc : Nat) (hk : BkR w x.k (.slice da x.k.dec.length dc) (.slice ea x.k.enc.length ec) (.slice ra x.k.rows.length rc)) : Calls Tryz.prog 15 #[.slice ba bs.length bc, .agg #[.slice da x.k.dec.length dc, .slice ea x.k.enc.length ec, .slice ra x.k.rows.length rc]] w (EqA w (VlP bs x)) := by
  have HRI := hid (fun W hW => doRiseB W x.k.rows ra rc (hk.hr.kept (w' := W) hW))
  have HAS := hid (fun W hW => areSymbolsB W x.k.rows ra rc (hk.hr.kept (w' := W) hW))
  have HD := hid (fun W hW => isDecB W bs ba bc (hp.kept hW) hz x.k.dec da dc (hk.hd.kept (w' := W) hW) hx.1 hI.dec)
  have HE := hid (fun W hW => isEncB W bs ba bc (hp.kept hW) hz x.k.enc ea ec (hk.he.kept (w' := W) hW) hx.2 hI.enc)
  have HTA := hid (fun W hW => areTargetsB W x.k.rows ra rc x.k.dec da dc (hk.hr.kept (w' := W) hW) (hk.hd.kept (w' := W) hW) hx.1)
  have HHS := hid (fun W => hasStepsP W da ea ra x.k.dec.length dc x.k.enc.length ec x.k.rows.length rc hx.1 hx.2)
  have HNS : Hid (decide (0 < x.k.dec.length + x.k.enc.length) = !noS x) := hid (by
    unfold noS
    by_cases h1 : x.k.dec.length = 0 <;> by_cases h2 : x.k.enc.length = 0
    · rw [decide_eq_false (by omega), decide_eq_true h1, decide_eq_true h2]; rfl
    · rw [decide_eq_true (by omega), decide_eq_false h2]; simp
    · rw [decide_eq_true (by omega), decide_eq_false h1]; simp
    · rw [decide_eq_true (by omega), decide_eq_false h1]; simp)
  rw [HNS.out] at HHS
  have HV : Hid (VlP bs x ↔ (RsP x.k.rows ∧ (if noS x = true then EmP x.k else DeP bs x.k ∧ EnP bs x.k.enc))) := hid Iff.rfl
  have HEM := hid (em_iff x.k)
  have HDI := hid (dec_iff bs x.k)
  have HEI := hid (enc_iff bs x.k.enc)
  generalize (decide (0 < x.k.rows.length ∧ x.k.rows.length ≤ 128) && !x.k.rows.any (fun x => !syI x)) = em at *
  clear hk hI hp hz hx HNS
  generalize x.k.dec.length = n1 at *
  generalize x.k.enc.length = n2 at *
  generalize x.k.rows.length = n3 at *
  go_enter Tryz.func15, Tryz.ntmps15
  go_wp2_with fail
  refine (HRI.out _ (by exact blBy)).mono ?_
  rintro e w1 ⟨r, rfl, hr, hb1⟩
  have Bb : Blk w1 w.heap.size 31 #[.slice da n1 dc, .slice ea n2 ec, .slice ra n3 rc] := (Blk.new _ _ _).kept hb1
  replace hb1 : Hid (Below w.heap.size w w1) := hid (bl_then (by exact blBy) hb1)
  have xb := Bb.cellF
  have zb := Bb.lt
  cases r with
  | false =>
    have HF : Hid (¬ VlP bs x) := hid (fun h => by have := hr.2 (HV.out.1 h).1; cases this)
    clear hr HV HEM HDI HEI HRI HAS HD HE HTA HHS
    go_wp2
    go_ret
    exact EqA.no HF.out hb1.out
  | true =>
  have HRS := hid (hr.1 rfl)
  clear hr HRI
  go_wp2_with fail
  refine (HHS.out _).mono ?_
  rintro e w2 ⟨rfl, hb2⟩
  replace Bb := Bb.kept hb2
  replace hb1 : Hid (Below w.heap.size w w2) := hid (bl_then hb1.out hb2)
  clear xb zb HHS hb2
  have xb := Bb.cellF
  have zb := Bb.lt
  cases hns : noS x with
  | true =>
    rw [hns] at HV
    replace HV : Hid (VlP bs x ↔ em = true) := hid (by
      rw [HV.out, HEM.out]
      simp only [if_true]
      exact ⟨fun h => h.2, fun h => ⟨HRS.out, h⟩⟩)
    clear hns HRS HEM HDI HEI HD HE HTA
    go_wp2_with fail
    refine (HAS.out _ hb1.out).mono ?_
    rintro e w3 ⟨rfl, hb3⟩
    replace hb3 := hid (bl_then hb1.out hb3)
    go_wp2
    go_ret
    exact ⟨em, rfl, HV.out.symm, hb3.out⟩
  | false =>
    rw [hns] at HV
    replace HV : Hid (VlP bs x ↔ (DcP bs x.k.dec ∧ EcP bs x.k.enc ∧ TgP x.k.dec x.k.rows)) := hid (by
      rw [HV.out, ← HDI.out, ← HEI.out]
      simp only [Bool.false_eq_true, if_false]
      exact ⟨fun h => ⟨h.2.1.1, h.2.2, h.2.1.2⟩, fun h => ⟨HRS.out, ⟨h.1, h.2.2⟩, h.2.1⟩⟩)
    clear hns HRS HEM HDI HEI HAS
    generalize DcP bs x.k.dec = P1 at *
    generalize EcP bs x.k.enc = P2 at *
    generalize TgP x.k.dec x.k.rows = P3 at *
    go_wp2_with fail
    refine (HD.out _ hb1.out).mono ?_
    rintro e w3 ⟨r, rfl, hr, hb3⟩
    replace Bb := Bb.kept hb3
    replace hb1 : Hid (Below w.heap.size w w3) := hid (bl_then hb1.out hb3)
    clear xb zb hb3 HD
    have xb := Bb.cellF
    have zb := Bb.lt
    cases r with
    | false =>
      have HF : Hid (¬ VlP bs x) := hid (fun h => by have := hr.2 (HV.out.1 h).1; cases this)
      clear hr HV HE HTA
      go_wp2
      go_ret
      exact EqA.no HF.out hb1.out
    | true =>
    have H1 := hid (hr.1 rfl)
    clear hr
    go_wp2_with fail
    refine (HE.out _ hb1.out).mono ?_
    rintro e w4 ⟨r, rfl, hr, hb3⟩
    replace Bb := Bb.kept hb3
    replace hb1 : Hid (Below w.heap.size w w4) := hid (bl_then hb1.out hb3)
    clear xb zb hb3 HE
    have xb := Bb.cellF
    have zb := Bb.lt
    cases r with
    | false =>
      have HF : Hid (¬ VlP bs x) := hid (fun h => by have := hr.2 (HV.out.1 h).2.1; cases this)
      clear hr HV HTA
      go_wp2
      go_ret
      exact EqA.no HF.out hb1.out
    | true =>
    have H2 := hid (hr.1 rfl)
    clear hr
    go_wp2_with fail
    refine (HTA.out _ hb1.out).mono ?_
    rintro e w5 ⟨r, rfl, hr, hb3⟩
    replace hb1 : Hid (Below w.heap.size w w5) := hid (bl_then hb1.out hb3)
    have HR : Hid (r = true ↔ VlP bs x) := hid (by
      rw [HV.out, hr]
      exact ⟨fun h => ⟨H1.out, H2.out, h⟩, fun h => h.2.2⟩)
    clear hr HV hb3
    go_wp2
    go_ret
    exact ⟨r, rfl, HR.out, hb1.out⟩
theorem valid1B (w : World) (bs : List BV) (ba : Option Addr) (bc p : Nat) (hp : PgR w (.slice ba bs.length bc) bs) (hz : ∀ x ∈ bs, x.k.dec.length ≤ 140737488355328 ∧ x.k.enc.length ≤ 140737488355328) (hB : Blk w p 41 #[.slice ba bs.length bc]) (x : BV) (hx : x.k.dec.length ≤ 140737488355328 ∧ x.k.enc.length ≤ 140737488355328) (hI : IB x) (da ea ra : Option Addr) (dc ec rc : Nat) (hk : BkR w x.k (.slice da x.k.dec.length dc) (.slice ea x.k.enc.length ec) (.slice ra x.k.rows.length rc)) : Calls Tryz.prog 14 #[.agg #[.slice da x.k.dec.length dc, .slice ea x.k.enc.length ec, .slice ra x.k.rows.length rc], .pointer (some ⟨p, 0, none⟩)] w (EqA w (¬ VlP bs x)) := by
  have HC := hid (fun W hW => isValidB W bs ba bc (hp.kept hW) hz x hx hI da ea ra dc ec rc (hk.kept (w' := W) hW))
  have xp := hB.cellF
  have zp := hB.lt
  clear hp hk hz hI hx
  generalize VlP bs x = P at *
  generalize x.k.dec.length = n1 at *
  generalize x.k.enc.length = n2 at *
  generalize x.k.rows.length = n3 at *
  go_enter Tryz.func14, Tryz.ntmps14
  go_wp2_with fail
  refine (HC.out _ (by exact blBy)).mono ?_
  rintro e w1 ⟨r, rfl, hr, hb1⟩
  replace hb1 : Hid (Below w.heap.size w w1) := hid (bl_then (by exact blBy) hb1)
  cases r with
  | false =>
    have HF : Hid (¬ P) := hid (fun h => by have := hr.2 h; cases this)
    clear hr
    go_wp2
    go_ret
    exact EqA.yes HF.out hb1.out
  | true =>
    have HF : Hid (¬ ¬ P) := hid (fun h => h (hr.1 rfl))
    clear hr
    go_wp2
    go_ret
    exact EqA.no HF.out hb1.out
def IxB (w : World) (P : Prop) (e : Ending) (w' : World) : Prop := Below w.heap.size w w' ∧ ((e = .returned (.int .i64 (-1)) ∧ ¬ P) ∨ ∃ j : Nat, e = .returned (.int .i64 (j : Int)) ∧ P)
theorem idxBlockB (w : World) (l : List BV) (la : Option Addr) (lc : Nat) (hl : PgR w (.slice la l.length lc) l) (fn : FuncId) (caps : Array Value) (P : BV → Prop) (hcf : ∀ (args : Array Value) (W : World), (callFunc fn args).run Tryz.prog W = .ok (.enter fn args) W) (hc : ∀ (j : Nat) (hj : j < l.length) W, Below w.heap.size w W → ∀ da ea ra dc ec rc, BkR W l[j].k (.slice da l[j].k.dec.length dc) (.slice ea l[j].k.enc.length ec) (.slice ra l[j].k.rows.length rc) → Calls Tryz.prog fn (#[.agg #[.slice da l[j].k.dec.length dc, .slice ea l[j].k.enc.length ec, .slice ra l[j].k.rows.length rc]] ++ caps) W (EqA W (P l[j]))) : Calls Tryz.prog 24 #[.slice la l.length lc, .func (.func fn) #[] caps] w (IxB w (∃ x ∈ l, P x)) := by
  obtain ⟨_, _, e, hn⟩ := rowS_sl hl.row
  clear e
  have n63 : (l.length : Int) ≤ 9223372036854775807 := by omega
  have HR := hid hl
  have HC := hid hc
  clear hl hc
  go_enter Tryz.func24, Tryz.ntmps24
  go_wp2
  go_loopw [8] (fun r wr => ∃ j : Nat, r = .int .i64 j ∧ j ≤ l.length ∧ Hid (∀ i (h : i < l.length), i < j → ¬ P l[i]) ∧ Hid (Below w.heap.size w wr)) (fun r wr => l.length - numAt wr r)
  case atStart => exact ⟨0, rfl, by omega, hid (fun i h hi => by omega), hid (Below.refl _ _)⟩
  case round =>
    obtain ⟨j, rfl, hj, HS, hb⟩ := hrel
    by_cases hlt : j < l.length
    · have h2 : (j : Int) < (l.length : Int) := by omega
      obtain ⟨pb, po, da, dc, ea, ec, ra, rc, epb, hpb, c0, c1, c2, hbk⟩ := pg_at (HR.out.kept hb.out) hlt
      subst epb
      have HCJ := hid (HC.out j hlt wr hb.out da ea ra dc ec rc hbk)
      have HNX : Hid (¬ P l[j] → ∀ i (h : i < l.length), i < j + 1 → ¬ P l[i]) := hid (fun ht i h hi => by
        by_cases e : i = j
        · subst e; exact ht
        · exact HS.out i h (by omega))
      have HNO : Hid (P l[j] → ∃ x ∈ l, P x) := hid (fun ht => ⟨_, List.getElem_mem hlt, ht⟩)
      clear hbk HS
      generalize l[j] = x at *
      generalize P x = Q at *
      go_wp2_with fail
      refine HCJ.out.mono ?_
      rintro e w1 ⟨r, rfl, hr, hb1⟩
      have HB1 := hid (bl_then hb.out hb1)
      cases r with
      | false =>
        have HS2 := hid (HNX.out (fun h => by have := hr.2 h; cases this))
        clear HNX HNO hr
        go_wp2
        exact ⟨⟨j + 1, by simp, by omega, HS2, HB1⟩, by simp [numAt]; omega⟩
      | true =>
        have HF := hid (HNO.out (hr.1 rfl))
        clear HNX HNO hr
        go_wp2
        go_ret
        exact ⟨HB1.out, .inr ⟨j, rfl, HF.out⟩⟩
    · have h2 : ¬ (j : Int) < (l.length : Int) := by omega
      have HE : Hid (¬ ∃ x ∈ l, P x) := hid (by
        rintro ⟨x, hx, hp⟩
        obtain ⟨i, hi, rfl⟩ := List.getElem_of_mem hx
        exact HS.out i hi (by omega) hp)
      clear HS
      go_wp2
      go_ret
      exact ⟨hb.out, .inl ⟨rfl, HE.out⟩⟩
theorem conBlockB (w : World) (l : List BV) (la : Option Addr) (lc : Nat) (hl : PgR w (.slice la l.length lc) l) (fn : FuncId) (caps : Array Value) (P : BV → Prop) (hcf : ∀ (args : Array Value) (W : World), (callFunc fn args).run Tryz.prog W = .ok (.enter fn args) W) (hc : ∀ (j : Nat) (hj : j < l.length) W, Below w.heap.size w W → ∀ da ea ra dc ec rc, BkR W l[j].k (.slice da l[j].k.dec.length dc) (.slice ea l[j].k.enc.length ec) (.slice ra l[j].k.rows.length rc) → Calls Tryz.prog fn (#[.agg #[.slice da l[j].k.dec.length dc, .slice ea l[j].k.enc.length ec, .slice ra l[j].k.rows.length rc]] ++ caps) W (EqA W (P l[j]))) : Calls Tryz.prog 13 #[.slice la l.length lc, .func (.func fn) #[] caps] w (EqA w (∃ x ∈ l, P x)) := by
  have HI := hid (idxBlockB w l la lc hl fn caps P hcf hc)
  clear hl hc
  generalize (∃ x ∈ l, P x) = Q at *
  go_enter Tryz.func13, Tryz.ntmps13
  go_wp2_with fail
  refine HI.out.mono ?_
  rintro e w1 ⟨hb1, ⟨rfl, hq⟩ | ⟨j, rfl, hq⟩⟩
  · go_wp2
    go_ret
    exact EqA.no hq hb1
  · have k0 : ((0 : Int) ≤ (j : Int)) = True := eq_true (by omega)
    go_wp2
    go_ret
    exact EqA.yes hq hb1
theorem validB (w : World) (bs : List BV) (ba : Option Addr) (bc : Nat) (hp : PgR w (.slice ba bs.length bc) bs) (hz : ∀ x ∈ bs, x.k.dec.length ≤ 140737488355328 ∧ x.k.enc.length ≤ 140737488355328) (hI : ∀ x ∈ bs, IB x) : Calls Tryz.prog 5 #[.agg #[.slice ba bs.length bc]] w (EqA w (VdP bs)) := by
  obtain ⟨_, _, e, hn⟩ := rowS_sl hp.row
  clear e
  have n63 : (bs.length : Int) ≤ 9223372036854775807 := by omega
  have HC : Hid (∀ W p, Below w.heap.size w W → Blk W p 41 #[.slice ba bs.length bc] → Calls Tryz.prog 13 #[.slice ba bs.length bc, .func (.func 14) #[] #[.pointer (some ⟨p, 0, none⟩)]] W (EqA W (∃ x ∈ bs, ¬ VlP bs x))) := hid fun W p hW hB => conBlockB W bs ba bc (hp.kept hW) _ _ (fun x => ¬ VlP bs x) cfValid (fun j hj W' hW' da ea ra dc ec rc hbk => valid1B W' bs ba bc p ((hp.kept hW).kept hW') hz (hB.kept hW') _ (hz _ (List.getElem_mem hj)) (hI _ (List.getElem_mem hj)) da ea ra dc ec rc hbk)
  clear hp hz hI hn
  by_cases h128 : bs.length ≤ 128
  · have r1 : ((128 : Int) < (bs.length : Int)) = False := eq_false (by omega)
    have r2 : (128 < bs.length) = False := eq_false (by omega)
    have HV : Hid (VdP bs ↔ ¬ ∃ x ∈ bs, ¬ VlP bs x) := hid ⟨fun h ⟨x, hx, hn⟩ => hn (h.2 x hx), fun h => ⟨h128, fun x hx => Classical.byContradiction fun hn => h ⟨x, hx, hn⟩⟩⟩
    replace h128 := hid h128
    generalize (∃ x ∈ bs, ¬ VlP bs x) = Q at *
    go_enter Tryz.func5, Tryz.ntmps5
    go_wp2_with fail
    refine (HC.out _ _ (by exact blBy) (Blk.newAt (by simp))).mono ?_
    rintro e w1 ⟨r, rfl, hr, hb1⟩
    replace hb1 : Hid (Below w.heap.size w w1) := hid (bl_then (by exact blBy) hb1)
    cases r with
    | false =>
      have HE : Hid (VdP bs) := hid (HV.out.2 (fun h => by have := hr.2 h; cases this))
      clear hr HV
      go_wp2
      go_ret
      exact EqA.yes HE.out hb1.out
    | true =>
      have HF : Hid (¬ VdP bs) := hid (fun h => HV.out.1 h (hr.1 rfl))
      clear hr HV
      go_wp2
      go_ret
      exact EqA.no HF.out hb1.out
  · have r1 : ((128 : Int) < (bs.length : Int)) = True := eq_true (by omega)
    have r2 : (128 < bs.length) = True := eq_true (by omega)
    have HF : Hid (¬ VdP bs) := hid (fun h => h128 h.1)
    clear HC h128
    go_enter Tryz.func5, Tryz.ntmps5
    go_wp2
    go_ret
    exact EqA.no HF.out (by exact blBy)
set_option maxHeartbeats 1000000
theorem eqInsT (w : World) (A B : List IN) (aa ba : Option Addr) (ac bc : Nat) (hA : RowS w AnyZ 5 (.slice aa A.length ac) A.length (A.flatMap cIN)) (hB : RowS w AnyZ 5 (.slice ba B.length bc) B.length (B.flatMap cIN)) : Calls Tryz.prog 33 #[.slice aa A.length ac, .slice ba B.length bc] w (EqA w (A = B)) := by
  have HA := hid hA
  have HB := hid hB
  obtain ⟨_, _, e, hn1⟩ := rowS_sl hA
  clear e
  obtain ⟨_, _, e, hm1⟩ := rowS_sl hB
  clear e
  clear hA hB
  by_cases h1 : A.length = B.length
  case neg =>
    have q1 : ((A.length : Int) != (B.length : Int)) = true := by simp; omega
    have q2 : ((A.length : Int) == (B.length : Int)) = false := by rw [beq_eq_false_iff_ne]; omega
    go_enter Tryz.func33, Tryz.ntmps33
    go_wp2
    go_ret
    exact EqA.no (fun q => absurd (by rw [q]) h1) (by first | exact Below.refl _ _ | exact blBy)
  replace HB : Hid (RowS w AnyZ 5 (.slice ba A.length bc) B.length (B.flatMap cIN)) := hid (by rw [h1]; exact HB.out)
  rw [← h1]
  have z1 : (A.length : Int) ≤ 9223372036854775807 := by omega
  have q1 : ((A.length : Int) != (A.length : Int)) = false := by simp
  clear hn1 hm1
  replace h1 := hid h1
  go_enter Tryz.func33, Tryz.ntmps33
  go_wp2
  go_loopw [13] (fun r wr => ∃ j : Nat, r = .int .i64 j ∧ j ≤ A.length ∧ Hid (A.take j = B.take j) ∧ Hid (Below w.heap.size w wr)) (fun r wr => A.length - numAt wr r)
  case atStart => exact ⟨0, rfl, by omega, hid (by simp), hid (Below.refl _ _)⟩
  case round =>
    obtain ⟨j, rfl, hj, HT, hb⟩ := hrel
    by_cases hlt : j < A.length
    · have k1 : (j : Int) < (A.length : Int) := by omega
      have hlt2 : j < B.length := by have := h1.out; omega
      have HTS : Hid (A.take (j + 1) = A.take j ++ [A[j]] ∧ B.take (j + 1) = B.take j ++ [B[j]]) := hid ⟨List.take_succ_eq_append_getElem hlt, List.take_succ_eq_append_getElem hlt2⟩
      have HNE : Hid (A[j] ≠ B[j] → A ≠ B) := hid (fun q e => q (by subst e; rfl))
      obtain ⟨pb, po, epb, hc⟩ := rowAt (g := cIN) (fun _ => rfl) (HA.out.kept hb.out) (i := j) (x := A[j]) (by simp [hlt])
      obtain ⟨qb, qo, eqb, hd⟩ := rowAt (g := cIN) (fun _ => rfl) (HB.out.kept hb.out) (i := j) (x := B[j]) (by simp [hlt2])
      subst epb eqb
      have c0 := hc 0 _ rfl
      have d0 := hd 0 _ rfl
      have c1 := hc 1 _ rfl
      have d1 := hd 1 _ rfl
      have c2 := hc 2 _ rfl
      have d2 := hd 2 _ rfl
      have c3 := hc 3 _ rfl
      have d3 := hd 3 _ rfl
      have c4 := hc 4 _ rfl
      have d4 := hd 4 _ rfl
      clear hc hd
      simp only [Nat.add_zero] at c0 d0
      have hpb : pb < wr.heap.size := World.block_lt_of_cell? _ _ c0
      have hqb : qb < wr.heap.size := World.block_lt_of_cell? _ _ d0
      generalize A[j] = x at *
      generalize B[j] = y at *
      have hgd := gdIN
      have heq := fun W => eqIN x y W
      cases hq : inB x y with
      | false =>
        rw [hq] at heq
        have HF := hid (HNE.out (fun e => by rw [(inB_iff x y).2 e] at hq; cases hq))
        clear HNE HTS hq
        go_wp2
        go_quiet (fail)
        go_wp2
        go_ret
        exact EqA.no HF.out (by have := hb.out; first | exact this | exact bl_drewN this _ | exact blBy)
      | true =>
        rw [hq] at heq
        have exy := hid ((inB_iff x y).1 hq)
        clear HNE hq
        go_wp2
        go_quiet (fail)
        go_wp2
        exact ⟨⟨j + 1, by simp, by omega, hid (by rw [HTS.out.1, HTS.out.2, HT.out, exy.out]), hid (bl_drewN hb.out _)⟩, by simp [numAt]; omega⟩
    · have k1 : ¬ (j : Int) < (A.length : Int) := by omega
      have E : Hid (A = B) := hid (by have := HT.out; rwa [List.take_of_length_le (by omega), List.take_of_length_le (by have := h1.out; omega)] at this)
      go_wp2
      go_ret
      exact EqA.yes E.out hb.out
theorem eqLinT (w : World) (A B : List LN) (aa ba : Option Addr) (ac bc : Nat) (hA : RowS w AnyZ 2 (.slice aa A.length ac) A.length (A.flatMap cLN)) (hB : RowS w AnyZ 2 (.slice ba B.length bc) B.length (B.flatMap cLN)) : Calls Tryz.prog 34 #[.slice aa A.length ac, .slice ba B.length bc] w (EqA w (A = B)) := by
  have HA := hid hA
  have HB := hid hB
  obtain ⟨_, _, e, hn1⟩ := rowS_sl hA
  clear e
  obtain ⟨_, _, e, hm1⟩ := rowS_sl hB
  clear e
  clear hA hB
  by_cases h1 : A.length = B.length
  case neg =>
    have q1 : ((A.length : Int) != (B.length : Int)) = true := by simp; omega
    have q2 : ((A.length : Int) == (B.length : Int)) = false := by rw [beq_eq_false_iff_ne]; omega
    go_enter Tryz.func34, Tryz.ntmps34
    go_wp2
    go_ret
    exact EqA.no (fun q => absurd (by rw [q]) h1) (by first | exact Below.refl _ _ | exact blBy)
  replace HB : Hid (RowS w AnyZ 2 (.slice ba A.length bc) B.length (B.flatMap cLN)) := hid (by rw [h1]; exact HB.out)
  rw [← h1]
  have z1 : (A.length : Int) ≤ 9223372036854775807 := by omega
  have q1 : ((A.length : Int) != (A.length : Int)) = false := by simp
  clear hn1 hm1
  replace h1 := hid h1
  go_enter Tryz.func34, Tryz.ntmps34
  go_wp2
  go_loopw [13] (fun r wr => ∃ j : Nat, r = .int .i64 j ∧ j ≤ A.length ∧ Hid (A.take j = B.take j) ∧ Hid (Below w.heap.size w wr)) (fun r wr => A.length - numAt wr r)
  case atStart => exact ⟨0, rfl, by omega, hid (by simp), hid (Below.refl _ _)⟩
  case round =>
    obtain ⟨j, rfl, hj, HT, hb⟩ := hrel
    by_cases hlt : j < A.length
    · have k1 : (j : Int) < (A.length : Int) := by omega
      have hlt2 : j < B.length := by have := h1.out; omega
      have HTS : Hid (A.take (j + 1) = A.take j ++ [A[j]] ∧ B.take (j + 1) = B.take j ++ [B[j]]) := hid ⟨List.take_succ_eq_append_getElem hlt, List.take_succ_eq_append_getElem hlt2⟩
      have HNE : Hid (A[j] ≠ B[j] → A ≠ B) := hid (fun q e => q (by subst e; rfl))
      obtain ⟨pb, po, epb, hc⟩ := rowAt (g := cLN) (fun _ => rfl) (HA.out.kept hb.out) (i := j) (x := A[j]) (by simp [hlt])
      obtain ⟨qb, qo, eqb, hd⟩ := rowAt (g := cLN) (fun _ => rfl) (HB.out.kept hb.out) (i := j) (x := B[j]) (by simp [hlt2])
      subst epb eqb
      have c0 := hc 0 _ rfl
      have d0 := hd 0 _ rfl
      have c1 := hc 1 _ rfl
      have d1 := hd 1 _ rfl
      clear hc hd
      simp only [Nat.add_zero] at c0 d0
      have hpb : pb < wr.heap.size := World.block_lt_of_cell? _ _ c0
      have hqb : qb < wr.heap.size := World.block_lt_of_cell? _ _ d0
      generalize A[j] = x at *
      generalize B[j] = y at *
      have hgd := gdLN
      have heq := fun W => eqLN x y W
      cases hq : lnB x y with
      | false =>
        rw [hq] at heq
        have HF := hid (HNE.out (fun e => by rw [(lnB_iff x y).2 e] at hq; cases hq))
        clear HNE HTS hq
        go_wp2
        go_quiet (fail)
        go_wp2
        go_ret
        exact EqA.no HF.out (by have := hb.out; first | exact this | exact bl_drewN this _ | exact blBy)
      | true =>
        rw [hq] at heq
        have exy := hid ((lnB_iff x y).1 hq)
        clear HNE hq
        go_wp2
        go_quiet (fail)
        go_wp2
        exact ⟨⟨j + 1, by simp, by omega, hid (by rw [HTS.out.1, HTS.out.2, HT.out, exy.out]), hid (bl_drewN hb.out _)⟩, by simp [numAt]; omega⟩
    · have k1 : ¬ (j : Int) < (A.length : Int) := by omega
      have E : Hid (A = B) := hid (by have := HT.out; rwa [List.take_of_length_le (by omega), List.take_of_length_le (by have := h1.out; omega)] at this)
      go_wp2
      go_ret
      exact EqA.yes E.out hb.out
theorem cfSame (args : Array Value) (W : World) : (callFunc 21 args).run Tryz.prog W = .ok (.enter 21 args) W := cf_enter Tryz.func21 (by kernel_rfl) (by kernel_rfl) args W
theorem map_take_eq {xs ys : List BV} {j : Nat} (h1 : j < xs.length) (h2 : j < ys.length) : (xs.take (j + 1)).map BV.k = (ys.take (j + 1)).map BV.k ↔ ((xs.take j).map BV.k = (ys.take j).map BV.k ∧ xs[j].k = ys[j].k) := by
  rw [List.take_succ_eq_append_getElem h1, List.take_succ_eq_append_getElem h2, List.map_append, List.map_append]
  constructor
  · intro h
    have := List.append_inj h (by simp; omega)
    exact ⟨this.1, by simpa using this.2⟩
  · rintro ⟨h, g⟩
    rw [h]
    simp [g]
theorem map_ne_at {xs ys : List BV} {j : Nat} (h1 : j < xs.length) (h2 : j < ys.length) (h : xs[j].k ≠ ys[j].k) : xs.map BV.k ≠ ys.map BV.k := fun e => h (by
  have := congrArg (fun l => l[j]?) e
  simpa [h1, h2] using this)
theorem sameD (w : World) (xs ys : List BV) (xa ya : Option Addr) (xc yc : Nat) (hx : PgR w (.slice xa xs.length xc) xs) (hy : PgR w (.slice ya ys.length yc) ys) : Calls Tryz.prog 8 #[.agg #[.slice xa xs.length xc], .agg #[.slice ya ys.length yc]] w (EqA w (xs.map BV.k = ys.map BV.k)) := by
  obtain ⟨_, _, e, hn1⟩ := rowS_sl hx.row
  clear e
  obtain ⟨_, _, e, hn2⟩ := rowS_sl hy.row
  clear e
  have h631 : (xs.length : Int) ≤ 9223372036854775807 := by omega
  have h632 : (ys.length : Int) ≤ 9223372036854775807 := by omega
  have HX := hid hx
  have HY := hid hy
  clear hx hy
  by_cases hne : xs.length = ys.length
  case neg =>
    have q1 : ((xs.length : Int) != (ys.length : Int)) = true := by simp; omega
    have HF : Hid (¬ xs.map BV.k = ys.map BV.k) := hid fun e => hne (by simpa using congrArg List.length e)
    clear hne
    go_enter Tryz.func8, Tryz.ntmps8
    go_wp2
    go_ret
    exact EqA.no HF.out (by exact blBy)
  have q1 : ((xs.length : Int) != (ys.length : Int)) = false := by simp; omega
  replace hne := hid hne
  generalize en : xs.length = n at *
  generalize em : ys.length = m at *
  replace en := hid en
  replace em := hid em
  go_enter Tryz.func8, Tryz.ntmps8
  go_wp2
  have BX : Hid (Blk ((w.alloc (.cells #[.slice xa n xc] 24)).alloc (.cells #[.slice ya m yc] 24)) w.heap.size 24 #[.slice xa n xc]) := hid ((Blk.new _ _ _).kept (below_alloc _))
  have BY : Hid (Blk ((w.alloc (.cells #[.slice xa n xc] 24)).alloc (.cells #[.slice ya m yc] 24)) (w.heap.size + 1) 24 #[.slice ya m yc]) := hid (Blk.newAt (by simp))
  have HB : Hid (Below w.heap.size w ((w.alloc (.cells #[.slice xa n xc] 24)).alloc (.cells #[.slice ya m yc] 24))) := hid (by exact blBy)
  generalize (w.alloc (.cells #[.slice xa n xc] 24)).alloc (.cells #[.slice ya m yc] 24) = W at *
  replace HX := hid (HX.out.kept HB.out)
  replace HY := hid (HY.out.kept HB.out)
  go_loopw [5] (fun r wr => ∃ j : Nat, r = .int .i64 j ∧ j ≤ n ∧ Hid ((xs.take j).map BV.k = (ys.take j).map BV.k) ∧ Hid (Below W.heap.size W wr)) (fun r wr => n - numAt wr r)
  case atStart => exact ⟨0, rfl, by omega, hid (by simp), hid (Below.refl _ _)⟩
  case round =>
    obtain ⟨j, rfl, hj, HS, hb⟩ := hrel
    have e0 := (BX.out.kept hb.out).cell 0 _ rfl
    have e1 := (BY.out.kept hb.out).cell 0 _ rfl
    simp only [List.getElem_toArray, List.getElem_cons_succ, List.getElem_cons_zero] at e0 e1
    have z0 := (BX.out.kept hb.out).lt
    have z1 := (BY.out.kept hb.out).lt
    by_cases hlt : j < n
    · have j1 : (j : Int) < (n : Int) := by omega
      have j2 : (j : Int) < (m : Int) := by have := hne.out; omega
      have hx1 : j < xs.length := by have := en.out; omega
      have hy1 : j < ys.length := by have := em.out; have := hne.out; omega
      have HR := HX.out.row.kept hb.out
      have HQ := HY.out.row.kept hb.out
      obtain ⟨pb, po, epb, hc⟩ := rowAt (g := cBV) (fun _ => rfl) HR (i := j) (x := xs[j]) (by simp [hx1])
      obtain ⟨rb, ro, erb, hd⟩ := rowAt (g := cBV) (fun _ => rfl) HQ (i := j) (x := ys[j]) (by simp [hy1])
      clear HR HQ
      cases epb
      cases erb
      have c0 := hc 0 _ rfl
      have c1 := hc 1 _ rfl
      have c2 := hc 2 _ rfl
      have d0 := hd 0 _ rfl
      have d1 := hd 1 _ rfl
      have d2 := hd 2 _ rfl
      clear hc hd
      simp only [Nat.add_zero] at c0 d0
      have HST := hid (fun h => (map_take_eq hx1 hy1).2 ⟨HS.out, h⟩)
      have HNE := hid (map_ne_at hx1 hy1)
      have HEX := hid (HX.out.el _ (List.getElem_mem hx1))
      have HEY := hid (HY.out.el _ (List.getElem_mem hy1))
      generalize xs[j] = X at *
      generalize ys[j] = Y at *
      obtain ⟨A, xd, xe, xr⟩ := X
      obtain ⟨B, yd, ye, yr⟩ := Y
      dsimp only at c0 c1 c2 d0 d1 d2 HEX HEY HST HNE
      obtain ⟨a1, k1, rfl, -⟩ := rowS_sl HEX.out.hd
      obtain ⟨a2, k2, rfl, -⟩ := rowS_sl HEX.out.he
      obtain ⟨a3, k3, rfl, -⟩ := rowS_sl HEX.out.hr
      obtain ⟨b1, l1, rfl, -⟩ := rowS_sl HEY.out.hd
      obtain ⟨b2, l2, rfl, -⟩ := rowS_sl HEY.out.he
      obtain ⟨b3, l3, rfl, -⟩ := rowS_sl HEY.out.hr
      have HC : Hid (∀ V, Below W.heap.size W V → Calls Tryz.prog 11 #[.agg #[.slice a1 A.dec.length k1, .slice a2 A.enc.length k2, .slice a3 A.rows.length k3], .agg #[.slice b1 B.dec.length l1, .slice b2 B.enc.length l2, .slice b3 B.rows.length l3]] V (EqA V (A = B))) := hid fun V hV => sameBlockD V A B a1 a2 a3 b1 b2 b3 k1 k2 k3 l1 l2 l3 (HEX.out.kept hV) (HEY.out.kept hV)
      clear HEX HEY HX HY BX BY
      generalize A.dec.length = n1 at *
      generalize A.enc.length = n2 at *
      generalize A.rows.length = n3 at *
      generalize B.dec.length = m1 at *
      generalize B.enc.length = m2 at *
      generalize B.rows.length = m3 at *
      have hpb : pb < wr.heap.size := World.block_lt_of_cell? _ _ c0
      have hrb : rb < wr.heap.size := World.block_lt_of_cell? _ _ d0
      go_upto_region 6 with fail
      go_region_held3 (fun V => V.cell? ⟨w.heap.size, 0, none⟩ = some (.slice (some ⟨pb, po, none⟩) n xc) ∧ V.cell? ⟨w.heap.size + 1, 0, none⟩ = some (.slice (some ⟨rb, ro, none⟩) m yc) ∧ V.cell? ⟨pb, po + j * 3, none⟩ = some (.slice a1 n1 k1) ∧ V.cell? ⟨pb, po + j * 3 + 1, none⟩ = some (.slice a2 n2 k2) ∧ V.cell? ⟨pb, po + j * 3 + 2, none⟩ = some (.slice a3 n3 k3) ∧ V.cell? ⟨rb, ro + j * 3, none⟩ = some (.slice b1 m1 l1) ∧ V.cell? ⟨rb, ro + j * 3 + 1, none⟩ = some (.slice b2 m2 l2) ∧ V.cell? ⟨rb, ro + j * 3 + 2, none⟩ = some (.slice b3 m3 l3)) (first | exact ⟨e0, e1, c0, c1, c2, d0, d1, d2⟩) (first | (go_at_call 11; refine (HC.out _ (by have := hb.out; exact blBy)).mono ?_; rintro e w4 ⟨r, rfl, hr, hbx⟩; replace e0 := cell_below e0 (below_trans (by first | exact Below.refl _ _ | exact below_drew1 _ | exact below_drewN _ _) hbx); replace e1 := cell_below e1 (below_trans (by first | exact Below.refl _ _ | exact below_drew1 _ | exact below_drewN _ _) hbx); replace c0 := cell_below c0 (below_trans (by first | exact Below.refl _ _ | exact below_drew1 _ | exact below_drewN _ _) hbx); replace c1 := cell_below c1 (below_trans (by first | exact Below.refl _ _ | exact below_drew1 _ | exact below_drewN _ _) hbx); replace c2 := cell_below c2 (below_trans (by first | exact Below.refl _ _ | exact below_drew1 _ | exact below_drewN _ _) hbx); replace d0 := cell_below d0 (below_trans (by first | exact Below.refl _ _ | exact below_drew1 _ | exact below_drewN _ _) hbx); replace d1 := cell_below d1 (below_trans (by first | exact Below.refl _ _ | exact below_drew1 _ | exact below_drewN _ _) hbx); replace d2 := cell_below d2 (below_trans (by first | exact Below.refl _ _ | exact below_drew1 _ | exact below_drewN _ _) hbx); replace hb := hid (below_trans hb.out (below_trans (by first | exact Below.refl _ _ | exact below_drew1 _ | exact below_drewN _ _) hbx)); clear hbx))
      all_goals
        cases r with
        | true =>
          have hAB : A = B := hr.1 rfl
          have HS2 := hid (HST.out hAB)
          clear hAB hr HST HNE HC
          go_wp2
          exact ⟨⟨j + 1, by simp, by omega, HS2, hb⟩, by simp [numAt]; omega⟩
        | false =>
          have HF := hid (HNE.out (fun e => by have := hr.2 e; cases this))
          clear hr HST HNE HC
          go_wp2
          go_ret
          exact EqA.no HF.out (bl_then HB.out hb.out)
    · have j1 : ¬ (j : Int) < (n : Int) := by omega
      have HE : Hid (xs.map BV.k = ys.map BV.k) := hid (by
        have h := HS.out
        rw [List.take_of_length_le (by have := en.out; omega), List.take_of_length_le (by have := em.out; have := hne.out; omega)] at h
        exact h)
      go_wp2
      go_ret
      exact EqA.yes HE.out (bl_then HB.out hb.out)
set_option maxHeartbeats 4000000
theorem exB (P : Prop) : ∃ r : Bool, (r = true ↔ P) := by
  by_cases h : P
  · exact ⟨true, ⟨fun _ => h, fun _ => rfl⟩⟩
  · exact ⟨false, ⟨fun q => (by cases q), fun q => absurd q h⟩⟩
theorem EqA.is {w w' : World} {P : Prop} {e : Ending} {r : Bool} (hr : r = true ↔ P) (h : EqA w P e w') : e = .returned (.bool r) ∧ Below w.heap.size w w' := by
  obtain ⟨q, rfl, hq, hb⟩ := h
  obtain rfl : q = r := by rw [Bool.eq_iff_iff]; exact hq.trans hr.symm
  exact ⟨rfl, hb⟩
theorem areSameB (w : World) (A B : BK) (a1 a2 a3 b1 b2 b3 : Option Addr) (k1 k2 k3 l1 l2 l3 : Nat) (hA : BkR w A (.slice a1 A.dec.length k1) (.slice a2 A.enc.length k2) (.slice a3 A.rows.length k3)) (hB : BkR w B (.slice b1 B.dec.length l1) (.slice b2 B.enc.length l2) (.slice b3 B.rows.length l3)) : Calls Tryz.prog 21 #[.agg #[.slice a1 A.dec.length k1, .slice a2 A.enc.length k2, .slice a3 A.rows.length k3], .agg #[.slice b1 B.dec.length l1, .slice b2 B.enc.length l2, .slice b3 B.rows.length l3]] w (EqA w (A = B)) := by
  obtain ⟨r1, hr1⟩ := exB (A.dec = B.dec)
  obtain ⟨r2, hr2⟩ := exB (A.enc = B.enc)
  obtain ⟨r3, hr3⟩ := exB (A.rows = B.rows)
  have HC1 : Hid (∀ V, Below w.heap.size w V → Calls Tryz.prog 33 #[.slice a1 A.dec.length k1, .slice b1 B.dec.length l1] V fun e w' => e = .returned (.bool r1) ∧ Below V.heap.size V w') := hid fun V hV => (eqInsT V A.dec B.dec a1 b1 k1 l1 (hA.hd.kept hV) (hB.hd.kept hV)).mono fun e w' h => h.is hr1
  have HC2 : Hid (∀ V, Below w.heap.size w V → Calls Tryz.prog 33 #[.slice a2 A.enc.length k2, .slice b2 B.enc.length l2] V fun e w' => e = .returned (.bool r2) ∧ Below V.heap.size V w') := hid fun V hV => (eqInsT V A.enc B.enc a2 b2 k2 l2 (hA.he.kept hV) (hB.he.kept hV)).mono fun e w' h => h.is hr2
  have HC3 : Hid (∀ V, Below w.heap.size w V → Calls Tryz.prog 34 #[.slice a3 A.rows.length k3, .slice b3 B.rows.length l3] V fun e w' => e = .returned (.bool r3) ∧ Below V.heap.size V w') := hid fun V hV => (eqLinT V A.rows B.rows a3 b3 k3 l3 (hA.hr.kept hV) (hB.hr.kept hV)).mono fun e w' h => h.is hr3
  have HQ : Hid ((r1 && r2 && r3) = true ↔ A = B) := hid (by
    simp only [Bool.and_eq_true, hr1, hr2, hr3]
    exact ⟨fun h => bk_eq h.1.1 h.1.2 h.2, fun h => by subst h; exact ⟨⟨rfl, rfl⟩, rfl⟩⟩)
  clear hA hB hr1 hr2 hr3
  generalize (A = B) = Q at *
  generalize A.dec.length = n1 at *
  generalize A.enc.length = n2 at *
  generalize A.rows.length = n3 at *
  generalize B.dec.length = m1 at *
  generalize B.enc.length = m2 at *
  generalize B.rows.length = m3 at *
  go_enter Tryz.func21, Tryz.ntmps21
  go_wp2_with fail
  have Ba : Blk ((w.alloc (.cells #[.slice a1 n1 k1, .slice a2 n2 k2, .slice a3 n3 k3] 31)).alloc (.cells #[.slice b1 m1 l1, .slice b2 m2 l2, .slice b3 m3 l3] 31)) w.heap.size 31 #[.slice a1 n1 k1, .slice a2 n2 k2, .slice a3 n3 k3] := (Blk.new _ _ _).kept (below_alloc _)
  have Bb : Blk ((w.alloc (.cells #[.slice a1 n1 k1, .slice a2 n2 k2, .slice a3 n3 k3] 31)).alloc (.cells #[.slice b1 m1 l1, .slice b2 m2 l2, .slice b3 m3 l3] 31)) (w.heap.size + 1) 31 #[.slice b1 m1 l1, .slice b2 m2 l2, .slice b3 m3 l3] := Blk.newAt (by simp)
  have HB : Hid (Below w.heap.size w ((w.alloc (.cells #[.slice a1 n1 k1, .slice a2 n2 k2, .slice a3 n3 k3] 31)).alloc (.cells #[.slice b1 m1 l1, .slice b2 m2 l2, .slice b3 m3 l3] 31))) := hid (by exact blBy)
  generalize ((w.alloc (.cells #[.slice a1 n1 k1, .slice a2 n2 k2, .slice a3 n3 k3] 31)).alloc (.cells #[.slice b1 m1 l1, .slice b2 m2 l2, .slice b3 m3 l3] 31)) = V at *
  have e0 := Ba.cell 0 _ rfl
  have e1 := Ba.cell 1 _ rfl
  have e2 := Ba.cell 2 _ rfl
  have e3 := Bb.cell 0 _ rfl
  have e4 := Bb.cell 1 _ rfl
  have e5 := Bb.cell 2 _ rfl
  simp only [List.getElem_toArray, List.getElem_cons_succ, List.getElem_cons_zero] at e0 e1 e2 e3 e4 e5
  clear Ba Bb
  cases r1 with
  | false =>
    have HF : Hid (¬ Q) := hid (fun h => by have := HQ.out.2 h; cases this)
    clear HQ HC2 HC3
    go_wp2_with (first | (go_at_call_of 33 (Value.slice a1 n1 k1); refine (HC1.out _ (below_trans HB.out (by first | exact Below.refl _ _ | exact below_drew1 _ | exact below_drewN _ _))).mono ?_; rintro e w4 ⟨rfl, hbx⟩; replace e0 := cell_below e0 (below_trans (by first | exact Below.refl _ _ | exact below_drew1 _ | exact below_drewN _ _) hbx); replace e1 := cell_below e1 (below_trans (by first | exact Below.refl _ _ | exact below_drew1 _ | exact below_drewN _ _) hbx); replace e2 := cell_below e2 (below_trans (by first | exact Below.refl _ _ | exact below_drew1 _ | exact below_drewN _ _) hbx); replace e3 := cell_below e3 (below_trans (by first | exact Below.refl _ _ | exact below_drew1 _ | exact below_drewN _ _) hbx); replace e4 := cell_below e4 (below_trans (by first | exact Below.refl _ _ | exact below_drew1 _ | exact below_drewN _ _) hbx); replace e5 := cell_below e5 (below_trans (by first | exact Below.refl _ _ | exact below_drew1 _ | exact below_drewN _ _) hbx); replace HB := hid (below_trans HB.out (below_trans (by first | exact Below.refl _ _ | exact below_drew1 _ | exact below_drewN _ _) hbx)); clear hbx))
    go_ret
    exact EqA.no HF.out HB.out
  | true =>
  cases r2 with
  | false =>
    have HF : Hid (¬ Q) := hid (fun h => by have := HQ.out.2 h; cases this)
    clear HQ HC3
    go_wp2_with (first | (go_at_call_of 33 (Value.slice a1 n1 k1); refine (HC1.out _ (below_trans HB.out (by first | exact Below.refl _ _ | exact below_drew1 _ | exact below_drewN _ _))).mono ?_; rintro e w4 ⟨rfl, hbx⟩; replace e0 := cell_below e0 (below_trans (by first | exact Below.refl _ _ | exact below_drew1 _ | exact below_drewN _ _) hbx); replace e1 := cell_below e1 (below_trans (by first | exact Below.refl _ _ | exact below_drew1 _ | exact below_drewN _ _) hbx); replace e2 := cell_below e2 (below_trans (by first | exact Below.refl _ _ | exact below_drew1 _ | exact below_drewN _ _) hbx); replace e3 := cell_below e3 (below_trans (by first | exact Below.refl _ _ | exact below_drew1 _ | exact below_drewN _ _) hbx); replace e4 := cell_below e4 (below_trans (by first | exact Below.refl _ _ | exact below_drew1 _ | exact below_drewN _ _) hbx); replace e5 := cell_below e5 (below_trans (by first | exact Below.refl _ _ | exact below_drew1 _ | exact below_drewN _ _) hbx); replace HB := hid (below_trans HB.out (below_trans (by first | exact Below.refl _ _ | exact below_drew1 _ | exact below_drewN _ _) hbx)); clear hbx) | (go_at_call_of 33 (Value.slice a2 n2 k2); refine (HC2.out _ (below_trans HB.out (by first | exact Below.refl _ _ | exact below_drew1 _ | exact below_drewN _ _))).mono ?_; rintro e w4 ⟨rfl, hbx⟩; replace e0 := cell_below e0 (below_trans (by first | exact Below.refl _ _ | exact below_drew1 _ | exact below_drewN _ _) hbx); replace e1 := cell_below e1 (below_trans (by first | exact Below.refl _ _ | exact below_drew1 _ | exact below_drewN _ _) hbx); replace e2 := cell_below e2 (below_trans (by first | exact Below.refl _ _ | exact below_drew1 _ | exact below_drewN _ _) hbx); replace e3 := cell_below e3 (below_trans (by first | exact Below.refl _ _ | exact below_drew1 _ | exact below_drewN _ _) hbx); replace e4 := cell_below e4 (below_trans (by first | exact Below.refl _ _ | exact below_drew1 _ | exact below_drewN _ _) hbx); replace e5 := cell_below e5 (below_trans (by first | exact Below.refl _ _ | exact below_drew1 _ | exact below_drewN _ _) hbx); replace HB := hid (below_trans HB.out (below_trans (by first | exact Below.refl _ _ | exact below_drew1 _ | exact below_drewN _ _) hbx)); clear hbx))
    go_ret
    exact EqA.no HF.out HB.out
  | true =>
    have HR : Hid (r3 = true ↔ Q) := hid HQ.out
    clear HQ
    go_wp2_with (first | (go_at_call_of 33 (Value.slice a1 n1 k1); refine (HC1.out _ (below_trans HB.out (by first | exact Below.refl _ _ | exact below_drew1 _ | exact below_drewN _ _))).mono ?_; rintro e w4 ⟨rfl, hbx⟩; replace e0 := cell_below e0 (below_trans (by first | exact Below.refl _ _ | exact below_drew1 _ | exact below_drewN _ _) hbx); replace e1 := cell_below e1 (below_trans (by first | exact Below.refl _ _ | exact below_drew1 _ | exact below_drewN _ _) hbx); replace e2 := cell_below e2 (below_trans (by first | exact Below.refl _ _ | exact below_drew1 _ | exact below_drewN _ _) hbx); replace e3 := cell_below e3 (below_trans (by first | exact Below.refl _ _ | exact below_drew1 _ | exact below_drewN _ _) hbx); replace e4 := cell_below e4 (below_trans (by first | exact Below.refl _ _ | exact below_drew1 _ | exact below_drewN _ _) hbx); replace e5 := cell_below e5 (below_trans (by first | exact Below.refl _ _ | exact below_drew1 _ | exact below_drewN _ _) hbx); replace HB := hid (below_trans HB.out (below_trans (by first | exact Below.refl _ _ | exact below_drew1 _ | exact below_drewN _ _) hbx)); clear hbx) | (go_at_call_of 33 (Value.slice a2 n2 k2); refine (HC2.out _ (below_trans HB.out (by first | exact Below.refl _ _ | exact below_drew1 _ | exact below_drewN _ _))).mono ?_; rintro e w4 ⟨rfl, hbx⟩; replace e0 := cell_below e0 (below_trans (by first | exact Below.refl _ _ | exact below_drew1 _ | exact below_drewN _ _) hbx); replace e1 := cell_below e1 (below_trans (by first | exact Below.refl _ _ | exact below_drew1 _ | exact below_drewN _ _) hbx); replace e2 := cell_below e2 (below_trans (by first | exact Below.refl _ _ | exact below_drew1 _ | exact below_drewN _ _) hbx); replace e3 := cell_below e3 (below_trans (by first | exact Below.refl _ _ | exact below_drew1 _ | exact below_drewN _ _) hbx); replace e4 := cell_below e4 (below_trans (by first | exact Below.refl _ _ | exact below_drew1 _ | exact below_drewN _ _) hbx); replace e5 := cell_below e5 (below_trans (by first | exact Below.refl _ _ | exact below_drew1 _ | exact below_drewN _ _) hbx); replace HB := hid (below_trans HB.out (below_trans (by first | exact Below.refl _ _ | exact below_drew1 _ | exact below_drewN _ _) hbx)); clear hbx) | (go_at_call 34; refine (HC3.out _ (below_trans HB.out (by first | exact Below.refl _ _ | exact below_drew1 _ | exact below_drewN _ _))).mono ?_; rintro e w4 ⟨rfl, hbx⟩; replace e0 := cell_below e0 (below_trans (by first | exact Below.refl _ _ | exact below_drew1 _ | exact below_drewN _ _) hbx); replace e1 := cell_below e1 (below_trans (by first | exact Below.refl _ _ | exact below_drew1 _ | exact below_drewN _ _) hbx); replace e2 := cell_below e2 (below_trans (by first | exact Below.refl _ _ | exact below_drew1 _ | exact below_drewN _ _) hbx); replace e3 := cell_below e3 (below_trans (by first | exact Below.refl _ _ | exact below_drew1 _ | exact below_drewN _ _) hbx); replace e4 := cell_below e4 (below_trans (by first | exact Below.refl _ _ | exact below_drew1 _ | exact below_drewN _ _) hbx); replace e5 := cell_below e5 (below_trans (by first | exact Below.refl _ _ | exact below_drew1 _ | exact below_drewN _ _) hbx); replace HB := hid (below_trans HB.out (below_trans (by first | exact Below.refl _ _ | exact below_drew1 _ | exact below_drewN _ _) hbx)); clear hbx))
    go_ret
    exact ⟨r3, rfl, HR.out, HB.out⟩
theorem equalFuncB (w : World) (xs ys : List BV) (xa ya : Option Addr) (xc yc : Nat) (hx : PgR w (.slice xa xs.length xc) xs) (hy : PgR w (.slice ya ys.length yc) ys) : Calls Tryz.prog 20 #[.slice xa xs.length xc, .slice ya ys.length yc, .func (.func 21) #[] #[]] w (EqA w (xs.map BV.k = ys.map BV.k)) := by
  obtain ⟨_, _, e, hn1⟩ := rowS_sl hx.row
  clear e
  obtain ⟨_, _, e, hm1⟩ := rowS_sl hy.row
  clear e
  have hcf := cfSame
  by_cases hlen : xs.length = ys.length
  case neg =>
    have h63 : (xs.length : Int) ≤ 9223372036854775807 := by omega
    have h64 : (ys.length : Int) ≤ 9223372036854775807 := by omega
    have q1 : ((xs.length : Int) != (ys.length : Int)) = true := by simp; omega
    have q2 : ((xs.length : Int) == (ys.length : Int)) = false := by rw [beq_eq_false_iff_ne]; omega
    have HF : Hid (¬ xs.map BV.k = ys.map BV.k) := hid fun e => hlen (by simpa using congrArg List.length e)
    clear hx hy hlen hn1 hm1
    generalize xs.length = n at *
    generalize ys.length = m at *
    go_enter Tryz.func20, Tryz.ntmps20
    go_wp2
    go_ret
    exact EqA.no HF.out (by first | exact Below.refl _ _ | exact blBy)
  have h63 : (xs.length : Int) ≤ 9223372036854775807 := by omega
  clear hn1 hm1
  rw [← hlen] at hy ⊢
  have HX := hid hx
  have HY : Hid (RowS w AnyZ 3 (.slice ya xs.length yc) ys.length (ys.flatMap cBV) ∧ ∀ x ∈ ys, BkR w x.k x.d x.e x.r) := hid ⟨hy.row, hy.el⟩
  replace hlen := hid hlen
  clear hx hy
  generalize en : xs.length = n at *
  replace en := hid en
  go_enter Tryz.func20, Tryz.ntmps20
  go_wp2
  go_loopw [17] (fun r wr => ∃ j : Nat, r = .int .i64 j ∧ j ≤ n ∧ Hid ((xs.take j).map BV.k = (ys.take j).map BV.k) ∧ Hid (Below w.heap.size w wr)) (fun r wr => n - numAt wr r)
  case atStart => exact ⟨0, rfl, by omega, hid (by simp), hid (Below.refl _ _)⟩
  case round =>
    obtain ⟨j, rfl, hj, HS, hb⟩ := hrel
    by_cases hlt : j < n
    · have j1 : (j : Int) < (n : Int) := by omega
      have hx1 : j < xs.length := by have := en.out; omega
      have hy1 : j < ys.length := by have := en.out; have := hlen.out; omega
      have HR := HX.out.row.kept hb.out
      have HQ := HY.out.1.kept hb.out
      obtain ⟨pb, po, epb, hc⟩ := rowAt (g := cBV) (fun _ => rfl) HR (i := j) (x := xs[j]) (by simp [hx1])
      obtain ⟨rb, ro, erb, hd⟩ := rowAt (g := cBV) (fun _ => rfl) HQ (i := j) (x := ys[j]) (by simp [hy1])
      clear HR HQ
      cases epb
      cases erb
      have c0 := hc 0 _ rfl
      have c1 := hc 1 _ rfl
      have c2 := hc 2 _ rfl
      have d0 := hd 0 _ rfl
      have d1 := hd 1 _ rfl
      have d2 := hd 2 _ rfl
      clear hc hd
      simp only [Nat.add_zero] at c0 d0
      have HEX := hid (HX.out.el _ (List.getElem_mem hx1))
      have HEY := hid (HY.out.2 _ (List.getElem_mem hy1))
      have HNX : Hid (xs[j].k = ys[j].k → (xs.take (j + 1)).map BV.k = (ys.take (j + 1)).map BV.k) := hid (fun h => (map_take_eq hx1 hy1).2 ⟨HS.out, h⟩)
      have HNO : Hid (¬ xs[j].k = ys[j].k → ¬ xs.map BV.k = ys.map BV.k) := hid (fun h => map_ne_at hx1 hy1 h)
      clear HS
      generalize xs[j] = X at *
      generalize ys[j] = Y at *
      obtain ⟨A, xd, xe, xr⟩ := X
      obtain ⟨B, yd, ye, yr⟩ := Y
      dsimp only at c0 c1 c2 d0 d1 d2 HEX HEY HNX HNO
      obtain ⟨a1, k1, rfl, -⟩ := rowS_sl HEX.out.hd
      obtain ⟨a2, k2, rfl, -⟩ := rowS_sl HEX.out.he
      obtain ⟨a3, k3, rfl, -⟩ := rowS_sl HEX.out.hr
      obtain ⟨b1, l1, rfl, -⟩ := rowS_sl HEY.out.hd
      obtain ⟨b2, l2, rfl, -⟩ := rowS_sl HEY.out.he
      obtain ⟨b3, l3, rfl, -⟩ := rowS_sl HEY.out.hr
      obtain ⟨q, hq⟩ := exB (A = B)
      have HC : Hid (∀ V, Below w.heap.size w V → Calls Tryz.prog 21 #[.agg #[.slice a1 A.dec.length k1, .slice a2 A.enc.length k2, .slice a3 A.rows.length k3], .agg #[.slice b1 B.dec.length l1, .slice b2 B.enc.length l2, .slice b3 B.rows.length l3]] V fun e w' => e = .returned (.bool q) ∧ Below V.heap.size V w') := hid fun V hV => (areSameB V A B a1 a2 a3 b1 b2 b3 k1 k2 k3 l1 l2 l3 (HEX.out.kept hV) (HEY.out.kept hV)).mono fun e w' h => h.is hq
      clear HEX HEY HX HY
      generalize A.dec.length = n1 at *
      generalize A.enc.length = n2 at *
      generalize A.rows.length = n3 at *
      generalize B.dec.length = m1 at *
      generalize B.enc.length = m2 at *
      generalize B.rows.length = m3 at *
      have hpb : pb < wr.heap.size := World.block_lt_of_cell? _ _ c0
      have hrb : rb < wr.heap.size := World.block_lt_of_cell? _ _ d0
      cases q with
      | true =>
        have HS2 := hid (HNX.out (hq.1 rfl))
        clear hq HNX HNO
        go_wp2_with (first | (go_at_call 21; refine (HC.out _ (by have := hb.out; exact blBy)).mono ?_; rintro e w4 ⟨rfl, hbx⟩; replace hb := hid (below_trans hb.out (below_trans (by first | exact Below.refl _ _ | exact below_drew1 _ | exact below_drewN _ _ | exact blBy) hbx)); clear hbx))
        exact ⟨⟨j + 1, by simp, by omega, HS2, hb⟩, by simp [numAt]; omega⟩
      | false =>
        have HF := hid (HNO.out (fun h => by have := hq.2 h; cases this))
        clear hq HNX HNO
        go_wp2_with (first | (go_at_call 21; refine (HC.out _ (by have := hb.out; exact blBy)).mono ?_; rintro e w4 ⟨rfl, hbx⟩; replace hb := hid (below_trans hb.out (below_trans (by first | exact Below.refl _ _ | exact below_drew1 _ | exact below_drewN _ _ | exact blBy) hbx)); clear hbx))
        go_ret
        exact EqA.no HF.out hb.out
    · have j1 : ¬ (j : Int) < (n : Int) := by omega
      have HE : Hid (xs.map BV.k = ys.map BV.k) := hid (by
        have := HS.out
        have e1 := en.out
        have e2 := hlen.out
        rw [List.take_of_length_le (by omega), List.take_of_length_le (by omega)] at this
        exact this)
      clear HS
      go_wp2
      go_ret
      exact EqA.yes HE.out hb.out
theorem equalB (w : World) (xs ys : List BV) (xa ya : Option Addr) (xc yc : Nat) (hx : PgR w (.slice xa xs.length xc) xs) (hy : PgR w (.slice ya ys.length yc) ys) : Calls Tryz.prog 7 #[.agg #[.slice xa xs.length xc], .agg #[.slice ya ys.length yc]] w (EqA w (xs.map BV.k = ys.map BV.k)) := by
  have HC : Hid (∀ V, Below w.heap.size w V → Calls Tryz.prog 20 #[.slice xa xs.length xc, .slice ya ys.length yc, .func (.func 21) #[] #[]] V (EqA V (xs.map BV.k = ys.map BV.k))) := hid fun V hV => equalFuncB V xs ys xa ya xc yc (hx.kept hV) (hy.kept hV)
  clear hx hy
  generalize (xs.map BV.k = ys.map BV.k) = Q at *
  generalize xs.length = n at *
  generalize ys.length = m at *
  go_enter Tryz.func7, Tryz.ntmps7
  go_wp2_with (first | (go_at_call 20; refine (HC.out _ (by exact blBy)).mono ?_; rintro e w4 ⟨r, rfl, hr, hbx⟩))
  go_ret
  exact ⟨r, rfl, hr, bl_then (by exact blBy) hbx⟩
set_option maxHeartbeats 1000000
theorem rowOf {w : World} {b : Nat} {t : TypeId} {cs : Array Value} (B : Blk w b t cs) (k n : Nat) (fl : List Value) (h : cs = fl.toArray) (hl : fl.length = n * k) (hn : n ≤ 9223372036854775807) : RowS w AnyZ k (.slice (some ⟨b, 0, none⟩) n n) n fl :=
  ⟨some ⟨b, 0, none⟩, n, rfl, hl, Nat.le_refl _, hn, .inr ⟨b, 0, rfl, trivial, fun j u hu => by
    rw [Nat.zero_add]
    exact B.cell j u (by rw [h, List.getElem?_toArray]; exact hu)⟩⟩
def simE (h : Nat) : TV := ⟨⟨[69], true, [], [], [⟨[65], 0⟩], []⟩, .slice none 0 0, .slice none 0 0, .slice (some ⟨h + 1, 0, none⟩) 1 1, .slice none 0 0⟩
def simF : List FT := [⟨[120], 1, 2, 0, 0, 0, 0⟩, ⟨[108], 2, 4, 0, 3, 0, 0⟩, ⟨[109], 3, 17, 1, 1, 0, 0⟩]
def simM (h : Nat) : TV := ⟨⟨[77], false, simF, [], [], []⟩, .slice (some ⟨h + 1 + 1, 0, none⟩) 3 3, .slice none 0 0, .slice none 0 0, .slice none 0 0⟩
def simL (h : Nat) : List TV := [simE h, simM h]
theorem simpleW (w : World) : Calls Tryz.prog 10 #[] w fun e w' => e = .returned (.agg #[.slice (some ⟨w.heap.size + 1 + 1 + 1, 0, none⟩) (simL w.heap.size).length 2]) ∧ TbR w' (.slice (some ⟨w.heap.size + 1 + 1 + 1, 0, none⟩) (simL w.heap.size).length 2) (simL w.heap.size) ∧ Below w.heap.size w w' := by
  have HT : Hid (∀ W : World, Blk W (w.heap.size + 1) 59 #[.string ⟨#[65]⟩, .int .i64 0] → Blk W (w.heap.size + 1 + 1) 61 #[.string ⟨#[120]⟩, .int .i64 1, .int .i64 2, .int .i64 0, .int .i64 0, .int .i64 0, .int .i64 0, .string ⟨#[108]⟩, .int .i64 2, .int .i64 4, .int .i64 0, .int .i64 3, .int .i64 0, .int .i64 0, .string ⟨#[109]⟩, .int .i64 3, .int .i64 17, .int .i64 1, .int .i64 1, .int .i64 0, .int .i64 0] → Blk W (w.heap.size + 1 + 1 + 1) 57 #[.string ⟨#[69]⟩, .bool true, .slice none 0 0, .slice none 0 0, .slice (some ⟨w.heap.size + 1, 0, none⟩) 1 1, .slice none 0 0, .string ⟨#[77]⟩, .bool false, .slice (some ⟨w.heap.size + 1 + 1, 0, none⟩) 3 3, .slice none 0 0, .slice none 0 0, .slice none 0 0] → TbR W (.slice (some ⟨w.heap.size + 1 + 1 + 1, 0, none⟩) (simL w.heap.size).length 2) (simL w.heap.size)) := hid fun W B1 B2 B3 => by
    refine ⟨rowOf B3 6 2 _ rfl rfl (by decide), fun x hx => ?_⟩
    rcases List.mem_cons.1 hx with rfl | hx
    · exact ⟨rowS_nil _ _ _, rowS_nil _ _ _, rowOf B1 2 1 _ rfl rfl (by decide), rowS_nil _ _ _⟩
    · rcases List.mem_cons.1 hx with rfl | hx
      · exact ⟨rowOf B2 7 3 _ rfl rfl (by decide), rowS_nil _ _ _, rowS_nil _ _ _, rowS_nil _ _ _⟩
      · cases hx
  go_enter Tryz.func10, Tryz.ntmps10
  go_wp2
  refine bodyPost_ret (v := .agg #[.slice (some ⟨w.heap.size + 1 + 1 + 1, 0, none⟩) 2 2]) (by simp [results, Tryz.results10, go_sem]) rfl ⟨rfl, HT.out _ ?_ ?_ ?_, by exact blBy⟩
  · exact ((Blk.newAt (by simp)).kept (below_alloc _)).kept (below_alloc _)
  · exact (Blk.newAt (by simp)).kept (below_alloc _)
  · exact Blk.newAt (by simp)
theorem simGood (h : Nat) : goodB (simL h) = true := by kernel_rfl
theorem simOk (h : Nat) : ∀ x ∈ simL h, OkV x := by
  have tx : ∀ n : List Int, n ∈ ([[69], [77], [65], [120], [108], [109]] : List (List Int)) → TxA n := by
    intro n hn
    simp only [List.mem_cons, List.not_mem_nil, or_false] at hn
    rcases hn with rfl | rfl | rfl | rfl | rfl | rfl <;> exact ⟨by decide, by decide⟩
  intro x hx
  rcases List.mem_cons.1 hx with rfl | hx
  · refine ⟨⟨tx _ (by simp [simE]), by simp [simE], by simp [simE], fun s hs => ?_⟩, by simp [simE], by simp [simE]⟩
    simp [simE] at hs
    subst hs
    exact ⟨tx _ (by simp), by unfold I64; decide⟩
  · rcases List.mem_cons.1 hx with rfl | hx
    · refine ⟨⟨tx _ (by simp [simM]), fun f hf => ?_, by simp [simM], by simp [simM]⟩, by simp [simM], by simp [simM, simF]⟩
      simp [simM, simF] at hf
      rcases hf with rfl | rfl | rfl <;> exact tx _ (by simp)
    · cases hx
end Go.Proofs.YtdhkbdngmejklaaGreatDoor
