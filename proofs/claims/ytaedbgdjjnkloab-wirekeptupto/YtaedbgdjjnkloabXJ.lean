/-
  The walk of the law WireJoins.
-/
import Derived.Test.YtaedbgdjjnkloabXE
import Derived.Test.YtaedbgdjjnkloabXB
import Derived.Test.YtaedbgdjjnkloabM8
namespace Go.Proofs.Ytaedbgdjjnkloab
open Go.RowKit

theorem wpList_append_guard {P : Program} {w : World} {ops : Array Oper} {rest : List Oper} {o : Oper} {a : Act} {Q : Exit → Act → World → Prop} (s x : Operand) (t ty : TypeId)
    (ho : o.op = .call { callee := .builtin .append, args := #[s, x], argTypes := #[t, t] }) (hw : Region.wanted o (yielded ops a.tmps) = true) (hty : o.type = ty) (v xv v' : Value) (w' : World) (hs : a.eval s = v) (hx : a.eval x = xv)
    (hr : (Builtin.append_ #[t, t] ty #[v, xv]).run P w = .ok v' w') (h : wpList P ops Q rest (a.put o.dst v') w') : wpList P ops Q (o :: rest) a w := by
  subst hty
  refine wpList_step fun K hK => ?_
  rw [if_pos hw]
  unfold Oper.wp
  simp [execOp, ho, resolve, invoke, builtin, hs, hx, hr, Result.andThen]
  exact hK _ _ h

theorem flat_one {es : List (Ent × Value)} (h : ∀ x ∈ es, ∃ a n c, x.2 = .slice a n c) : ∀ u ∈ flat es, u.oneCell' = true := by
  induction es with
  | nil => intro u hu; cases hu
  | cons x r ih =>
    intro u hu
    simp only [flat, List.mem_cons] at hu
    rcases hu with rfl | rfl | rfl | rfl | hu
    · rfl
    · rfl
    · rfl
    · obtain ⟨a, n, c, e⟩ := h x (by simp); rw [e]; rfl
    · exact ih (fun y hy => h y (by simp [hy])) u hu
/-- Appending a list of entries that stands in W to what was built since W. -/
theorem catL (W : World) (B : Nat) (l : Value) (es : List (Ent × Value)) (w1 : World) (v : Value) (ev : List (Ent × Value)) (hrow : w1.ownsRow W.heap.size 37 4 l es.length (flat es)) (hb : Below W.heap.size W w1) (hv : OwnL W B v ev) (hn : (es.length + ev.length) * 48 ≤ 140737488355328) :
    ∃ l' w', (Builtin.append_ #[22, 22] 22 #[l, v]).run Try.prog w1 = .ok l' w' ∧ w'.ownsRow W.heap.size 37 4 l' (es ++ ev).length (flat (es ++ ev)) ∧ Below W.heap.size W w' := by
  obtain ⟨i0, hi, hz0, hz1, hz2⟩ := info_parts Try.info37
  have hk := own_kept hv.row hb
  rcases hk.2 with ⟨rfl, h0⟩ | ⟨g, cap, cur, rfl, _⟩
  · have he : ev = [] := List.eq_nil_of_length_eq_zero h0
    subst he
    exact ⟨l, w1, run_append_owned_none (P := Try.prog) (w := w1) W.heap.size 22 22 37 i0 4 Try.underlying22 hi l _ _ hrow, by simpa using hrow, hb⟩
  · obtain ⟨l', w', hr, hol, hg⟩ := run_append_mine (P := Try.prog) w1 W.heap.size 22 22 37 i0 (.agg #[.int .i64 0, .int .i64 0, .int .u64 0, .slice none 0 0]) 4 48 Try.underlying22 hi hz0 hz1 hz2 rfl (by decide) l es.length (flat es) hrow ⟨g, 0, none⟩ ev.length cap (flat ev) (flat_length ev) (hk.cells (g := g) rfl) (flat_one (fun x hx => by obtain ⟨a, c, e⟩ := own_shape (hv.each x hx); exact ⟨a, _, c, e⟩)) (by unfold maxLen; omega) hn hb.size
    exact ⟨l', w', hr, by rw [flat_append, List.length_append]; exact hol, hb.trans (hg.below hb.size (fun k hk => (hrow.lt k hk).1))⟩
theorem ownL_empty (W : World) : (W.alloc (.cells #[] 37)).ownsRow W.heap.size 37 4 (.slice (some ⟨W.heap.size, 0, none⟩) 0 0) ([] : List (Ent × Value)).length (flat []) :=
  World.ownsRow_made W #[] 0 (Nat.le_refl _) (by unfold maxLen; omega) rfl
theorem OwnL.mono {w : World} {B B' : Nat} {v : Value} {es : List (Ent × Value)} (h : OwnL w B v es) (hb : B' ≤ B) : OwnL w B' v es := ⟨own_mono h.row hb, fun x hx => own_mono (h.each x hx) hb⟩
theorem spF_none : ∀ (f p : Nat) (xs : List Int) (acc : List Ent), (spF f xs p acc).2 ≠ 0 → (spF f xs p acc).1 = []
  | 0, _, _, _, h => by simp [spF] at h
  | f + 1, p, xs, acc, h => by
    unfold spF at h ⊢
    split at h
    · simp at h
    · rename_i h1
      rw [if_neg h1]
      split at h
      · rename_i h2; rw [if_pos h2]
      · rename_i h2; rw [if_neg h2]; exact spF_none f _ xs _ h
theorem sp_none {xs : List Int} (h : (sp xs).2 ≠ 0) : (sp xs).1 = [] := spF_none _ _ _ _ h
theorem fit_good {l : List Ent} (h : ∀ x ∈ l, Fit x) : ∀ x ∈ l, Good x := fun x hx => (h x hx).1
theorem splitWo (a : Option Addr) (len cap : Nat) (xs : List Int) (w : World) (h : Reads w a len cap xs) (hreach : len * 48 ≤ 140737488355280) :
    Calls Try.prog 7 #[.slice a len cap] w fun e w' => ∃ b c es, e = .returned (.tuple #[.slice b (sp xs).1.length c, .int .i64 (sp xs).2]) ∧ es.map Prod.fst = (sp xs).1 ∧ OwnL w' w.heap.size (.slice b (sp xs).1.length c) es ∧ Below w.heap.size w w' := by
  refine (splitW a len cap xs w h hreach).mono ?_
  rintro e w' ⟨v, es, rfl, hes, ho, hb⟩
  obtain ⟨b, c, rfl⟩ := own_shape ho.row
  have hl : es.length = (sp xs).1.length := by rw [← hes]; simp
  rw [hl] at ho ⊢
  exact ⟨b, c, es, rfl, hes, ho, hb⟩


set_option maxRecDepth 100000 in
set_option maxHeartbeats 8000000 in
theorem joinsTail (la a1 a2 : Option Addr) (ll lc l1 c1 l2 c2 : Nat) (es : List Ent) (xa xb : List Int) (w : World)
    (hl : ReadsL w la ll lc es) (ha : Reads w a1 l1 c1 xa) (hbr : Reads w a2 l2 c2 xb) (s1 : l1 ≤ 1048576) (s2 : l2 ≤ 1048576) (_sl : ll ≤ 1048576) (hbulk0 : bulk es ≤ 20971520) (hJ : (jn es).2 ≠ 0) :
    Calls Try.prog 3 #[.slice la ll lc, .slice a1 l1 c1, .slice a2 l2 c2] w fun e w' => e = .returned (.bool true) ∧ Below w.heap.size w w' := by
  have hJb : ((jn es).2 == 0) = false := by simpa using hJ
  have HJG := hid (jnF_bd es [] (readsL_good hl) (by simp))
  have HJ1 := hid (joinWr la ll lc es)
  have HL := hid hl
  have HA := hid ha
  have HB := hid hbr
  clear hl ha hbr hJ
  generalize hJ0 : jn es = J at HJ1 hJb
  have HJ0 := hid hJ0
  clear hJ0
  go_enter Try.func3, Try.ntmps3
  go_wp2_with fail
  refine (awakeW _).mono ?_
  rintro e w1 ⟨rfl, hb⟩
  go_wp2_with fail
  refine (HJ1.out _ (readsL_kept HL.out hb) (by omega) (by rw [← HJ0.out]; exact HJG.out)).mono ?_
  rintro e w2 ⟨ja, jc, rfl, hj, hbL⟩
  have hb := below_trans hb hbL
  clear hbL hj
  by_cases hea : (sp xa).2 = 0
  · by_cases heb : (sp xb).2 = 0
    · have ra := run_sp (bd_mem HA.out.bd) hea
      have rb := run_sp (bd_mem HB.out.bd) heb
      have rz := run_both (bd_mem HA.out.bd) (bd_mem HB.out.bd) ra rb
      have hbz : ∀ x ∈ xa ++ xb, 0 ≤ x ∧ x ≤ 255 := fun x hx => by
        rcases List.mem_append.1 hx with h | h
        · exact bd_mem HA.out.bd x h
        · exact bd_mem HB.out.bd x h
      have ez := sp_run hbz rz
      have lla := HA.out.length
      have llb := HB.out.length
      have hfz := run_fit hbz (by simp; omega) _ 0 (by omega) rz
      have hfa := run_fit (bd_mem HA.out.bd) (by omega) _ 0 (by omega) ra
      have hfb := run_fit (bd_mem HB.out.bd) (by omega) _ 0 (by omega) rb
      have hbulk : bulk ((sp xa).1 ++ (sp xb).1) ≤ 41943040 := by have := hfz.2; simp at this; omega
      have hcl : ∀ l : List Ent, l.length ≤ bulk l := fun l => by induction l with | nil => simp | cons x r ih => simp [bulk]; omega
      have hna : (sp xa).1.length ≤ 20971520 := by have := hcl (sp xa).1; have := hfa.2; omega
      have hnb : (sp xb).1.length ≤ 20971520 := by have := hcl (sp xb).1; have := hfb.2; omega
      have ej := jnF_cat ((sp xa).1 ++ (sp xb).1) [] (fun x hx => (hfz.1 x hx).2.2)
      have ejn : jn ((sp xa).1 ++ (sp xb).1) = (catE ((sp xa).1 ++ (sp xb).1), 0) := by rw [jn, ej]; rfl
      have hcb := catE_bd _ hfz.1
      have ek := sp_run hcb (by have := run_cat _ [] hfz.1; simpa using this)
      have hclen : (catE ((sp xa).1 ++ (sp xb).1)).length ≤ 41943040 := by
        have := jnF_len ((sp xa).1 ++ (sp xb).1) []
        rw [ej] at this
        simp at this
        have h2 : bulk ((sp xa).1 ++ (sp xb).1) ≤ 41943040 := hbulk
        simp
        omega
      have hgz := fit_good hfz.1
      have HEA := hid hea
      have HEB := hid heb
      have HEZ := hid ez
      have HEJ := hid ejn
      have HEK := hid ek
      have HCB := hid hcb
      have HGZ := hid hgz
      have SA := hid (splitWo a1 l1 c1 xa)
      have SB := hid (splitWo a2 l2 c2 xb)
      clear ra rb rz hbz ez hfz hfa hfb ej ejn hcb ek hgz hea heb hcl
      generalize hX : sp xa = X at HEA HEZ HEJ HEK HCB HGZ SA hna hbulk hclen
      generalize hY : sp xb = Y at HEB HEZ HEJ HEK HCB HGZ SB hnb hbulk hclen
      clear hX hY
      obtain ⟨lx, ex⟩ := X
      obtain ⟨ly, ey⟩ := Y
      dsimp only at HEA HEB HEZ HEJ HEK HCB HGZ SA SB hna hnb hbulk hclen
      obtain rfl : ex = 0 := HEA.out
      obtain rfl : ey = 0 := HEB.out
      generalize hC : catE (lx ++ ly) = C at HEJ HEK HCB hclen
      generalize hLZ : lx ++ ly = lz at HEZ HEJ HEK HGZ hbulk
      have HLZ := hid hLZ
      have hlz : lz.length = lx.length + ly.length := by rw [← hLZ]; simp
      have HLN := hid hlz
      clear hC HEA HEB hLZ hlz
      go_wp2_with fail
      refine (SA.out _ (reads_kept HA.out hb) (by omega)).mono ?_
      rintro e w3 ⟨xa1, xc1, evx, rfl, hevx, hox, hbL⟩
      have hb := below_trans hb hbL
      clear hbL
      go_wp2_with fail
      refine (SB.out _ (reads_kept HB.out hb) (by omega)).mono ?_
      rintro e w4 ⟨ya1, yc1, evy, rfl, hevy, hoy, hbL⟩
      have hox := (hox.mono (Nat.zero_le _)).kept hbL
      have hoy := hoy.mono (Nat.zero_le _)
      have hb := below_trans hb hbL
      clear hbL
      obtain ⟨v5, w5, r5, o5, g5⟩ := cat w4 _ 0 [] _ a1 l1 c1 xa (own_empty w4) (below_alloc _) (reads_kept HA.out hb) (by omega)
      obtain ⟨v6, w6, r6, o6, g6⟩ := cat w4 v5 _ _ w5 a2 l2 c2 xb o5 g5 (reads_kept HB.out hb) (by omega)
      have R5 := hid r5
      have R6 := hid r6
      have O6 := hid o6
      have G6 := hid g6
      clear r5 r6 o5 o6 g5 g6
      go_wp2_with (first
        | (at_builtin; refine wpList_append_ran rfl (.tmp 75) (.tmp 76) 23 23 rfl rfl _ _ v5 w5 rfl rfl R5.out ?_)
        | (at_builtin; refine wpList_append_ran rfl (.tmp 77) (.tmp 78) 23 23 rfl rfl _ _ v6 w6 rfl rfl R6.out ?_)
        | fail)
      have hbL := G6.out
      obtain ⟨ba, bc, rfl, hrb⟩ := own_reads O6.out (by
        intro x hx
        rcases List.mem_append.1 hx with h | h
        · rcases List.mem_append.1 h with h | h
          · cases h
          · exact bd_mem HA.out.bd x h
        · exact bd_mem HB.out.bd x h)
      clear R5 R6 G6 O6
      have hox := hox.kept hbL
      have hoy := hoy.kept hbL
      have hb := below_trans hb hbL
      clear hbL
      have hz := splitWr ba _ bc _ w6 hrb (by omega)
      rw [List.nil_append, HEZ.out] at hz
      dsimp only at hz
      have HZ := hid hz
      clear hz hrb
      refine HZ.out.mono ?_
      rintro e w7 ⟨za, zc, rfl, hrz, hbL⟩
      have hox := hox.kept hbL
      have hoy := hoy.kept hbL
      have hb := below_trans hb hbL
      clear hbL
      have hj := joinWr za _ zc _ w7 hrz (by omega) (by rw [HEJ.out]; exact HCB.out)
      rw [HEJ.out] at hj
      dsimp only at hj
      have HJ := hid hj
      clear hj
      go_wp2_with fail
      refine HJ.out.mono ?_
      rintro e w8 ⟨ka, kc, rfl, hrk, hbL⟩
      have hox := hox.kept hbL
      have hoy := hoy.kept hbL
      have hrz := readsL_kept hrz hbL
      have hb := below_trans hb hbL
      clear hbL
      have hk := splitWr ka _ kc _ w8 hrk (by omega)
      rw [HEK.out] at hk
      dsimp only at hk
      have HK := hid hk
      clear hk hrk
      go_wp2_with fail
      refine HK.out.mono ?_
      rintro e w9 ⟨wa, wc, rfl, hrw, hbL⟩
      have hox := hox.kept hbL
      have hoy := hoy.kept hbL
      have hrz := readsL_kept hrz hbL
      have hb := below_trans hb hbL
      clear hbL
      have hlx : evx.length = lx.length := by rw [← hevx]; simp
      have hly : evy.length = ly.length := by rw [← hevy]; simp
      obtain ⟨v10, w10, r10, o10, g10⟩ := catL w9 0 _ [] _ _ evx (ownL_empty w9) (below_alloc _) hox (by simp; omega)
      obtain ⟨v11, w11, r11, o11, g11⟩ := catL w9 0 v10 _ w10 _ evy o10 g10 hoy (by simp; omega)
      have hrow : OwnL w11 0 v11 ([] ++ evx ++ evy) := ⟨own_mono o11 (Nat.zero_le _), fun x hx => by
        rcases List.mem_append.1 hx with h | h
        · rcases List.mem_append.1 h with h | h
          · cases h
          · exact own_kept (hox.each x h) g11
        · exact own_kept (hoy.each x h) g11⟩
      have hmap : ([] ++ evx ++ evy).map Prod.fst = lz := by rw [List.nil_append, List.map_append, hevx, hevy, HLZ.out]
      have R10 := hid r10
      have R11 := hid r11
      have HG11 := hid g11
      have HROW := hid hrow
      have HMAP := hid hmap
      have HZ1 := hid hrz
      have HW1 := hid hrw
      clear r10 r11 o10 o11 g10 g11 hrow hmap hrz hrw hox hoy hlx hly hevx hevy
      go_wp2_with (first
        | (at_builtin; refine wpList_append_guard (.tmp 105) (.tmp 106) 22 22 rfl (by rfl) rfl _ _ v10 w10 rfl rfl R10.out ?_)
        | (at_builtin; refine wpList_append_guard (.tmp 107) (.tmp 108) 22 22 rfl (by rfl) rfl _ _ v11 w11 rfl rfl R11.out ?_)
        | fail)
      obtain ⟨qa, qc, rfl, hrq⟩ := ownL_reads HROW.out (by rw [HMAP.out]; exact HGZ.out)
      rw [HMAP.out] at hrq
      have hrz := readsL_kept HZ1.out HG11.out
      have hrw := readsL_kept HW1.out HG11.out
      have hb := below_trans hb HG11.out
      refine (listYes _ _ _ _ _ _ _ _ hrz hrq).mono ?_
      rintro e w12 ⟨rfl, hbL⟩
      have hrz := readsL_kept hrz hbL
      have hrw := readsL_kept hrw hbL
      have hb := below_trans hb hbL
      clear hbL R10 R11 HG11 HROW hrq
      go_wp2_with fail
      refine (listYes _ _ _ _ _ _ _ _ hrw hrz).mono ?_
      rintro e w13 ⟨rfl, hbL⟩
      go_wp2
      go_ret
      exact ⟨rfl, below_trans hb hbL⟩
    · have SA := hid (splitWr a1 l1 c1 xa)
      have SB := hid (splitWr a2 l2 c2 xb)
      have nb := sp_none heb
      have hnb : ((sp xb).2 == 0) = false := by simpa using heb
      have hmb : ((sp xb).2 != 0) = true := by simpa using heb
      clear heb
      generalize sp xa = X at SA hea
      generalize sp xb = Y at SB nb hnb hmb
      obtain ⟨lx, ex⟩ := X
      obtain ⟨ly, ey⟩ := Y
      dsimp only at SA hea SB nb hnb hmb
      subst hea
      subst nb
      go_wp2_with fail
      refine (SA.out _ (reads_kept HA.out hb) (by omega)).mono ?_
      rintro e w3 ⟨xa1, xc1, rfl, hox, hbL⟩
      have hb := below_trans hb hbL
      clear hbL hox
      go_wp2_with fail
      refine (SB.out _ (reads_kept HB.out hb) (by omega)).mono ?_
      rintro e w4 ⟨ya1, yc1, rfl, hoy, hbL⟩
      have hb := below_trans hb hbL
      clear hbL hoy
      go_wp2
      go_ret
      exact ⟨rfl, hb⟩
  · by_cases heb : (sp xb).2 = 0
    · have SA := hid (splitWr a1 l1 c1 xa)
      have SB := hid (splitWr a2 l2 c2 xb)
      have na := sp_none hea
      have hna : ((sp xa).2 == 0) = false := by simpa using hea
      have hma : ((sp xa).2 != 0) = true := by simpa using hea
      clear hea
      generalize sp xa = X at SA na hna hma
      generalize sp xb = Y at SB heb
      obtain ⟨lx, ex⟩ := X
      obtain ⟨ly, ey⟩ := Y
      dsimp only at SA na hna hma SB heb
      subst na
      subst heb
      go_wp2_with fail
      refine (SA.out _ (reads_kept HA.out hb) (by omega)).mono ?_
      rintro e w3 ⟨xa1, xc1, rfl, hox, hbL⟩
      have hb := below_trans hb hbL
      clear hbL hox
      go_wp2_with fail
      refine (SB.out _ (reads_kept HB.out hb) (by omega)).mono ?_
      rintro e w4 ⟨ya1, yc1, rfl, hoy, hbL⟩
      have hb := below_trans hb hbL
      clear hbL hoy
      go_wp2
      go_ret
      exact ⟨rfl, hb⟩
    · have SA := hid (splitWr a1 l1 c1 xa)
      have SB := hid (splitWr a2 l2 c2 xb)
      have na := sp_none hea
      have hna : ((sp xa).2 == 0) = false := by simpa using hea
      have hma : ((sp xa).2 != 0) = true := by simpa using hea
      have nb := sp_none heb
      have hnb : ((sp xb).2 == 0) = false := by simpa using heb
      have hmb : ((sp xb).2 != 0) = true := by simpa using heb
      clear hea
      clear heb
      generalize sp xa = X at SA na hna hma
      generalize sp xb = Y at SB nb hnb hmb
      obtain ⟨lx, ex⟩ := X
      obtain ⟨ly, ey⟩ := Y
      dsimp only at SA na hna hma SB nb hnb hmb
      subst na
      subst nb
      go_wp2_with fail
      refine (SA.out _ (reads_kept HA.out hb) (by omega)).mono ?_
      rintro e w3 ⟨xa1, xc1, rfl, hox, hbL⟩
      have hb := below_trans hb hbL
      clear hbL hox
      go_wp2_with fail
      refine (SB.out _ (reads_kept HB.out hb) (by omega)).mono ?_
      rintro e w4 ⟨ya1, yc1, rfl, hoy, hbL⟩
      have hb := below_trans hb hbL
      clear hbL hoy
      go_wp2
      go_ret
      exact ⟨rfl, hb⟩

set_option maxRecDepth 100000 in
set_option maxHeartbeats 8000000 in
theorem joinsTook (la a1 a2 : Option Addr) (ll lc l1 c1 l2 c2 : Nat) (es : List Ent) (xa xb : List Int) (w : World)
    (hl : ReadsL w la ll lc es) (ha : Reads w a1 l1 c1 xa) (hbr : Reads w a2 l2 c2 xb) (s1 : l1 ≤ 1048576) (s2 : l2 ≤ 1048576) (_sl : ll ≤ 1048576) (hbulk0 : bulk es ≤ 20971520) (hJ : (jn es).2 = 0) :
    Calls Try.prog 3 #[.slice la ll lc, .slice a1 l1 c1, .slice a2 l2 c2] w fun e w' => e = .returned (.bool true) ∧ Below w.heap.size w w' := by
  have hz0 := jnF_zero es [] hJ
  have hfit : ∀ x ∈ es, Fit x := fun x hx => ⟨(readsL_good hl x hx).1, (readsL_good hl x hx).2, hz0 x hx⟩
  have hjc : jn es = (catE es, 0) := by rw [jn, jnF_cat es [] hz0]; rfl
  have hcb := catE_bd es hfit
  have hsp := sp_run hcb (by have := run_cat es [] hfit; simpa using this)
  have hjl : (catE es).length ≤ 20971520 := by
    have := jnF_len es []
    rw [show jnF es [] = jn es from rfl, hjc] at this
    simp at this
    omega
  have hll := hl.length
  have HLL := hid hll
  have HSP := hid hsp
  have HCB := hid hcb
  have HJ1 := hid (joinWr la ll lc es)
  have HL := hid hl
  have HA := hid ha
  have HB := hid hbr
  rw [hjc] at HJ1
  dsimp only at HJ1
  clear hl ha hbr hJ hz0 hfit hjc hcb hsp hll
  generalize catE es = K at HJ1 HSP HCB hjl
  go_enter Try.func3, Try.ntmps3
  go_wp2_with fail
  refine (awakeW _).mono ?_
  rintro e w1 ⟨rfl, hb⟩
  go_wp2_with fail
  refine (HJ1.out _ (readsL_kept HL.out hb) (by omega) HCB.out).mono ?_
  rintro e w2 ⟨ja, jc, rfl, hj, hbL⟩
  have hb := below_trans hb hbL
  have hs := splitWr ja _ jc _ w2 hj (by omega)
  rw [HSP.out] at hs
  dsimp only at hs
  have HS := hid hs
  clear hbL hj hs
  go_wp2_with fail
  refine HS.out.mono ?_
  rintro e w3 ⟨sa, sc, rfl, hs, hbL⟩
  have hb := below_trans hb hbL
  clear hbL
  go_wp2_with fail
  refine (listYes _ _ _ _ _ _ _ _ hs (readsL_kept HL.out hb)).mono ?_
  rintro e w3 ⟨rfl, hbL⟩
  have hb := below_trans hb hbL
  clear hbL hs
  by_cases hea : (sp xa).2 = 0
  · by_cases heb : (sp xb).2 = 0
    · have ra := run_sp (bd_mem HA.out.bd) hea
      have rb := run_sp (bd_mem HB.out.bd) heb
      have rz := run_both (bd_mem HA.out.bd) (bd_mem HB.out.bd) ra rb
      have hbz : ∀ x ∈ xa ++ xb, 0 ≤ x ∧ x ≤ 255 := fun x hx => by
        rcases List.mem_append.1 hx with h | h
        · exact bd_mem HA.out.bd x h
        · exact bd_mem HB.out.bd x h
      have ez := sp_run hbz rz
      have lla := HA.out.length
      have llb := HB.out.length
      have hfz := run_fit hbz (by simp; omega) _ 0 (by omega) rz
      have hfa := run_fit (bd_mem HA.out.bd) (by omega) _ 0 (by omega) ra
      have hfb := run_fit (bd_mem HB.out.bd) (by omega) _ 0 (by omega) rb
      have hbulk : bulk ((sp xa).1 ++ (sp xb).1) ≤ 41943040 := by have := hfz.2; simp at this; omega
      have hcl : ∀ l : List Ent, l.length ≤ bulk l := fun l => by induction l with | nil => simp | cons x r ih => simp [bulk]; omega
      have hna : (sp xa).1.length ≤ 20971520 := by have := hcl (sp xa).1; have := hfa.2; omega
      have hnb : (sp xb).1.length ≤ 20971520 := by have := hcl (sp xb).1; have := hfb.2; omega
      have ej := jnF_cat ((sp xa).1 ++ (sp xb).1) [] (fun x hx => (hfz.1 x hx).2.2)
      have ejn : jn ((sp xa).1 ++ (sp xb).1) = (catE ((sp xa).1 ++ (sp xb).1), 0) := by rw [jn, ej]; rfl
      have hcb := catE_bd _ hfz.1
      have ek := sp_run hcb (by have := run_cat _ [] hfz.1; simpa using this)
      have hclen : (catE ((sp xa).1 ++ (sp xb).1)).length ≤ 41943040 := by
        have := jnF_len ((sp xa).1 ++ (sp xb).1) []
        rw [ej] at this
        simp at this
        have h2 : bulk ((sp xa).1 ++ (sp xb).1) ≤ 41943040 := hbulk
        simp
        omega
      have hgz := fit_good hfz.1
      have HEA := hid hea
      have HEB := hid heb
      have HEZ := hid ez
      have HEJ := hid ejn
      have HEK := hid ek
      have HCB := hid hcb
      have HGZ := hid hgz
      have SA := hid (splitWo a1 l1 c1 xa)
      have SB := hid (splitWo a2 l2 c2 xb)
      clear ra rb rz hbz ez hfz hfa hfb ej ejn hcb ek hgz hea heb hcl
      generalize hX : sp xa = X at HEA HEZ HEJ HEK HCB HGZ SA hna hbulk hclen
      generalize hY : sp xb = Y at HEB HEZ HEJ HEK HCB HGZ SB hnb hbulk hclen
      clear hX hY
      obtain ⟨lx, ex⟩ := X
      obtain ⟨ly, ey⟩ := Y
      dsimp only at HEA HEB HEZ HEJ HEK HCB HGZ SA SB hna hnb hbulk hclen
      obtain rfl : ex = 0 := HEA.out
      obtain rfl : ey = 0 := HEB.out
      generalize hC : catE (lx ++ ly) = C at HEJ HEK HCB hclen
      generalize hLZ : lx ++ ly = lz at HEZ HEJ HEK HGZ hbulk
      have HLZ := hid hLZ
      have hlz : lz.length = lx.length + ly.length := by rw [← hLZ]; simp
      have HLN := hid hlz
      clear hC HEA HEB hLZ hlz
      go_wp2_with fail
      refine (SA.out _ (reads_kept HA.out hb) (by omega)).mono ?_
      rintro e w3 ⟨xa1, xc1, evx, rfl, hevx, hox, hbL⟩
      have hb := below_trans hb hbL
      clear hbL
      go_wp2_with fail
      refine (SB.out _ (reads_kept HB.out hb) (by omega)).mono ?_
      rintro e w4 ⟨ya1, yc1, evy, rfl, hevy, hoy, hbL⟩
      have hox := (hox.mono (Nat.zero_le _)).kept hbL
      have hoy := hoy.mono (Nat.zero_le _)
      have hb := below_trans hb hbL
      clear hbL
      obtain ⟨v5, w5, r5, o5, g5⟩ := cat w4 _ 0 [] _ a1 l1 c1 xa (own_empty w4) (below_alloc _) (reads_kept HA.out hb) (by omega)
      obtain ⟨v6, w6, r6, o6, g6⟩ := cat w4 v5 _ _ w5 a2 l2 c2 xb o5 g5 (reads_kept HB.out hb) (by omega)
      have R5 := hid r5
      have R6 := hid r6
      have O6 := hid o6
      have G6 := hid g6
      clear r5 r6 o5 o6 g5 g6
      go_wp2_with (first
        | (at_builtin; refine wpList_append_ran rfl (.tmp 75) (.tmp 76) 23 23 rfl rfl _ _ v5 w5 rfl rfl R5.out ?_)
        | (at_builtin; refine wpList_append_ran rfl (.tmp 77) (.tmp 78) 23 23 rfl rfl _ _ v6 w6 rfl rfl R6.out ?_)
        | fail)
      have hbL := G6.out
      obtain ⟨ba, bc, rfl, hrb⟩ := own_reads O6.out (by
        intro x hx
        rcases List.mem_append.1 hx with h | h
        · rcases List.mem_append.1 h with h | h
          · cases h
          · exact bd_mem HA.out.bd x h
        · exact bd_mem HB.out.bd x h)
      clear R5 R6 G6 O6
      have hox := hox.kept hbL
      have hoy := hoy.kept hbL
      have hb := below_trans hb hbL
      clear hbL
      have hz := splitWr ba _ bc _ w6 hrb (by omega)
      rw [List.nil_append, HEZ.out] at hz
      dsimp only at hz
      have HZ := hid hz
      clear hz hrb
      refine HZ.out.mono ?_
      rintro e w7 ⟨za, zc, rfl, hrz, hbL⟩
      have hox := hox.kept hbL
      have hoy := hoy.kept hbL
      have hb := below_trans hb hbL
      clear hbL
      have hj := joinWr za _ zc _ w7 hrz (by omega) (by rw [HEJ.out]; exact HCB.out)
      rw [HEJ.out] at hj
      dsimp only at hj
      have HJ := hid hj
      clear hj
      go_wp2_with fail
      refine HJ.out.mono ?_
      rintro e w8 ⟨ka, kc, rfl, hrk, hbL⟩
      have hox := hox.kept hbL
      have hoy := hoy.kept hbL
      have hrz := readsL_kept hrz hbL
      have hb := below_trans hb hbL
      clear hbL
      have hk := splitWr ka _ kc _ w8 hrk (by omega)
      rw [HEK.out] at hk
      dsimp only at hk
      have HK := hid hk
      clear hk hrk
      go_wp2_with fail
      refine HK.out.mono ?_
      rintro e w9 ⟨wa, wc, rfl, hrw, hbL⟩
      have hox := hox.kept hbL
      have hoy := hoy.kept hbL
      have hrz := readsL_kept hrz hbL
      have hb := below_trans hb hbL
      clear hbL
      have hlx : evx.length = lx.length := by rw [← hevx]; simp
      have hly : evy.length = ly.length := by rw [← hevy]; simp
      obtain ⟨v10, w10, r10, o10, g10⟩ := catL w9 0 _ [] _ _ evx (ownL_empty w9) (below_alloc _) hox (by simp; omega)
      obtain ⟨v11, w11, r11, o11, g11⟩ := catL w9 0 v10 _ w10 _ evy o10 g10 hoy (by simp; omega)
      have hrow : OwnL w11 0 v11 ([] ++ evx ++ evy) := ⟨own_mono o11 (Nat.zero_le _), fun x hx => by
        rcases List.mem_append.1 hx with h | h
        · rcases List.mem_append.1 h with h | h
          · cases h
          · exact own_kept (hox.each x h) g11
        · exact own_kept (hoy.each x h) g11⟩
      have hmap : ([] ++ evx ++ evy).map Prod.fst = lz := by rw [List.nil_append, List.map_append, hevx, hevy, HLZ.out]
      have R10 := hid r10
      have R11 := hid r11
      have HG11 := hid g11
      have HROW := hid hrow
      have HMAP := hid hmap
      have HZ1 := hid hrz
      have HW1 := hid hrw
      clear r10 r11 o10 o11 g10 g11 hrow hmap hrz hrw hox hoy hlx hly hevx hevy
      go_wp2_with (first
        | (at_builtin; refine wpList_append_guard (.tmp 105) (.tmp 106) 22 22 rfl (by rfl) rfl _ _ v10 w10 rfl rfl R10.out ?_)
        | (at_builtin; refine wpList_append_guard (.tmp 107) (.tmp 108) 22 22 rfl (by rfl) rfl _ _ v11 w11 rfl rfl R11.out ?_)
        | fail)
      obtain ⟨qa, qc, rfl, hrq⟩ := ownL_reads HROW.out (by rw [HMAP.out]; exact HGZ.out)
      rw [HMAP.out] at hrq
      have hrz := readsL_kept HZ1.out HG11.out
      have hrw := readsL_kept HW1.out HG11.out
      have hb := below_trans hb HG11.out
      refine (listYes _ _ _ _ _ _ _ _ hrz hrq).mono ?_
      rintro e w12 ⟨rfl, hbL⟩
      have hrz := readsL_kept hrz hbL
      have hrw := readsL_kept hrw hbL
      have hb := below_trans hb hbL
      clear hbL R10 R11 HG11 HROW hrq
      go_wp2_with fail
      refine (listYes _ _ _ _ _ _ _ _ hrw hrz).mono ?_
      rintro e w13 ⟨rfl, hbL⟩
      go_wp2
      go_ret
      exact ⟨rfl, below_trans hb hbL⟩
    · have SA := hid (splitWr a1 l1 c1 xa)
      have SB := hid (splitWr a2 l2 c2 xb)
      have nb := sp_none heb
      have hnb : ((sp xb).2 == 0) = false := by simpa using heb
      have hmb : ((sp xb).2 != 0) = true := by simpa using heb
      clear heb
      generalize sp xa = X at SA hea
      generalize sp xb = Y at SB nb hnb hmb
      obtain ⟨lx, ex⟩ := X
      obtain ⟨ly, ey⟩ := Y
      dsimp only at SA hea SB nb hnb hmb
      subst hea
      subst nb
      go_wp2_with fail
      refine (SA.out _ (reads_kept HA.out hb) (by omega)).mono ?_
      rintro e w3 ⟨xa1, xc1, rfl, hox, hbL⟩
      have hb := below_trans hb hbL
      clear hbL hox
      go_wp2_with fail
      refine (SB.out _ (reads_kept HB.out hb) (by omega)).mono ?_
      rintro e w4 ⟨ya1, yc1, rfl, hoy, hbL⟩
      have hb := below_trans hb hbL
      clear hbL hoy
      go_wp2
      go_ret
      exact ⟨rfl, hb⟩
  · by_cases heb : (sp xb).2 = 0
    · have SA := hid (splitWr a1 l1 c1 xa)
      have SB := hid (splitWr a2 l2 c2 xb)
      have na := sp_none hea
      have hna : ((sp xa).2 == 0) = false := by simpa using hea
      have hma : ((sp xa).2 != 0) = true := by simpa using hea
      clear hea
      generalize sp xa = X at SA na hna hma
      generalize sp xb = Y at SB heb
      obtain ⟨lx, ex⟩ := X
      obtain ⟨ly, ey⟩ := Y
      dsimp only at SA na hna hma SB heb
      subst na
      subst heb
      go_wp2_with fail
      refine (SA.out _ (reads_kept HA.out hb) (by omega)).mono ?_
      rintro e w3 ⟨xa1, xc1, rfl, hox, hbL⟩
      have hb := below_trans hb hbL
      clear hbL hox
      go_wp2_with fail
      refine (SB.out _ (reads_kept HB.out hb) (by omega)).mono ?_
      rintro e w4 ⟨ya1, yc1, rfl, hoy, hbL⟩
      have hb := below_trans hb hbL
      clear hbL hoy
      go_wp2
      go_ret
      exact ⟨rfl, hb⟩
    · have SA := hid (splitWr a1 l1 c1 xa)
      have SB := hid (splitWr a2 l2 c2 xb)
      have na := sp_none hea
      have hna : ((sp xa).2 == 0) = false := by simpa using hea
      have hma : ((sp xa).2 != 0) = true := by simpa using hea
      have nb := sp_none heb
      have hnb : ((sp xb).2 == 0) = false := by simpa using heb
      have hmb : ((sp xb).2 != 0) = true := by simpa using heb
      clear hea
      clear heb
      generalize sp xa = X at SA na hna hma
      generalize sp xb = Y at SB nb hnb hmb
      obtain ⟨lx, ex⟩ := X
      obtain ⟨ly, ey⟩ := Y
      dsimp only at SA na hna hma SB nb hnb hmb
      subst na
      subst nb
      go_wp2_with fail
      refine (SA.out _ (reads_kept HA.out hb) (by omega)).mono ?_
      rintro e w3 ⟨xa1, xc1, rfl, hox, hbL⟩
      have hb := below_trans hb hbL
      clear hbL hox
      go_wp2_with fail
      refine (SB.out _ (reads_kept HB.out hb) (by omega)).mono ?_
      rintro e w4 ⟨ya1, yc1, rfl, hoy, hbL⟩
      have hb := below_trans hb hbL
      clear hbL hoy
      go_wp2
      go_ret
      exact ⟨rfl, hb⟩

theorem joinsW (la a1 a2 : Option Addr) (ll lc l1 c1 l2 c2 : Nat) (es : List Ent) (xa xb : List Int) (w : World)
    (hl : ReadsL w la ll lc es) (ha : Reads w a1 l1 c1 xa) (hbr : Reads w a2 l2 c2 xb) (s1 : l1 ≤ 1048576) (s2 : l2 ≤ 1048576) (sl : ll ≤ 1048576) (hbulk0 : bulk es ≤ 20971520) :
    Calls Try.prog 3 #[.slice la ll lc, .slice a1 l1 c1, .slice a2 l2 c2] w fun e w' => e = .returned (.bool true) ∧ Below w.heap.size w w' := by
  by_cases hJ : (jn es).2 = 0
  · exact joinsTook la a1 a2 ll lc l1 c1 l2 c2 es xa xb w hl ha hbr s1 s2 sl hbulk0 hJ
  · exact joinsTail la a1 a2 ll lc l1 c1 l2 c2 es xa xb w hl ha hbr s1 s2 sl hbulk0 hJ
end Go.Proofs.Ytaedbgdjjnkloab
