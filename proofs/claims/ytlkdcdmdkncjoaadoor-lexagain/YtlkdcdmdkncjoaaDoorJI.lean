/-
  Walks over the program's Unquote.
-/
import Derived.Test.YtlkdcdmdkncjoaaDoorQH
namespace Go.Proofs.YtlkdcdmdkncjoaaDoor
open Go.RowKit
set_option maxRecDepth 1000000

/-- What Unquote answers: the bytes and the error. -/
def uqE (xs : List Int) : List Int × Int := if 65536 < xs.length then ([], 1) else match uq xs with
  | none => ([], 11)
  | some ys => (ys, 0)

theorem dgP_bd (l : List Int) : (0 ≤ (dgP l).1 ∧ (dgP l).1 ≤ 255) ∧ (dgP l).2 ≤ l.length + 2 := by
  match l with
  | [] => simp [dgP]
  | [_] => simp [dgP]
  | x :: y :: r =>
    have hx' := hx_range x
    have hy' := hx_range y
    show (0 ≤ (if hx x < 0 ∨ hx y < 0 then ((0 : Int), 0) else (hx x * 16 + hx y, 4)).1 ∧ (if hx x < 0 ∨ hx y < 0 then ((0 : Int), 0) else (hx x * 16 + hx y, 4)).1 ≤ 255) ∧ (if hx x < 0 ∨ hx y < 0 then ((0 : Int), 0) else (hx x * 16 + hx y, 4)).2 ≤ _
    split
    · simp
    · simp; omega
theorem sgP_bd {l : List Int} (hb : ∀ x ∈ l, 0 ≤ x ∧ x ≤ 255) : (0 ≤ (sgP l).1 ∧ (sgP l).1 ≤ 255) ∧ (sgP l).2 ≤ l.length + 1 := by
  cases l with
  | nil => simp [sgP]
  | cons d r =>
    have hd := hb d (by simp)
    have hr := dgP_bd r
    rw [sgP]
    by_cases h1 : d = 34 ∨ d = 92
    · rw [if_pos h1]; simp; omega
    rw [if_neg h1]
    by_cases h2 : d = 110
    · rw [if_pos h2]; simp
    rw [if_neg h2]
    by_cases h3 : d = 116
    · rw [if_pos h3]; simp
    rw [if_neg h3]
    by_cases h4 : d = 114
    · rw [if_pos h4]; simp
    rw [if_neg h4]
    by_cases h5 : d = 120
    · rw [if_pos h5]; exact ⟨hr.1, by simp only [List.length_cons]; omega⟩
    rw [if_neg h5]; simp
theorem pt_both {l : List Int} (hb : ∀ x ∈ l, 0 ≤ x ∧ x ≤ 255) : (0 ≤ (qpart l).1 ∧ (qpart l).1 ≤ 255) ∧ (qpart l).2 ≤ l.length := by
  cases l with
  | nil => simp [qpart]
  | cons c r =>
    have hc := hb c (by simp)
    have hr := sgP_bd (l := r) (fun x hx => hb x (by simp [hx]))
    rw [qpart]
    by_cases h1 : c = 34 ∨ c = 10
    · rw [if_pos h1]; simp
    rw [if_neg h1]
    by_cases h2 : c = 92
    · rw [if_pos h2]; exact ⟨hr.1, by simp only [List.length_cons]; omega⟩
    rw [if_neg h2]; simp; omega
theorem pt_bd {l : List Int} (hb : ∀ x ∈ l, 0 ≤ x ∧ x ≤ 255) : 0 ≤ (qpart l).1 ∧ (qpart l).1 ≤ 255 := (pt_both hb).1
theorem pt_le {l : List Int} (hb : ∀ x ∈ l, 0 ≤ x ∧ x ≤ 255) : (qpart l).2 ≤ l.length := (pt_both hb).2
theorem uq_step {P : List Int} {k f : Nat} {acc : List Int} (h : k < P.length) (hz : (qpart (P.drop k)).2 ≠ 0) : uqF (f + 1) (P.drop k) acc = uqF f (P.drop (k + (qpart (P.drop k)).2)) (acc ++ [(qpart (P.drop k)).1]) := by
  rw [uqF, if_neg (by simp; omega), if_neg hz, List.drop_drop]
theorem uq_bad {P : List Int} {k f : Nat} {acc : List Int} (h : k < P.length) (hz : (qpart (P.drop k)).2 = 0) : uqF (f + 1) (P.drop k) acc = none := by
  rw [uqF, if_neg (by simp; omega), if_pos hz]
theorem uq_end {P : List Int} {k f : Nat} {acc : List Int} (h : ¬ k < P.length) : uqF f (P.drop k) acc = some acc := by
  rw [List.drop_eq_nil_of_le (by omega)]
  cases f <;> simp [uqF]
theorem parts_len (xs : List Int) : (parts xs).length = xs.length - 2 := by unfold parts; simp; omega
theorem parts_bd {xs : List Int} (h : ∀ x ∈ xs, 0 ≤ x ∧ x ≤ 255) : ∀ x ∈ parts xs, 0 ≤ x ∧ x ≤ 255 := fun x hx => h x (List.mem_of_mem_drop (List.mem_of_mem_take hx))
theorem parts_cut (xs : List Int) (m : Nat) (h : xs.length = m + 2) : (strOfNums xs).extract 1 (m + 1) = strOfNums (parts xs) := by
  rw [str_cut, parts, h, List.drop_take]
  rfl
theorem uqE_big {xs : List Int} (h : 65536 < xs.length) : uqE xs = ([], 1) := by unfold uqE; rw [if_pos h]
theorem uqE_none {xs : List Int} (h : ¬ 65536 < xs.length) (hn : uq xs = none) : uqE xs = ([], 11) := by unfold uqE; rw [if_neg h, hn]
theorem uqE_some {xs ys : List Int} (h : ¬ 65536 < xs.length) (hn : uq xs = some ys) : uqE xs = (ys, 0) := by unfold uqE; rw [if_neg h, hn]

/-- What the callers of Unquote are told. -/
def Unquoted (w : World) (g : List Int × Int) (e : Ending) (w' : World) : Prop := ∃ a c, e = .returned (.tuple #[.slice a g.1.length c, .int .i64 g.2]) ∧ Reads w' a g.1.length c g.1 ∧ Below w.heap.size w w' ∧ ∀ x, a = some x → w.heap.size ≤ x.block
theorem unq_nil {w w' : World} {er : Int} (hb : Below w.heap.size w w') : Unquoted w ([], er) (.returned (.tuple #[.slice none 0 0, .int .i64 er])) w' := ⟨none, 0, rfl, reads_nil _, hb, fun _ h => by cases h⟩

set_option maxRecDepth 1000000 in
set_option maxHeartbeats 4000000 in
theorem unquoteLoop (xs : List Int) (n0 m : Nat) (w : World) (hb : ∀ x ∈ xs, 0 ≤ x ∧ x ≤ 255) (hn : xs.length = n0) (hlen : n0 = m + 2) (hm : m + 2 ≤ 65536) (h0 : xs[0]?.getD 0 = 34) (h1 : xs[m + 1]?.getD 0 = 34) :
    Calls Tryd.prog 42 #[.string (strOfNums xs)] w fun e w' => Unquoted w (uqE xs) e w' := by
  have hs : (strOfNums xs).size = n0 := by rw [strOfNums_size, hn]
  have hcut' : (strOfNums xs).extract 1 (n0 - 1) = strOfNums (parts xs) := by rw [hlen]; exact parts_cut xs m (hn.trans hlen)
  have hpl : (parts xs).length = m := by rw [parts_len, hn, hlen]; rfl
  have hps : (strOfNums (parts xs)).size = m := by rw [strOfNums_size, hpl]
  have i0 : ∀ (k : IntKind) (W : World), (Instr.index 9 (.string (strOfNums xs)) (.int k 0)).run Tryd.prog W = .ok (.int .u8 34) W := fun k W => by rw [← h0]; exact index_str hb 0 (by omega) k W
  have i1 : ∀ (k : IntKind) (W : World), (Instr.index 9 (.string (strOfNums xs)) (.int k ((n0 : Int) - 1))).run Tryd.prog W = .ok (.int .u8 34) W := fun k W => by
    have := index_str hb (m + 1) (by omega) k W
    rw [h1, show ((m + 1 : Nat) : Int) = (n0 : Int) - 1 by omega] at this
    exact this
  have HU : Hid (uq xs = uqF m (parts xs) []) := hid (by
    unfold uq
    rw [if_neg ?_, hpl]
    rw [List.getD_eq_getElem?_getD, List.getD_eq_getElem?_getD, hn, hlen, h0, show m + 2 - 1 = m + 1 by omega, h1]
    simp)
  have HPb := hid (parts_bd hb)
  have HL : Hid (¬ 65536 < xs.length) := hid (by omega)
  have hm1 : (n0 : Int) ≤ 65536 := by omega
  have hm2 : (2 : Int) ≤ (n0 : Int) := by omega
  have hm3 : (m : Int) ≤ 65536 := by omega
  obtain ⟨i5, hi, hz0, hz1, hz2⟩ := info_parts Tryd.info5
  obtain ⟨w1, hrun, hown, hgr⟩ := run_makeSlice_owned (P := Tryd.prog) w w.heap.size 30 5 i5 (.int .u8 0) 1 Tryd.underlying30 hi hz0 hz1 .i64 .i64 m (by omega) (by rw [hz2]; omega) (by unfold maxLen; omega) (Nat.le_refl _)
  have hb1 : Below w.heap.size w w1 := Below.grown (Below.refl _ _) hgr (Nat.le_refl _) (fun k hk => by cases hk)
  have HO := hid hown
  have HB1 := hid hb1
  have HPl := hid hpl
  clear hb hlen h0 h1 hpl hown hb1 hgr hn hm
  go_enter Tryd.func42, Tryd.ntmps42
  go_wp2
  go_loopw [6, 7] (fun o r wr => ∃ (k f n : Nat) (acc : List Int), k ≤ m ∧ r = .int .i64 k ∧ n ≤ k ∧ m ≤ k + f ∧ Hid (acc.length = n) ∧ Hid (wr.ownsRow w.heap.size 5 1 o n (acc.map (Value.int .u8))) ∧ Hid (∀ x ∈ acc, 0 ≤ x ∧ x ≤ 255) ∧ Hid (uqF f ((parts xs).drop k) acc = uq xs) ∧ Hid (Below w.heap.size w wr)) (fun _ r _ => m - (intOf r).toNat)
  case atStart => exact ⟨0, m, 0, [], by omega, rfl, by omega, by omega, hid rfl, HO, hid (by simp), hid (by rw [HU.out]; rfl), HB1⟩
  case round =>
    obtain ⟨k, f, n, acc, hk, rfl, hn, hf, HN, HO, HA, HQ, HB⟩ := hrel
    by_cases hlt : k < m
    · obtain ⟨f, rfl⟩ : ∃ f', f = f' + 1 := ⟨f - 1, by omega⟩
      have hcut2 : (strOfNums (parts xs)).extract k m = strOfNums ((parts xs).drop k) := by rw [str_cut, List.take_of_length_le (by rw [HPl.out]; exact Nat.le_refl _)]
      have HDb : Hid (∀ x ∈ (parts xs).drop k, 0 ≤ x ∧ x ≤ 255) := hid fun x hx => HPb.out x (List.mem_of_mem_drop hx)
      have HDl : Hid (((parts xs).drop k).length = m - k) := hid (by rw [List.length_drop, HPl.out])
      have hp1 := pt_bd HDb.out
      have hp2 : (qpart ((parts xs).drop k)).2 ≤ m - k := by rw [← HDl.out]; exact pt_le HDb.out
      have HKl : Hid (k < (parts xs).length) := hid (by rw [HPl.out]; exact hlt)
      have HBad : Hid ((qpart ((parts xs).drop k)).2 = 0 → uq xs = none) := hid fun hz => by rw [← HQ.out, uq_bad HKl.out hz]
      have HGood : Hid ((qpart ((parts xs).drop k)).2 ≠ 0 → uqF f ((parts xs).drop (k + (qpart ((parts xs).drop k)).2)) (acc ++ [(qpart ((parts xs).drop k)).1]) = uq xs) := hid fun hz => by rw [← HQ.out, uq_step HKl.out hz]
      clear HQ
      have HCall : Hid (∀ W, Calls Tryd.prog 48 #[.string (strOfNums ((parts xs).drop k))] W fun e w' => e = .returned (.tuple #[.int .u8 (qpart ((parts xs).drop k)).1, .int .i64 (qpart ((parts xs).drop k)).2]) ∧ W = w') := hid fun W => getPartW _ W HDb.out (by rw [HDl.out]; omega) (by rw [HDl.out]; omega)
      obtain ⟨pc, hpc⟩ : ∃ pc, (qpart ((parts xs).drop k)).1 = pc := ⟨_, rfl⟩
      obtain ⟨ps, hpsz⟩ : ∃ ps, (qpart ((parts xs).drop k)).2 = ps := ⟨_, rfl⟩
      rw [hpc] at HGood HCall hp1
      rw [hpsz] at HGood HBad HCall hp2
      clear hpc hpsz HDb HDl HKl
      by_cases hz : ps = 0
      · subst hz
        have HE : Hid (uqE xs = ([], 11)) := hid (uqE_none HL.out (HBad.out rfl))
        clear HGood HBad
        go_wp2_with (go_at_call 48; refine (HCall.out _).mono ?_; rintro e w' ⟨rfl, rfl⟩)
        try rw [Exit.noGoto_ret]
        go_ret2
        rw [HE.out]
        exact unq_nil HB.out
      · have hzb : ((ps : Int) == 0) = false := by simp; omega
        obtain ⟨v', w3, hr3, ho3, hg3⟩ := append_byte w.heap.size _ n _ wr pc HO.out HB.out.size (by omega)
        have hb3 : Below w.heap.size w w3 := HB.out.trans (hg3.below HB.out.size (fun j hj => (HO.out.lt j hj).1))
        have HR3 := hid hr3
        have HB3 := hid hb3
        have HO3 := hid ho3
        clear hr3 hb3 ho3 hg3
        go_wp2_with (first
          | (go_at_call 48; refine (HCall.out _).mono ?_; rintro e w' ⟨rfl, rfl⟩)
          | (at_builtin; refine wpList_append_ran rfl _ _ 30 30 rfl rfl _ _ v' w3 rfl rfl HR3.out ?_))
        exact ⟨⟨k + ps, f, n + 1, acc ++ [pc], by omega, by go_num, by omega, by omega, hid (by rw [List.length_append, HN.out]; rfl), hid (by rw [List.map_append]; exact HO3.out), hid (fun x hx => by rcases List.mem_append.1 hx with hx | hx; exact HA.out x hx; simp at hx; subst hx; exact hp1), hid (HGood.out hz), HB3⟩, by simp [intOf]; omega⟩
    · have HE : Hid (uqE xs = (acc, 0)) := hid (uqE_some HL.out (by rw [← HQ.out, uq_end (by rw [HPl.out]; exact hlt)]))
      obtain ⟨a3, c3, e3, hrd⟩ := own_reads HO.out HA.out
      subst e3
      have HRd := hid hrd
      clear hrd HQ
      go_wp2
      go_ret2
      rw [HE.out]
      exact ⟨a3, c3, by rw [HN.out]; rfl, by rw [HN.out]; exact HRd.out, HB.out, fun x hx => by subst hx; exact (HO.out.lt _ rfl).1⟩
end Go.Proofs.YtlkdcdmdkncjoaaDoor
