/-
  Walks over the document's Unquote.
  The document's Unquote at every string; 'awake' returns true.
  The kinds of values: numbers alone, nothing of the program.
  Walks over what is told of a kind alone, the program's and the document's.
  Does a value fit a kind? The program's walks and the document's.
  Does a value fit a kind: the document's walks; Fits, why a value can't be written.
  Fits, why a value can't be written: the program's walks and the document's.
-/
import Derived.Test.YtcenkalhklpajaaGreatDoorCQE
import Derived.Laws.Runes
import Derived.Test.YtcenkalhklpajaaGreatDoorCM3
import Derived.Test.YtcenkalhklpajaaGreatDoorCQA
import Derived.WalkKit
import Derived.WalkSpells
import Derived.WalkLawsBesides
import Derived.Outline
import Derived.Below
namespace Go.Proofs.YtcenkalhklpajaaGreatDoor
open Go.RowKit
set_option maxRecDepth 1000000

theorem hexR (c : Int) (w : World) (h0 : 0 ≤ c) (h1 : c ≤ 255) : Calls Tryz.prog 84 #[.int .u8 c] w fun e w' => e = .returned (.int .i64 (hx c)) ∧ w = w' := by
  by_cases d1 : 48 ≤ c ∧ c ≤ 57
  · have e : Hid (c - 48 = hx c) := hid (by unfold hx; rw [if_pos d1])
    obtain ⟨x1, x2⟩ := d1
    go_enter Tryz.func84, Tryz.ntmps84
    go_wp2
    go_ret
    exact ⟨ret_int e.out, rfl⟩
  by_cases d2 : 97 ≤ c ∧ c ≤ 102
  · have e : Hid (c - 87 = hx c) := hid (by unfold hx; rw [if_neg d1, if_pos d2])
    obtain ⟨x1, x2⟩ := d2
    clear d1
    go_enter Tryz.func84, Tryz.ntmps84
    go_wp2
    go_ret
    exact ⟨ret_int e.out, rfl⟩
  by_cases d3 : 65 ≤ c ∧ c ≤ 70
  · have e : Hid (c - 55 = hx c) := hid (by unfold hx; rw [if_neg d1, if_neg d2, if_pos d3])
    obtain ⟨x1, x2⟩ := d3
    clear d1 d2
    go_enter Tryz.func84, Tryz.ntmps84
    go_wp2
    go_ret
    exact ⟨ret_int e.out, rfl⟩
  · have e : Hid (-1 = hx c) := hid (by unfold hx; rw [if_neg d1, if_neg d2, if_neg d3])
    go_enter Tryz.func84, Tryz.ntmps84
    go_wp2
    all_goals first
      | omega
      | (go_ret; exact ⟨ret_int e.out, rfl⟩)

theorem pt_drop {P : List Int} {k : Nat} (h : k < P.length) : qpart (P.drop k) = if P[k]?.getD 0 = 34 ∨ P[k]?.getD 0 = 10 then (0, 0) else if P[k]?.getD 0 = 92 then sgP (P.drop (k + 1)) else (P[k]?.getD 0, 1) := by
  rw [drop_at h, qpart]
theorem sgP_drop {P : List Int} {k : Nat} (h : k < P.length) : sgP (P.drop k) = if P[k]?.getD 0 = 34 ∨ P[k]?.getD 0 = 92 then (P[k]?.getD 0, 2) else if P[k]?.getD 0 = 110 then (10, 2) else if P[k]?.getD 0 = 116 then (9, 2) else if P[k]?.getD 0 = 114 then (13, 2) else if P[k]?.getD 0 = 120 then dgP (P.drop (k + 1)) else (0, 0) := by
  rw [drop_at h, sgP]
theorem sgP_end {P : List Int} {k : Nat} (h : ¬ k < P.length) : sgP (P.drop k) = (0, 0) := by
  rw [List.drop_eq_nil_of_le (by omega)]; rfl
theorem dgP_drop {P : List Int} {k : Nat} (h : k + 1 < P.length) : dgP (P.drop k) = if hx (P[k]?.getD 0) < 0 ∨ hx (P[k + 1]?.getD 0) < 0 then (0, 0) else (hx (P[k]?.getD 0) * 16 + hx (P[k + 1]?.getD 0), 4) := by
  rw [drop_at (by omega), drop_at h]
  rfl
theorem dgP_end {P : List Int} {k : Nat} (h : ¬ k + 1 < P.length) : dgP (P.drop k) = (0, 0) := by
  have : (P.drop k).length < 2 := by simp; omega
  match hd : P.drop k with
  | [] => rfl
  | [_] => rfl
  | _ :: _ :: _ => rw [hd] at this; simp at this; omega
theorem parts_at {xs : List Int} {m k : Nat} (h : xs.length = m + 2) (hk : k < m) : xs[k + 1]?.getD 0 = (parts xs)[k]?.getD 0 := by
  unfold parts
  rw [List.getElem?_take_of_lt (by omega), List.getElem?_drop, Nat.add_comm 1 k]

/-- What the callers of the document's Unquote are told. -/
def RefUnq (w : World) (g : Option (List Int)) (e : Ending) (w' : World) : Prop := match g with
  | none => e = .returned (.tuple #[.slice none 0 0, .bool false]) ∧ Below w.heap.size w w'
  | some ys => ∃ a c, e = .returned (.tuple #[.slice a ys.length c, .bool true]) ∧ Reads w' a ys.length c ys ∧ Below w.heap.size w w'

/-- How far the loop is: the place, the bytes so far. -/
def Unq (w : World) (xs : List Int) (m : Nat) (o r : Value) (wr : World) : Prop := ∃ (k f n : Nat) (acc : List Int), k ≤ m ∧ r = .int .i64 ((k : Int) + 1) ∧ n ≤ k ∧ m ≤ k + f ∧ Hid (acc.length = n) ∧ Hid (wr.ownsRow w.heap.size 5 1 o n (acc.map (Value.int .u8))) ∧ Hid (∀ x ∈ acc, 0 ≤ x ∧ x ≤ 255) ∧ Hid (uqF f ((parts xs).drop k) acc = uq xs) ∧ Hid (Below w.heap.size w wr)
theorem unq_next {w wr w' : World} {xs acc : List Int} {m k f n sz : Nat} {o o' : Value} {x : Int} {r : Value} (hk : k < m) (hn : n ≤ k) (hf : m ≤ k + (f + 1)) (HN : acc.length = n) (HA : ∀ x ∈ acc, 0 ≤ x ∧ x ≤ 255) (HPl : (parts xs).length = m) (HPb : ∀ x ∈ parts xs, 0 ≤ x ∧ x ≤ 255)
    (HQ : uqF (f + 1) ((parts xs).drop k) acc = uq xs) (HO : wr.ownsRow w.heap.size 5 1 o n (acc.map (Value.int .u8))) (HB : Below w.heap.size w wr) (hp : qpart ((parts xs).drop k) = (x, sz)) (hz : sz ≠ 0)
    (ho' : w'.ownsRow w.heap.size 5 1 o' (n + 1) (acc.map (Value.int .u8) ++ [.int .u8 x])) (hg' : Grow wr w' o o') (hr : r = .int .i64 (((k + sz : Nat) : Int) + 1)) : Unq w xs m o' r w' := by
  have hb := pt_both (l := (parts xs).drop k) (fun x hx => HPb x (List.mem_of_mem_drop hx))
  rw [hp, List.length_drop, HPl] at hb
  refine ⟨k + sz, f, n + 1, acc ++ [x], by simp only at hb; omega, hr, by omega, by omega, hid (by rw [List.length_append, HN]; rfl), hid (by rw [List.map_append]; exact ho'), hid (fun y hy => ?_), hid ?_, hid (HB.trans (hg'.below HB.size (fun j hj => (HO.lt j hj).1)))⟩
  · rcases List.mem_append.1 hy with hy | hy
    · exact HA y hy
    · simp at hy; subst hy; exact hb.1
  · have := uq_step (P := parts xs) (k := k) (f := f) (acc := acc) (by omega) (by rw [hp]; exact hz)
    rw [hp] at this
    rw [← HQ, this]
theorem unq_none {w wr : World} {xs acc : List Int} {m k f : Nat} {x : Int} (hk : k < m) (HPl : (parts xs).length = m) (HQ : uqF (f + 1) ((parts xs).drop k) acc = uq xs) (HB : Below w.heap.size w wr) (hp : qpart ((parts xs).drop k) = (x, 0)) :
    RefUnq w (uq xs) (.returned (.tuple #[.slice none 0 0, .bool false])) wr := by
  rw [← HQ, uq_bad (by omega) (by rw [hp])]
  exact ⟨rfl, HB⟩

set_option maxRecDepth 100000 in
set_option maxHeartbeats 4000000 in
theorem refUnqLoop (xs : List Int) (n0 m : Nat) (w : World) (hb : ∀ x ∈ xs, 0 ≤ x ∧ x ≤ 255) (hn : xs.length = n0) (hlen : n0 = m + 2) (hm : m + 2 ≤ 4194304) (h0 : xs[0]?.getD 0 = 34) (h1 : xs[m + 1]?.getD 0 = 34) :
    Calls Tryz.prog 55 #[.string (strOfNums xs)] w fun e w' => RefUnq w (uq xs) e w' := by
  have hs : (strOfNums xs).size = n0 := by rw [strOfNums_size, hn]
  have hpl : (parts xs).length = m := by rw [parts_len, hn, hlen]; rfl
  have i0 : ∀ (k : IntKind) (W : World), (Instr.index 9 (.string (strOfNums xs)) (.int k 0)).run Tryz.prog W = .ok (.int .u8 34) W := fun k W => by rw [← h0]; exact index_str hb 0 (by omega) k W
  have i1 : ∀ (k : IntKind) (W : World), (Instr.index 9 (.string (strOfNums xs)) (.int k ((n0 : Int) - 1))).run Tryz.prog W = .ok (.int .u8 34) W := fun k W => by
    have := index_str hb (m + 1) (by omega) k W
    rw [h1, show ((m + 1 : Nat) : Int) = (n0 : Int) - 1 by omega] at this
    exact this
  have HIx : Hid (∀ (j : Nat), j < m → ∀ (p : Int), p = (j : Int) + 1 → ∀ (k : IntKind) (W : World), (Instr.index 9 (.string (strOfNums xs)) (.int k p)).run Tryz.prog W = .ok (.int .u8 ((parts xs)[j]?.getD 0)) W) := hid fun j hj p hp k W => by
    have := index_str hb (j + 1) (by omega) k W
    rw [parts_at (hn.trans hlen) hj] at this
    rw [hp]
    exact this
  have HU : Hid (uqF m (parts xs) [] = uq xs) := hid (by
    unfold uq
    rw [if_neg ?_, hpl]
    rw [List.getD_eq_getElem?_getD, List.getD_eq_getElem?_getD, hn, hlen, h0, show m + 2 - 1 = m + 1 by omega, h1]
    simp)
  have HPb := hid (parts_bd hb)
  have HGet : Hid (∀ j : Nat, (0 : Int) ≤ (parts xs)[j]?.getD 0 ∧ (parts xs)[j]?.getD 0 ≤ 255) := hid fun j => by have := bd_get HPb.out j; rwa [List.getD_eq_getElem?_getD] at this
  have hm1 : (n0 : Int) ≤ 4194304 := by omega
  have hm2 : (2 : Int) ≤ (n0 : Int) := by omega
  have hend : (n0 : Int) - 1 = (m : Int) + 1 := by omega
  have HPl := hid hpl
  have Hend := hid hend
  have hm3 : (m : Int) ≤ 4194304 := by omega
  clear hb hlen h0 h1 hpl hn hm hend
  go_enter Tryz.func55, Tryz.ntmps55
  go_wp2
  rw [Hend.out]
  go_loopw [4, 6] (fun o r wr => Unq w xs m o r wr) (fun _ r _ => m + 1 - (intOf r).toNat)
  case atStart => exact ⟨0, m, 0, [], by omega, rfl, by omega, by omega, hid rfl, hid (World.ownsRow_nil _ _ _ _), hid (by simp), hid HU.out, hid (Below.refl _ _)⟩
  case round =>
    obtain ⟨k, f, n, acc, hk, rfl, hn, hf, HN, HO, HA, HQ, HB⟩ := hrel
    by_cases hlt : k < m
    · obtain ⟨f, rfl⟩ : ∃ f', f = f' + 1 := ⟨f - 1, by omega⟩
      have HPt := hid (pt_drop (P := parts xs) (k := k) (by rw [HPl.out]; exact hlt))
      have hcb := HGet.out k
      have ix : ∀ (kk : IntKind) (W : World), (Instr.index 9 (.string (strOfNums xs)) (.int kk ((k : Int) + 1))).run Tryz.prog W = .ok (.int .u8 ((parts xs)[k]?.getD 0)) W := HIx.out k hlt _ rfl
      obtain ⟨c, hcc⟩ : ∃ c, (parts xs)[k]?.getD 0 = c := ⟨_, rfl⟩
      rw [hcc] at ix hcb HPt
      have hb0 := hcb.1
      have hb1 := hcb.2
      clear hcc hcb
      by_cases c34 : c = 34
      · subst c34
        have HF := hid (unq_none (x := 0) hlt HPl.out HQ.out HB.out (by rw [HPt.out]; rfl))
        clear HPt
        go_wp2
        try rw [Exit.noGoto_ret]
        go_ret2
        exact HF.out
      by_cases c10 : c = 10
      · subst c10
        have HF := hid (unq_none (x := 0) hlt HPl.out HQ.out HB.out (by rw [HPt.out]; rfl))
        clear HPt
        go_wp2
        try rw [Exit.noGoto_ret]
        go_ret2
        exact HF.out
      have e34 : (c == 34) = false := by simpa using c34
      have e10 : (c == 10) = false := by simpa using c10
      by_cases c92 : c = 92
      · subst c92
        have HPs : Hid (qpart ((parts xs).drop k) = sgP ((parts xs).drop (k + 1))) := hid (by rw [HPt.out]; rfl)
        clear HPt
        by_cases hlast : k + 1 < m
        · have HSg := hid (sgP_drop (P := parts xs) (k := k + 1) (by rw [HPl.out]; exact hlast))
          have hdb := HGet.out (k + 1)
          have iy : ∀ (kk : IntKind) (W : World), (Instr.index 9 (.string (strOfNums xs)) (.int kk ((k : Int) + 1 + 1))).run Tryz.prog W = .ok (.int .u8 ((parts xs)[k + 1]?.getD 0)) W := HIx.out (k + 1) hlast _ (by omega)
          obtain ⟨d, hdd⟩ : ∃ d, (parts xs)[k + 1]?.getD 0 = d := ⟨_, rfl⟩
          rw [hdd] at iy hdb HSg
          have hd0 := hdb.1
          have hd1 := hdb.2
          have hki : (k : Int) + 1 < (m : Int) := by omega
          clear hdd hdb
          by_cases d34 : d = 34
          · subst d34
            obtain ⟨v', w3, hr3, ho3, hg3⟩ := append_byte w.heap.size _ n _ wr 34 HO.out HB.out.size (by omega)
            have HR3 := hid hr3
            have HO3 := hid ho3
            have HG3 := hid hg3
            have HP2 : Hid (qpart ((parts xs).drop k) = (34, 2)) := hid (by rw [HPs.out, HSg.out]; rfl)
            clear hr3 ho3 hg3 HPs HSg
            go_wp2_with (first | (at_builtin; refine wpList_append_ran rfl _ _ 27 27 rfl rfl _ _ v' w3 rfl rfl HR3.out ?_))
            exact ⟨unq_next (sz := 2) hlt hn hf HN.out HA.out HPl.out HPb.out HQ.out HO.out HB.out HP2.out (by decide) HO3.out HG3.out (by go_num), by simp [intOf]; omega⟩
          by_cases d92 : d = 92
          · subst d92
            obtain ⟨v', w3, hr3, ho3, hg3⟩ := append_byte w.heap.size _ n _ wr 92 HO.out HB.out.size (by omega)
            have HR3 := hid hr3
            have HO3 := hid ho3
            have HG3 := hid hg3
            have HP2 : Hid (qpart ((parts xs).drop k) = (92, 2)) := hid (by rw [HPs.out, HSg.out]; rfl)
            clear hr3 ho3 hg3 HPs HSg
            go_wp2_with (first | (at_builtin; refine wpList_append_ran rfl _ _ 27 27 rfl rfl _ _ v' w3 rfl rfl HR3.out ?_))
            exact ⟨unq_next (sz := 2) hlt hn hf HN.out HA.out HPl.out HPb.out HQ.out HO.out HB.out HP2.out (by decide) HO3.out HG3.out (by go_num), by simp [intOf]; omega⟩
          by_cases d110 : d = 110
          · subst d110
            obtain ⟨v', w3, hr3, ho3, hg3⟩ := append_byte w.heap.size _ n _ wr 10 HO.out HB.out.size (by omega)
            have HR3 := hid hr3
            have HO3 := hid ho3
            have HG3 := hid hg3
            have HP2 : Hid (qpart ((parts xs).drop k) = (10, 2)) := hid (by rw [HPs.out, HSg.out]; rfl)
            clear hr3 ho3 hg3 HPs HSg
            go_wp2_with (first | (at_builtin; refine wpList_append_ran rfl _ _ 27 27 rfl rfl _ _ v' w3 rfl rfl HR3.out ?_))
            exact ⟨unq_next (sz := 2) hlt hn hf HN.out HA.out HPl.out HPb.out HQ.out HO.out HB.out HP2.out (by decide) HO3.out HG3.out (by go_num), by simp [intOf]; omega⟩
          by_cases d116 : d = 116
          · subst d116
            obtain ⟨v', w3, hr3, ho3, hg3⟩ := append_byte w.heap.size _ n _ wr 9 HO.out HB.out.size (by omega)
            have HR3 := hid hr3
            have HO3 := hid ho3
            have HG3 := hid hg3
            have HP2 : Hid (qpart ((parts xs).drop k) = (9, 2)) := hid (by rw [HPs.out, HSg.out]; rfl)
            clear hr3 ho3 hg3 HPs HSg
            go_wp2_with (first | (at_builtin; refine wpList_append_ran rfl _ _ 27 27 rfl rfl _ _ v' w3 rfl rfl HR3.out ?_))
            exact ⟨unq_next (sz := 2) hlt hn hf HN.out HA.out HPl.out HPb.out HQ.out HO.out HB.out HP2.out (by decide) HO3.out HG3.out (by go_num), by simp [intOf]; omega⟩
          by_cases d114 : d = 114
          · subst d114
            obtain ⟨v', w3, hr3, ho3, hg3⟩ := append_byte w.heap.size _ n _ wr 13 HO.out HB.out.size (by omega)
            have HR3 := hid hr3
            have HO3 := hid ho3
            have HG3 := hid hg3
            have HP2 : Hid (qpart ((parts xs).drop k) = (13, 2)) := hid (by rw [HPs.out, HSg.out]; rfl)
            clear hr3 ho3 hg3 HPs HSg
            go_wp2_with (first | (at_builtin; refine wpList_append_ran rfl _ _ 27 27 rfl rfl _ _ v' w3 rfl rfl HR3.out ?_))
            exact ⟨unq_next (sz := 2) hlt hn hf HN.out HA.out HPl.out HPb.out HQ.out HO.out HB.out HP2.out (by decide) HO3.out HG3.out (by go_num), by simp [intOf]; omega⟩
          by_cases d120 : d = 120
          · subst d120
            have HPd : Hid (qpart ((parts xs).drop k) = dgP ((parts xs).drop (k + 2))) := hid (by rw [HPs.out, HSg.out]; rfl)
            clear HPs HSg
            by_cases hfit : k + 3 < m
            · have HDg := hid (dgP_drop (P := parts xs) (k := k + 2) (by rw [HPl.out]; omega))
              have ia : ∀ (kk : IntKind) (W : World), (Instr.index 9 (.string (strOfNums xs)) (.int kk ((k : Int) + 1 + 1 + 1))).run Tryz.prog W = .ok (.int .u8 ((parts xs)[k + 2]?.getD 0)) W := HIx.out (k + 2) (by omega) _ (by omega)
              have ib : ∀ (kk : IntKind) (W : World), (Instr.index 9 (.string (strOfNums xs)) (.int kk ((k : Int) + 1 + 1 + 2))).run Tryz.prog W = .ok (.int .u8 ((parts xs)[k + 3]?.getD 0)) W := HIx.out (k + 3) (by omega) _ (by omega)
              have hab := HGet.out (k + 2)
              have hbb := HGet.out (k + 3)
              rw [show k + 2 + 1 = k + 3 by omega] at HDg
              obtain ⟨a, haa⟩ : ∃ a, (parts xs)[k + 2]?.getD 0 = a := ⟨_, rfl⟩
              obtain ⟨b, hbe⟩ : ∃ b, (parts xs)[k + 3]?.getD 0 = b := ⟨_, rfl⟩
              rw [haa] at ia hab HDg
              rw [hbe] at ib hbb HDg
              have HXa := hid hab
              have HXb := hid hbb
              have ra := hx_range a
              have rb := hx_range b
              have hki3 : (k : Int) + 3 < (m : Int) := by omega
              clear haa hbe hab hbb
              by_cases na : hx a < 0
              · have HF := hid (unq_none (x := 0) hlt HPl.out HQ.out HB.out (by rw [HPd.out, HDg.out, if_pos (.inl na)]))
                clear HDg HPd
                go_wp2_with (first
                  | (go_at_call_of 84 a; refine (hexR a _ HXa.out.1 HXa.out.2).mono ?_; rintro e w' ⟨rfl, rfl⟩)
                  | (go_at_call_of 84 b; refine (hexR b _ HXb.out.1 HXb.out.2).mono ?_; rintro e w' ⟨rfl, rfl⟩))
                try rw [Exit.noGoto_ret]
                go_ret2
                exact HF.out
              by_cases nb : hx b < 0
              · have HF := hid (unq_none (x := 0) hlt HPl.out HQ.out HB.out (by rw [HPd.out, HDg.out, if_pos (.inr nb)]))
                clear HDg HPd
                go_wp2_with (first
                  | (go_at_call_of 84 a; refine (hexR a _ HXa.out.1 HXa.out.2).mono ?_; rintro e w' ⟨rfl, rfl⟩)
                  | (go_at_call_of 84 b; refine (hexR b _ HXb.out.1 HXb.out.2).mono ?_; rintro e w' ⟨rfl, rfl⟩))
                try rw [Exit.noGoto_ret]
                go_ret2
                exact HF.out
              have hmod : (hx a * 16 + hx b) % 256 = hx a * 16 + hx b := by omega
              have hdr : Below wr.heap.size wr wr.drew := ⟨rfl, rfl, rfl, Nat.le_refl _, fun _ _ => rfl⟩
              obtain ⟨v', w3, hr3, ho3, hg3⟩ := append_byte w.heap.size _ n _ wr.drew (hx a * 16 + hx b) (own_kept HO.out hdr) HB.out.size (by omega)
              have HR3 := hid hr3
              have HO3 := hid ho3
              have HG3 := hid ((Grow.ofBelow hdr).trans hg3)
              have HP2 : Hid (qpart ((parts xs).drop k) = ((hx a * 16 + hx b), 4)) := hid (by rw [HPd.out, HDg.out, if_neg (by omega)])
              have hw1 : IntKind.i64.wrap ((k : Int) + 1 + 1 + 1) = (k : Int) + 1 + 1 + 1 := wrap_small _ (by omega) (by omega)
              have hw2 : IntKind.i64.wrap ((k : Int) + 1 + 1 + 2) = (k : Int) + 1 + 1 + 2 := wrap_small _ (by omega) (by omega)
              have hw3 : IntKind.i64.wrap (hx a * 16) = hx a * 16 := wrap_small _ (by omega) (by omega)
              have hw4 : IntKind.i64.wrap (hx a * 16 + hx b) = hx a * 16 + hx b := wrap_small _ (by omega) (by omega)
              have hw5 : IntKind.u8.wrap (hx a * 16 + hx b) = hx a * 16 + hx b := by rw [byte_of]; exact hmod
              clear hr3 ho3 hg3 HPd HDg hdr
              go_wp2_with (first
                | (go_at_call_of 84 a; refine (hexR a _ HXa.out.1 HXa.out.2).mono ?_; rintro e w' ⟨rfl, rfl⟩)
                | (go_at_call_of 84 b; refine (hexR b _ HXb.out.1 HXb.out.2).mono ?_; rintro e w' ⟨rfl, rfl⟩))
              go_region_law (first
                | (refine step_append_ran rfl _ _ 27 27 rfl rfl _ _ v' w3 rfl rfl HR3.out ?_)
                | (go_simp; go_wp2_with (first
                  | (go_at_call_of 84 a; refine (hexR a _ HXa.out.1 HXa.out.2).mono ?_; rintro e w' ⟨rfl, rfl⟩)
                  | (go_at_call_of 84 b; refine (hexR b _ HXb.out.1 HXb.out.2).mono ?_; rintro e w' ⟨rfl, rfl⟩))))
              all_goals (try go_wp2)
              all_goals exact ⟨unq_next (sz := 4) hlt hn hf HN.out HA.out HPl.out HPb.out HQ.out HO.out HB.out HP2.out (by decide) HO3.out HG3.out (by go_num), by simp [intOf]; omega⟩
            · have HF := hid (unq_none (x := 0) hlt HPl.out HQ.out HB.out (by rw [HPd.out, dgP_end (by rw [HPl.out]; omega)]))
              have hki3 : ¬ (k : Int) + 3 < (m : Int) := by omega
              clear HPd
              go_wp2
              try rw [Exit.noGoto_ret]
              go_ret2
              exact HF.out
          have HF := hid (unq_none (x := 0) hlt HPl.out HQ.out HB.out (by rw [HPs.out, HSg.out, if_neg (by omega), if_neg d110, if_neg d116, if_neg d114, if_neg d120]))
          have f1 : (d == 34) = false := by simpa using d34
          have f2 : (d == 92) = false := by simpa using d92
          have f3 : (d == 110) = false := by simpa using d110
          have f4 : (d == 116) = false := by simpa using d116
          have f5 : (d == 114) = false := by simpa using d114
          have f6 : (d == 120) = false := by simpa using d120
          clear HPs HSg d34 d92 d110 d116 d114 d120
          go_wp2
          try rw [Exit.noGoto_ret]
          go_ret2
          exact HF.out
        · have HF := hid (unq_none (x := 0) hlt HPl.out HQ.out HB.out (by rw [HPs.out, sgP_end (by rw [HPl.out]; exact hlast)]))
          have hki : ¬ (k : Int) + 1 < (m : Int) := by omega
          clear HPs
          go_wp2
          try rw [Exit.noGoto_ret]
          go_ret2
          exact HF.out
      · have e92 : (c != 92) = true := by simpa using c92
        obtain ⟨v', w3, hr3, ho3, hg3⟩ := append_byte w.heap.size _ n _ wr c HO.out HB.out.size (by omega)
        have HR3 := hid hr3
        have HO3 := hid ho3
        have HG3 := hid hg3
        have HP2 : Hid (qpart ((parts xs).drop k) = (c, 1)) := hid (by rw [HPt.out, if_neg (by omega), if_neg c92])
        clear hr3 ho3 hg3 HPt c34 c10 c92
        go_wp2_with (first | (at_builtin; refine wpList_append_ran rfl _ _ 27 27 rfl rfl _ _ v' w3 rfl rfl HR3.out ?_))
        exact ⟨unq_next (sz := 1) hlt hn hf HN.out HA.out HPl.out HPb.out HQ.out HO.out HB.out HP2.out (by decide) HO3.out HG3.out (by go_num), by simp [intOf]; omega⟩
    · obtain ⟨a3, c3, e3, hrd⟩ := own_reads HO.out HA.out
      subst e3
      have HE : Hid (uq xs = some acc) := hid (by rw [← HQ.out, uq_end (by rw [HPl.out]; exact hlt)])
      have HRd := hid hrd
      have hki : ¬ (k : Int) < (m : Int) := by omega
      clear hrd HQ
      go_wp2
      go_ret2
      rw [HE.out]
      exact ⟨a3, c3, by rw [HN.out]; rfl, by rw [HN.out]; exact HRd.out, HB.out⟩
end Go.Proofs.YtcenkalhklpajaaGreatDoor
namespace Go.Proofs.YtcenkalhklpajaaGreatDoor
open Go.RowKit
set_option maxRecDepth 1000000

theorem ref_nil {w : World} {xs : List Int} (h : uq xs = none) : RefUnq w (uq xs) (.returned (.tuple #[.slice none 0 0, .bool false])) w := by rw [h]; exact ⟨rfl, Below.refl _ _⟩

set_option maxHeartbeats 400000 in
/-- The document's Unquote. -/
theorem refUnqR (xs : List Int) (w : World) (hb : ∀ x ∈ xs, 0 ≤ x ∧ x ≤ 255) (hl : xs.length ≤ 4194304) :
    Calls Tryz.prog 55 #[.string (strOfNums xs)] w fun e w' => RefUnq w (uq xs) e w' := by
  have hs : (strOfNums xs).size = xs.length := strOfNums_size xs
  by_cases h2 : xs.length < 2
  · have HE := hid (ref_nil (w := w) (uq_short h2))
    have hm2 : (xs.length : Int) < 2 := by omega
    go_enter Tryz.func55, Tryz.ntmps55
    go_wp2
    go_ret2
    exact HE.out
  by_cases h0 : xs[0]?.getD 0 = 34
  · have i0 : ∀ (k : IntKind) (W : World), (Instr.index 9 (.string (strOfNums xs)) (.int k 0)).run Tryz.prog W = .ok (.int .u8 34) W := fun k W => by rw [← h0]; exact index_str hb 0 (by omega) k W
    by_cases h1 : xs[xs.length - 1]?.getD 0 = 34
    · exact refUnqLoop xs xs.length (xs.length - 2) w hb rfl (by omega) (by omega) h0 (by rw [show xs.length - 2 + 1 = xs.length - 1 by omega]; exact h1)
    · have HE := hid (ref_nil (w := w) (uq_last h1))
      have i1 : ∀ (k : IntKind) (W : World), (Instr.index 9 (.string (strOfNums xs)) (.int k ((xs.length : Int) - 1))).run Tryz.prog W = .ok (.int .u8 (xs[xs.length - 1]?.getD 0)) W := fun k W => by
        have := index_str hb (xs.length - 1) (by omega) k W
        rw [show ((xs.length - 1 : Nat) : Int) = (xs.length : Int) - 1 by omega] at this
        exact this
      obtain ⟨d, hd⟩ : ∃ d, xs[xs.length - 1]?.getD 0 = d := ⟨_, rfl⟩
      rw [hd] at i1 h1
      have e1 : (d != 34) = true := by simpa using h1
      have hm1 : (xs.length : Int) ≤ 4194304 := by omega
      have hm2 : (2 : Int) ≤ (xs.length : Int) := by omega
      clear hb h0 hl h2 hd h1
      generalize xs.length = n at *
      go_enter Tryz.func55, Tryz.ntmps55
      go_wp2
      go_ret2
      exact HE.out
  · have HE := hid (ref_nil (w := w) (uq_first h0))
    have i0 : ∀ (k : IntKind) (W : World), (Instr.index 9 (.string (strOfNums xs)) (.int k 0)).run Tryz.prog W = .ok (.int .u8 (xs[0]?.getD 0)) W := fun k W => index_str hb 0 (by omega) k W
    obtain ⟨d, hd⟩ : ∃ d, xs[0]?.getD 0 = d := ⟨_, rfl⟩
    rw [hd] at i0 h0
    have e1 : (d != 34) = true := by simpa using h0
    have hm1 : (xs.length : Int) ≤ 4194304 := by omega
    have hm2 : (2 : Int) ≤ (xs.length : Int) := by omega
    generalize xs.length = n at *
    clear hb hd h0 hl h2
    go_enter Tryz.func55, Tryz.ntmps55
    go_wp2
    go_ret2
    exact HE.out

theorem uqE_awake : uqE [34, 97, 92, 120, 52, 49, 34] = ([97, 65], 0) := by decide
theorem qt_awake : qt [97, 34, 10, 0, 195] = [34, 97, 92, 34, 92, 110, 92, 120, 48, 48, 92, 120, 99, 51, 34] := by decide
theorem rn_a : rn [97] = 1 := by decide

/-- The calls of 'awake', at what it hands in. -/
theorem callU (W : World) : Calls Tryz.prog 40 #[.string ⟨#[34, 97, 92, 120, 52, 49, 34]⟩] W fun e w' => ∃ a c, e = .returned (.tuple #[.slice a 2 c, .int .i64 0]) ∧ Reads w' a 2 c [97, 65] ∧ Below W.heap.size W w' := by
  have := unquoteW [34, 97, 92, 120, 52, 49, 34] W (by decide) (by decide)
  rw [uqE_awake] at this
  exact this
theorem callQ (W : World) : Calls Tryz.prog 33 #[.slice (some ⟨W.heap.size, 0, none⟩) 5 5] (W.alloc (.cells #[.int .u8 97, .int .u8 34, .int .u8 10, .int .u8 0, .int .u8 195] 5)) fun e w' => e = .returned (.string ⟨#[34, 97, 92, 34, 92, 110, 92, 120, 48, 48, 92, 120, 99, 51, 34]⟩) ∧ Below W.heap.size W w' := by
  refine (quoteW _ 5 5 [97, 34, 10, 0, 195] _ (reads_new W [97, 34, 10, 0, 195] (by decide) (by decide)) (by decide)).mono ?_
  rintro e w' ⟨rfl, hb⟩
  refine ⟨?_, below_trans (below_alloc _) hb⟩
  rw [qt_awake]
  rfl
/-- Valid of bytes that have just been laid. -/
theorem callV (xs : List Int) (n : Nat) (W : World) (hb : ∀ x ∈ xs, 0 ≤ x ∧ x ≤ 255) (hn : xs.length = n) (hm : n ≤ 1000) : Calls Tryz.prog 63 #[.slice (some ⟨W.heap.size, 0, none⟩) n n] (W.alloc (.cells (xs.map (Value.int .u8)).toArray 5)) fun e w' => e = .returned (.bool (decide (0 ≤ rn xs))) ∧ Below W.heap.size W w' := by
  subst hn
  refine (validW _ _ _ xs _ (reads_new W xs hb (by omega))).mono ?_
  rintro e w' ⟨rfl, hb⟩
  exact ⟨rfl, below_trans (below_alloc _) hb⟩
theorem callVa (W : World) : Calls Tryz.prog 63 #[.slice (some ⟨W.heap.size, 0, none⟩) 1 1] (W.alloc (.cells #[.int .u8 97] 5)) fun e w' => e = .returned (.bool true) ∧ Below W.heap.size W w' := by
  have := callV [97] 1 W (by decide) rfl (by decide)
  rw [rn_a] at this
  exact this
theorem conv_aA {w : World} {a : Option Addr} {c : Nat} (h : Reads w a 2 c [97, 65]) : (convert 27 9 (.slice a 2 c)).run Tryz.prog w = .ok (.string ⟨#[97, 65]⟩) w := conv h

end Go.Proofs.YtcenkalhklpajaaGreatDoor
namespace Go.Proofs.YtcenkalhklpajaaGreatDoor
open Go.RowKit
set_option maxRecDepth 1000000

/-- A number that is no kind: what the walks ask of it. -/
def NoKind (k : Int) : Prop := (k == 1) = false ∧ (k == 2) = false ∧ (k == 3) = false ∧ (k == 4) = false ∧ (k == 5) = false ∧ (k == 6) = false ∧ (k == 7) = false ∧ (k == 8) = false ∧ (k == 9) = false ∧ (k == 10) = false ∧ (k == 11) = false ∧ (k == 12) = false ∧ (k == 13) = false ∧ (k == 14) = false ∧ (k == 15) = false ∧ (k == 16) = false ∧ (k == 17) = false
theorem noKind {k : Int} (h : k < 1 ∨ 17 < k) : NoKind k := by
  unfold NoKind
  simp only [beq_eq_false_iff_ne]
  omega
theorem kinds (k : Int) : k = 1 ∨ k = 2 ∨ k = 3 ∨ k = 4 ∨ k = 5 ∨ k = 6 ∨ k = 7 ∨ k = 8 ∨ k = 9 ∨ k = 10 ∨ k = 11 ∨ k = 12 ∨ k = 13 ∨ k = 14 ∨ k = 15 ∨ k = 16 ∨ k = 17 ∨ k < 1 ∨ 17 < k := by omega

/-- The wire kind; -1: no kind. -/
def kwire (k : Int) : Int := if k = 8 ∨ k = 10 ∨ k = 12 then 5 else if k = 9 ∨ k = 11 ∨ k = 13 then 1 else if k = 14 ∨ k = 15 ∨ k = 17 then 2 else if (1 ≤ k ∧ k ≤ 7) ∨ k = 16 then 0 else -1
def kwireE (k : Int) : Int := if 1 ≤ k ∧ k ≤ 17 then 0 else 18
def knum (k : Int) : Bool := decide ((1 ≤ k ∧ k ≤ 13) ∨ k = 16)
def kkey (k : Int) : Bool := decide ((1 ≤ k ∧ k ≤ 11) ∨ k = 14)
def kneg (k : Int) : Bool := decide (k = 2 ∨ k = 3 ∨ k = 6 ∨ k = 7 ∨ k = 10 ∨ k = 11)
def kone (k : Int) : Bool := decide (1 ≤ k ∧ k ≤ 16)
/-- 64 bits in two's complement. -/
def sgn (n : Int) : Int := if n < 9223372036854775808 then n else n - 18446744073709551616
/-- Back. -/
def uns (n : Int) : Int := n % 18446744073709551616
/-- 32 bits, with their sign, in 64. -/
def wid (n : Int) : Int := if n < 2147483648 then n else n + 18446744069414584320
def khold (k n : Int) : Bool := if k = 1 then decide (n ≤ 1) else if k = 2 ∨ k = 6 ∨ k = 10 then decide (n < 2147483648 ∨ 18446744071562067968 ≤ n) else if k = 4 ∨ k = 8 ∨ k = 12 then decide (n ≤ 4294967295) else if k = 16 then decide (n ≤ 2147483647) else true
def nfit (k n : Int) : Bool := knum k && khold k n
def vfit (k n : Int) (lb lm : Nat) : Bool := decide (lm = 0) && (if k = 14 ∨ k = 15 then decide (n = 0) else decide (lb = 0) && nfit k n)
/-- Why a value can't be written; 0: it can. -/
def flt (k n : Int) (xs : List Int) (lm : Nat) : Int := if kone k = false then 18 else if vfit k n xs.length lm = false then 7 else if k = 14 ∧ rn xs < 0 then 8 else 0
def putV (k n : Int) (xs : List Int) : List Int := if k = 6 ∨ k = 7 then pv (zigF (sgn n)) else if k = 8 ∨ k = 10 ∨ k = 12 then pw 4 n else if k = 9 ∨ k = 11 ∨ k = 13 then pw 8 n else if k = 14 ∨ k = 15 then pc xs else pv n
def putE (k n : Int) (xs : List Int) (lm : Nat) : List Int × Int := if flt k n xs lm = 0 then (putV k n xs, 0) else ([], flt k n xs lm)
/-- What is read of a number: it, the place behind, the error. -/
def getN (k : Int) (xs : List Int) (p : Nat) : Int × Int × Int :=
  if k = 6 ∨ k = 7 then (uns (zagF (gv xs p).1), (gv xs p).2.1, (gv xs p).2.2) else if k = 10 then (wid (gw xs p 4).1, (gw xs p 4).2.1, (gw xs p 4).2.2) else if k = 8 ∨ k = 12 then gw xs p 4 else if k = 9 ∨ k = 11 ∨ k = 13 then gw xs p 8 else gv xs p
/-- A value that was read: N, B, the place behind, the error. -/
structure GotV where
  n : Int
  b : List Int
  next : Int
  err : Int
def GotV.none (e : Int) : GotV := ⟨0, [], 0, e⟩
def getV (k : Int) (xs : List Int) (p : Nat) : GotV :=
  if k = 14 ∨ k = 15 then (if (gc xs p).2.2 ≠ 0 then .none (gc xs p).2.2 else if k = 14 ∧ rn (gc xs p).1 < 0 then .none 8 else ⟨0, (gc xs p).1, (gc xs p).2.1, 0⟩)
  else if (getN k xs p).2.2 ≠ 0 then .none (getN k xs p).2.2 else if khold k (getN k xs p).1 = false then .none 7 else ⟨(getN k xs p).1, [], (getN k xs p).2.1, 0⟩

/-- The names. -/
def kname (k : Int) : ByteArray := if k = 1 then ⟨#[98, 111, 111, 108]⟩ else if k = 2 then ⟨#[105, 110, 116, 51, 50]⟩ else if k = 3 then ⟨#[105, 110, 116, 54, 52]⟩ else if k = 4 then ⟨#[117, 105, 110, 116, 51, 50]⟩ else if k = 5 then ⟨#[117, 105, 110, 116, 54, 52]⟩ else if k = 6 then ⟨#[115, 105, 110, 116, 51, 50]⟩ else if k = 7 then ⟨#[115, 105, 110, 116, 54, 52]⟩ else if k = 8 then ⟨#[102, 105, 120, 101, 100, 51, 50]⟩ else if k = 9 then ⟨#[102, 105, 120, 101, 100, 54, 52]⟩ else if k = 10 then ⟨#[115, 102, 105, 120, 101, 100, 51, 50]⟩ else if k = 11 then ⟨#[115, 102, 105, 120, 101, 100, 54, 52]⟩ else if k = 12 then ⟨#[102, 108, 111, 97, 116]⟩ else if k = 13 then ⟨#[100, 111, 117, 98, 108, 101]⟩ else if k = 14 then ⟨#[115, 116, 114, 105, 110, 103]⟩ else if k = 15 then ⟨#[98, 121, 116, 101, 115]⟩ else ⟨#[]⟩
def knameE (k : Int) : Int := if 1 ≤ k ∧ k ≤ 15 then 0 else 18

theorem wrap64_sgn (n : Int) (h0 : 0 ≤ n) (h1 : n < 18446744073709551616) : wrap64 n = sgn n := by
  unfold sgn wrap64
  split <;> omega
end Go.Proofs.YtcenkalhklpajaaGreatDoor
namespace Go.Proofs.YtcenkalhklpajaaGreatDoor
open Go.RowKit
set_option maxRecDepth 1000000

theorem ret_ii {a b c d : Int} (h1 : a = c) (h2 : b = d) : Ending.returned (.tuple #[.int .i64 a, .int .i64 b]) = .returned (.tuple #[.int .i64 c, .int .i64 d]) := by rw [h1, h2]
theorem ret_si {a c : ByteArray} {b d : Int} (h1 : a = c) (h2 : b = d) : Ending.returned (.tuple #[.string a, .int .i64 b]) = .returned (.tuple #[.string c, .int .i64 d]) := by rw [h1, h2]
theorem kwire_no {k : Int} (h : k < 1 ∨ 17 < k) : kwire k = -1 := by unfold kwire; rw [if_neg (by omega), if_neg (by omega), if_neg (by omega), if_neg (by omega)]
theorem kwireE_no {k : Int} (h : k < 1 ∨ 17 < k) : kwireE k = 18 := by unfold kwireE; rw [if_neg (by omega)]
theorem knum_no {k : Int} (h : k < 1 ∨ 17 < k) : knum k = false := by unfold knum; simp; omega
theorem kkey_no {k : Int} (h : k < 1 ∨ 17 < k) : kkey k = false := by unfold kkey; simp; omega
theorem kneg_no {k : Int} (h : k < 1 ∨ 17 < k) : kneg k = false := by unfold kneg; simp; omega
theorem kname_no {k : Int} (h : k < 1 ∨ 17 < k) : kname k = ⟨#[]⟩ := by unfold kname; repeat rw [if_neg (by omega)]
theorem knameE_no {k : Int} (h : k < 1 ∨ 17 < k) : knameE k = 18 := by unfold knameE; rw [if_neg (by omega)]

set_option maxHeartbeats 1000000
theorem wireKW (k : Int) (w : World) : Calls Tryz.prog 6 #[.int .i64 k] w fun e w' => e = .returned (.tuple #[.int .i64 (max (kwire k) 0), .int .i64 (kwireE k)]) ∧ w = w' := by
  rcases kinds k with rfl | rfl | rfl | rfl | rfl | rfl | rfl | rfl | rfl | rfl | rfl | rfl | rfl | rfl | rfl | rfl | rfl | h | h
  iterate 17 (next => go_enter Tryz.func6, Tryz.ntmps6; go_wp2; go_ret2; exact ⟨rfl, rfl⟩)
  · obtain ⟨e1, e2, e3, e4, e5, e6, e7, e8, e9, e10, e11, e12, e13, e14, e15, e16, e17⟩ := noKind (.inl h)
    have H : Hid (Ending.returned (.tuple #[.int .i64 0, .int .i64 18]) = .returned (.tuple #[.int .i64 (max (kwire k) 0), .int .i64 (kwireE k)])) := hid (ret_ii (by rw [kwire_no (.inl h)]; rfl) (kwireE_no (.inl h)).symm)
    clear h
    go_enter Tryz.func6, Tryz.ntmps6
    go_wp2
    go_ret2
    exact ⟨H.out, rfl⟩
  · obtain ⟨e1, e2, e3, e4, e5, e6, e7, e8, e9, e10, e11, e12, e13, e14, e15, e16, e17⟩ := noKind (.inr h)
    have H : Hid (Ending.returned (.tuple #[.int .i64 0, .int .i64 18]) = .returned (.tuple #[.int .i64 (max (kwire k) 0), .int .i64 (kwireE k)])) := hid (ret_ii (by rw [kwire_no (.inr h)]; rfl) (kwireE_no (.inr h)).symm)
    clear h
    go_enter Tryz.func6, Tryz.ntmps6
    go_wp2
    go_ret2
    exact ⟨H.out, rfl⟩
theorem wireKR (k : Int) (w : World) : Calls Tryz.prog 49 #[.int .i64 k] w fun e w' => e = .returned (.int .i64 (kwire k)) ∧ w = w' := by
  rcases kinds k with rfl | rfl | rfl | rfl | rfl | rfl | rfl | rfl | rfl | rfl | rfl | rfl | rfl | rfl | rfl | rfl | rfl | h | h
  iterate 17 (next => go_enter Tryz.func49, Tryz.ntmps49; go_wp2; go_ret; exact ⟨rfl, rfl⟩)
  · obtain ⟨e1, e2, e3, e4, e5, e6, e7, e8, e9, e10, e11, e12, e13, e14, e15, e16, e17⟩ := noKind (.inl h)
    have H : Hid (Ending.returned (.int .i64 (-1)) = .returned (.int .i64 (kwire k))) := hid (ret_int (kwire_no (.inl h)).symm)
    clear h
    go_enter Tryz.func49, Tryz.ntmps49
    go_wp2
    go_ret
    exact ⟨H.out, rfl⟩
  · obtain ⟨e1, e2, e3, e4, e5, e6, e7, e8, e9, e10, e11, e12, e13, e14, e15, e16, e17⟩ := noKind (.inr h)
    have H : Hid (Ending.returned (.int .i64 (-1)) = .returned (.int .i64 (kwire k))) := hid (ret_int (kwire_no (.inr h)).symm)
    clear h
    go_enter Tryz.func49, Tryz.ntmps49
    go_wp2
    go_ret
    exact ⟨H.out, rfl⟩
theorem negW (k : Int) (w : World) : Calls Tryz.prog 34 #[.int .i64 k] w fun e w' => e = .returned (.bool (kneg k)) ∧ w = w' := by
  rcases kinds k with rfl | rfl | rfl | rfl | rfl | rfl | rfl | rfl | rfl | rfl | rfl | rfl | rfl | rfl | rfl | rfl | rfl | h | h
  iterate 17 (next => go_enter Tryz.func34, Tryz.ntmps34; go_wp2; go_ret; exact ⟨rfl, rfl⟩)
  · obtain ⟨e1, e2, e3, e4, e5, e6, e7, e8, e9, e10, e11, e12, e13, e14, e15, e16, e17⟩ := noKind (.inl h)
    have H : Hid (Ending.returned (.bool false) = .returned (.bool (kneg k))) := hid (ret_bool (kneg_no (.inl h)).symm)
    clear h
    go_enter Tryz.func34, Tryz.ntmps34
    go_wp2
    go_ret
    exact ⟨H.out, rfl⟩
  · obtain ⟨e1, e2, e3, e4, e5, e6, e7, e8, e9, e10, e11, e12, e13, e14, e15, e16, e17⟩ := noKind (.inr h)
    have H : Hid (Ending.returned (.bool false) = .returned (.bool (kneg k))) := hid (ret_bool (kneg_no (.inr h)).symm)
    clear h
    go_enter Tryz.func34, Tryz.ntmps34
    go_wp2
    go_ret
    exact ⟨H.out, rfl⟩
theorem nameW (k : Int) (w : World) : Calls Tryz.prog 15 #[.int .i64 k] w fun e w' => e = .returned (.tuple #[.string (kname k), .int .i64 (knameE k)]) ∧ w = w' := by
  rcases kinds k with rfl | rfl | rfl | rfl | rfl | rfl | rfl | rfl | rfl | rfl | rfl | rfl | rfl | rfl | rfl | rfl | rfl | h | h
  iterate 17 (next => go_enter Tryz.func15, Tryz.ntmps15; go_wp2; go_ret2; exact ⟨rfl, rfl⟩)
  · obtain ⟨e1, e2, e3, e4, e5, e6, e7, e8, e9, e10, e11, e12, e13, e14, e15, e16, e17⟩ := noKind (.inl h)
    have H : Hid (Ending.returned (.tuple #[.string ⟨#[]⟩, .int .i64 18]) = .returned (.tuple #[.string (kname k), .int .i64 (knameE k)])) := hid (ret_si (kname_no (.inl h)).symm (knameE_no (.inl h)).symm)
    clear h
    go_enter Tryz.func15, Tryz.ntmps15
    go_wp2
    go_ret2
    exact ⟨H.out, rfl⟩
  · obtain ⟨e1, e2, e3, e4, e5, e6, e7, e8, e9, e10, e11, e12, e13, e14, e15, e16, e17⟩ := noKind (.inr h)
    have H : Hid (Ending.returned (.tuple #[.string ⟨#[]⟩, .int .i64 18]) = .returned (.tuple #[.string (kname k), .int .i64 (knameE k)])) := hid (ret_si (kname_no (.inr h)).symm (knameE_no (.inr h)).symm)
    clear h
    go_enter Tryz.func15, Tryz.ntmps15
    go_wp2
    go_ret2
    exact ⟨H.out, rfl⟩

/-- Numeric asks Wire. -/
theorem numericW (k : Int) (w : World) : Calls Tryz.prog 8 #[.int .i64 k] w fun e w' => e = .returned (.bool (knum k)) ∧ w = w' := by
  have HB : Hid ((decide (kwireE k = 0) && !decide (max (kwire k) 0 = 2)) = knum k) := hid (by
    rcases kinds k with rfl | rfl | rfl | rfl | rfl | rfl | rfl | rfl | rfl | rfl | rfl | rfl | rfl | rfl | rfl | rfl | rfl | h | h
    iterate 17 (next => rfl)
    · rw [kwireE_no (.inl h), knum_no (.inl h)]; rfl
    · rw [kwireE_no (.inr h), knum_no (.inr h)]; rfl)
  have hw := wireKW k w
  generalize kwireE k = we at HB hw
  generalize max (kwire k) 0 = wk at HB hw
  have HW := hid hw
  clear hw
  by_cases h : we = 0
  · subst h
    go_enter Tryz.func8, Tryz.ntmps8
    go_wp2_with (go_at_call 6; refine HW.out.mono ?_; rintro e w' ⟨rfl, rfl⟩)
    go_ret
    exact ⟨ret_bool (by rw [← HB.out]; simp; rfl), rfl⟩
  · have h' : (we == 0) = false := by simpa using h
    have H : Hid (false = knum k) := hid (by rw [← HB.out]; simp [h])
    clear h
    go_enter Tryz.func8, Tryz.ntmps8
    go_wp2_with (go_at_call 6; refine HW.out.mono ?_; rintro e w' ⟨rfl, rfl⟩)
    go_ret
    exact ⟨ret_bool H.out, rfl⟩
theorem isKeyW (k : Int) (w : World) : Calls Tryz.prog 9 #[.int .i64 k] w fun e w' => e = .returned (.bool (kkey k)) ∧ w = w' := by
  have HN : Hid (∀ (k : Int) (w : World), Calls Tryz.prog 8 #[.int .i64 k] w fun e w' => e = .returned (.bool (knum k)) ∧ w = w') := hid numericW
  rcases kinds k with rfl | rfl | rfl | rfl | rfl | rfl | rfl | rfl | rfl | rfl | rfl | rfl | rfl | rfl | rfl | rfl | rfl | h | h
  iterate 17 (next => go_enter Tryz.func9, Tryz.ntmps9; go_wp2_with (go_at_call 8; refine (HN.out _ _).mono ?_; rintro e w' ⟨rfl, rfl⟩); go_ret; exact ⟨rfl, rfl⟩)
  · obtain ⟨e1, e2, e3, e4, e5, e6, e7, e8, e9, e10, e11, e12, e13, e14, e15, e16, e17⟩ := noKind (.inl h)
    have H : Hid (knum k = kkey k) := hid (by rw [knum_no (.inl h), kkey_no (.inl h)])
    clear h
    go_enter Tryz.func9, Tryz.ntmps9
    go_wp2_with (go_at_call 8; refine (HN.out _ _).mono ?_; rintro e w' ⟨rfl, rfl⟩)
    go_ret
    exact ⟨ret_bool H.out, rfl⟩
  · obtain ⟨e1, e2, e3, e4, e5, e6, e7, e8, e9, e10, e11, e12, e13, e14, e15, e16, e17⟩ := noKind (.inr h)
    have H : Hid (knum k = kkey k) := hid (by rw [knum_no (.inr h), kkey_no (.inr h)])
    clear h
    go_enter Tryz.func9, Tryz.ntmps9
    go_wp2_with (go_at_call 8; refine (HN.out _ _).mono ?_; rintro e w' ⟨rfl, rfl⟩)
    go_ret
    exact ⟨ret_bool H.out, rfl⟩

theorem singleW (k : Int) (w : World) : Calls Tryz.prog 37 #[.int .i64 k] w fun e w' => e = .returned (.bool (kone k)) ∧ w = w' := by
  by_cases h1 : 1 ≤ k
  · have H : Hid (decide (k ≤ 16) = kone k) := hid (by unfold kone; simp [h1])
    go_enter Tryz.func37, Tryz.ntmps37
    go_wp2
    go_ret
    exact ⟨ret_bool H.out, rfl⟩
  · have H : Hid (false = kone k) := hid (by unfold kone; simp [h1])
    go_enter Tryz.func37, Tryz.ntmps37
    go_wp2
    go_ret
    exact ⟨ret_bool H.out, rfl⟩
theorem signedR (k : Int) (w : World) : Calls Tryz.prog 56 #[.int .i64 k] w fun e w' => e = .returned (.bool (kneg k || decide (k = 16))) ∧ w = w' := by
  rcases kinds k with rfl | rfl | rfl | rfl | rfl | rfl | rfl | rfl | rfl | rfl | rfl | rfl | rfl | rfl | rfl | rfl | rfl | h | h
  iterate 17 (next => go_enter Tryz.func56, Tryz.ntmps56; go_wp2; go_ret; exact ⟨rfl, rfl⟩)
  · obtain ⟨e1, e2, e3, e4, e5, e6, e7, e8, e9, e10, e11, e12, e13, e14, e15, e16, e17⟩ := noKind (.inl h)
    have H : Hid (false = (kneg k || decide (k = 16))) := hid (by rw [kneg_no (.inl h)]; simp; omega)
    clear h
    go_enter Tryz.func56, Tryz.ntmps56
    go_wp2
    go_ret
    exact ⟨ret_bool H.out, rfl⟩
  · obtain ⟨e1, e2, e3, e4, e5, e6, e7, e8, e9, e10, e11, e12, e13, e14, e15, e16, e17⟩ := noKind (.inr h)
    have H : Hid (false = (kneg k || decide (k = 16))) := hid (by rw [kneg_no (.inr h)]; simp; omega)
    clear h
    go_enter Tryz.func56, Tryz.ntmps56
    go_wp2
    go_ret
    exact ⟨ret_bool H.out, rfl⟩
end Go.Proofs.YtcenkalhklpajaaGreatDoor
namespace Go.Proofs.YtcenkalhklpajaaGreatDoor
open Go.RowKit
set_option maxRecDepth 1000000
set_option maxHeartbeats 1000000

theorem widenedW (n : Int) (w : World) (h0 : 0 ≤ n) (h1 : n < 4294967296) : Calls Tryz.prog 89 #[.int .u32 n] w fun e w' => e = .returned (.int .u64 (wid n)) ∧ w = w' := by
  go_enter Tryz.func89, Tryz.ntmps89
  go_wp2
  go_ret
  refine ⟨ret_int ?_, rfl⟩
  unfold wid
  rw [IntKind.wrap_u64]
  unfold wrap32
  split <;> omega

theorem widens (n : Int) (h0 : 0 ≤ n) (h1 : n < 18446744073709551616) : (n == wid (n % 4294967296)) = decide (n < 2147483648 ∨ 18446744071562067968 ≤ n) := by
  unfold wid
  rw [show (n == if n % 4294967296 < 2147483648 then n % 4294967296 else n % 4294967296 + 18446744069414584320) = decide (n = if n % 4294967296 < 2147483648 then n % 4294967296 else n % 4294967296 + 18446744069414584320) from rfl]
  rw [decide_eq_decide]
  split <;> omega
theorem numberFitsW (k n : Int) (w : World) (h0 : 0 ≤ n) (h1 : n < 18446744073709551616) : Calls Tryz.prog 78 #[.int .i64 k, .int .u64 n] w fun e w' => e = .returned (.bool (nfit k n)) ∧ w = w' := by
  have HN : Hid (∀ (k : Int) (w : World), Calls Tryz.prog 8 #[.int .i64 k] w fun e w' => e = .returned (.bool (knum k)) ∧ w = w') := hid numericW
  have HW := hid (widens n h0 h1)
  rcases kinds k with rfl | rfl | rfl | rfl | rfl | rfl | rfl | rfl | rfl | rfl | rfl | rfl | rfl | rfl | rfl | rfl | rfl | h | h
  iterate 17 (next => go_enter Tryz.func78, Tryz.ntmps78; go_wp2_with (first | (go_at_call 8; refine (HN.out _ _).mono ?_; rintro e w' ⟨rfl, rfl⟩) | (go_at_call 89; refine (widenedW _ _ (by omega) (by omega)).mono ?_; rintro e w' ⟨rfl, rfl⟩)); go_ret; first | exact ⟨rfl, rfl⟩ | exact ⟨ret_bool HW.out, rfl⟩)
  · obtain ⟨e1, e2, e3, e4, e5, e6, e7, e8, e9, e10, e11, e12, e13, e14, e15, e16, e17⟩ := noKind (.inl h)
    have H : Hid (knum k = nfit k n) := hid (by unfold nfit; rw [knum_no (.inl h)]; rfl)
    clear h
    go_enter Tryz.func78, Tryz.ntmps78
    go_wp2_with (go_at_call 8; refine (HN.out _ _).mono ?_; rintro e w' ⟨rfl, rfl⟩)
    go_ret
    exact ⟨ret_bool H.out, rfl⟩
  · obtain ⟨e1, e2, e3, e4, e5, e6, e7, e8, e9, e10, e11, e12, e13, e14, e15, e16, e17⟩ := noKind (.inr h)
    have H : Hid (knum k = nfit k n) := hid (by unfold nfit; rw [knum_no (.inr h)]; rfl)
    clear h
    go_enter Tryz.func78, Tryz.ntmps78
    go_wp2_with (go_at_call 8; refine (HN.out _ _).mono ?_; rintro e w' ⟨rfl, rfl⟩)
    go_ret
    exact ⟨ret_bool H.out, rfl⟩
end Go.Proofs.YtcenkalhklpajaaGreatDoor
namespace Go.Proofs.YtcenkalhklpajaaGreatDoor
open Go.RowKit
set_option maxRecDepth 1000000
set_option maxHeartbeats 1000000

theorem holds32 (n : Int) (h0 : 0 ≤ n) (h1 : n < 18446744073709551616) : ∃ b c : Bool, decide (-2147483648 ≤ wrap64 n) = b ∧ decide (wrap64 n < 2147483648) = c ∧ (b && c) = decide (n < 2147483648 ∨ 18446744071562067968 ≤ n) := by
  refine ⟨_, _, rfl, rfl, ?_⟩
  rw [← Bool.decide_and, decide_eq_decide]
  unfold wrap64
  omega
theorem holdsE (n : Int) (h0 : 0 ≤ n) (h1 : n < 18446744073709551616) : ∃ b c : Bool, decide (0 ≤ wrap64 n) = b ∧ decide (wrap64 n < 2147483648) = c ∧ (b && c) = decide (n ≤ 2147483647) := by
  refine ⟨_, _, rfl, rfl, ?_⟩
  rw [← Bool.decide_and, decide_eq_decide]
  unfold wrap64
  omega
theorem lt_two (n : Int) : decide (n < 2) = decide (n ≤ 1) := by rw [decide_eq_decide]; omega
theorem lt_32 (n : Int) : decide (n < 4294967296) = decide (n ≤ 4294967295) := by rw [decide_eq_decide]; omega
theorem holdsR (k n : Int) (w : World) (h0 : 0 ≤ n) (h1 : n < 18446744073709551616) : Calls Tryz.prog 82 #[.int .i64 k, .int .u64 n] w fun e w' => e = .returned (.bool (khold k n)) ∧ w = w' := by
  rcases kinds k with rfl | rfl | rfl | rfl | rfl | rfl | rfl | rfl | rfl | rfl | rfl | rfl | rfl | rfl | rfl | rfl | rfl | h | h
  next => go_enter Tryz.func82, Tryz.ntmps82; go_wp2; go_ret; exact ⟨ret_bool (lt_two n), rfl⟩
  next =>
    obtain ⟨b, c, hb, hc, hd⟩ := holds32 n h0 h1
    have H := hid hd
    clear hd
    cases b <;> cases c
    all_goals (go_enter Tryz.func82, Tryz.ntmps82; go_wp2; go_ret; exact ⟨ret_bool H.out, rfl⟩)
  next => go_enter Tryz.func82, Tryz.ntmps82; go_wp2; go_ret; exact ⟨rfl, rfl⟩
  next => go_enter Tryz.func82, Tryz.ntmps82; go_wp2; go_ret; exact ⟨ret_bool (lt_32 n), rfl⟩
  next => go_enter Tryz.func82, Tryz.ntmps82; go_wp2; go_ret; exact ⟨rfl, rfl⟩
  next =>
    obtain ⟨b, c, hb, hc, hd⟩ := holds32 n h0 h1
    have H := hid hd
    clear hd
    cases b <;> cases c
    all_goals (go_enter Tryz.func82, Tryz.ntmps82; go_wp2; go_ret; exact ⟨ret_bool H.out, rfl⟩)
  next => go_enter Tryz.func82, Tryz.ntmps82; go_wp2; go_ret; exact ⟨rfl, rfl⟩
  next => go_enter Tryz.func82, Tryz.ntmps82; go_wp2; go_ret; exact ⟨ret_bool (lt_32 n), rfl⟩
  next => go_enter Tryz.func82, Tryz.ntmps82; go_wp2; go_ret; exact ⟨rfl, rfl⟩
  next =>
    obtain ⟨b, c, hb, hc, hd⟩ := holds32 n h0 h1
    have H := hid hd
    clear hd
    cases b <;> cases c
    all_goals (go_enter Tryz.func82, Tryz.ntmps82; go_wp2; go_ret; exact ⟨ret_bool H.out, rfl⟩)
  next => go_enter Tryz.func82, Tryz.ntmps82; go_wp2; go_ret; exact ⟨rfl, rfl⟩
  next => go_enter Tryz.func82, Tryz.ntmps82; go_wp2; go_ret; exact ⟨ret_bool (lt_32 n), rfl⟩
  next => go_enter Tryz.func82, Tryz.ntmps82; go_wp2; go_ret; exact ⟨rfl, rfl⟩
  next => go_enter Tryz.func82, Tryz.ntmps82; go_wp2; go_ret; exact ⟨rfl, rfl⟩
  next => go_enter Tryz.func82, Tryz.ntmps82; go_wp2; go_ret; exact ⟨rfl, rfl⟩
  next =>
    obtain ⟨b, c, hb, hc, hd⟩ := holdsE n h0 h1
    have H := hid hd
    clear hd
    cases b <;> cases c
    all_goals (go_enter Tryz.func82, Tryz.ntmps82; go_wp2; go_ret; exact ⟨ret_bool H.out, rfl⟩)
  next => go_enter Tryz.func82, Tryz.ntmps82; go_wp2; go_ret; exact ⟨rfl, rfl⟩
  · obtain ⟨e1, e2, e3, e4, e5, e6, e7, e8, e9, e10, e11, e12, e13, e14, e15, e16, e17⟩ := noKind (.inl h)
    have H : Hid (true = khold k n) := hid (by unfold khold; rw [if_neg (by omega), if_neg (by omega), if_neg (by omega), if_neg (by omega)])
    clear h
    go_enter Tryz.func82, Tryz.ntmps82
    go_wp2
    go_ret
    exact ⟨ret_bool H.out, rfl⟩
  · obtain ⟨e1, e2, e3, e4, e5, e6, e7, e8, e9, e10, e11, e12, e13, e14, e15, e16, e17⟩ := noKind (.inr h)
    have H : Hid (true = khold k n) := hid (by unfold khold; rw [if_neg (by omega), if_neg (by omega), if_neg (by omega), if_neg (by omega)])
    clear h
    go_enter Tryz.func82, Tryz.ntmps82
    go_wp2
    go_ret
    exact ⟨ret_bool H.out, rfl⟩

/-- A value: its number, its bytes, how many messages. -/
structure Val (w : World) (v : Value) (n : Int) (xs : List Int) (lm : Nat) : Prop where
  shape : ∃ a len cap am cm, v = .agg #[.int .u64 n, .slice a len cap, .slice am lm cm] ∧ Reads w a len cap xs
  lo : 0 ≤ n
  hi : n < 18446744073709551616
  few : lm ≤ 9223372036854775807
theorem Val.kept {w w' : World} {v : Value} {n : Int} {xs : List Int} {lm : Nat} (h : Val w v n xs lm) (hb : Below w.heap.size w w') : Val w' v n xs lm := by
  obtain ⟨a, len, cap, am, cm, h1, h2⟩ := h.shape
  exact ⟨⟨a, len, cap, am, cm, h1, reads_kept h2 hb⟩, h.lo, h.hi, h.few⟩

theorem vfit_one {k n : Int} {lb lm : Nat} (hv : vfit k n lb lm = true) : kone k = true := by
  unfold vfit at hv
  rcases kinds k with rfl | rfl | rfl | rfl | rfl | rfl | rfl | rfl | rfl | rfl | rfl | rfl | rfl | rfl | rfl | rfl | rfl | h | h
  iterate 16 (next => rfl)
  · simp [nfit, knum] at hv
  · rw [Bool.and_eq_true, if_neg (by omega)] at hv
    unfold nfit at hv
    rw [knum_no (.inl h)] at hv
    simp at hv
  · rw [Bool.and_eq_true, if_neg (by omega)] at hv
    unfold nfit at hv
    rw [knum_no (.inr h)] at hv
    simp at hv
theorem vfit_m {k n : Int} {lb lm : Nat} (h : lm ≠ 0) : vfit k n lb lm = false := by simp [vfit, h]
theorem vfit_14 {n : Int} {lb : Nat} : vfit 14 n lb 0 = (n == 0) := by simp [vfit]; rfl
theorem vfit_15 {n : Int} {lb : Nat} : vfit 15 n lb 0 = (n == 0) := by simp [vfit]; rfl
theorem vfit_b {k n : Int} {lb : Nat} (h : lb ≠ 0) (h1 : k ≠ 14) (h2 : k ≠ 15) : vfit k n lb 0 = false := by simp [vfit, h, h1, h2]
theorem vfit_n {k n : Int} (h1 : k ≠ 14) (h2 : k ≠ 15) : vfit k n 0 0 = nfit k n := by simp [vfit, h1, h2]
theorem nfit_h {k n : Int} (h : 1 ≤ k) (h1 : k ≤ 16) (h2 : k ≠ 14) (h3 : k ≠ 15) : nfit k n = khold k n := by
  have e : knum k = true := by unfold knum; simp; omega
  unfold nfit; rw [e]; rfl
theorem vfit_k {k n : Int} {lb lm : Nat} (h : k < 1 ∨ 16 < k) : vfit k n lb lm = false := by
  have e : knum k = false := by unfold knum; simp; omega
  unfold vfit nfit
  rw [if_neg (by omega), e]
  simp
end Go.Proofs.YtcenkalhklpajaaGreatDoor
namespace Go.Proofs.YtcenkalhklpajaaGreatDoor
open Go.RowKit
set_option maxRecDepth 1000000
set_option maxHeartbeats 1000000

/-- A value's own cells, wherever new blocks came behind it. -/
theorem vcells {w w2 : World} {x y z : Value} (hb : Below (w.alloc (.cells #[x, y, z] 33)).heap.size (w.alloc (.cells #[x, y, z] 33)) w2) : w2.cell? ⟨w.heap.size, 0, none⟩ = some x ∧ w2.cell? ⟨w.heap.size, 1, none⟩ = some y ∧ w2.cell? ⟨w.heap.size, 2, none⟩ = some z := by
  have hbx : ∀ o, w2.cell? ⟨w.heap.size, o, none⟩ = (w.alloc (.cells #[x, y, z] 33)).cell? ⟨w.heap.size, o, none⟩ := fun o => World.cell?_of_block (hb.block w.heap.size (by simp))
  refine ⟨?_, ?_, ?_⟩
  all_goals (rw [hbx, World.cell?_alloc_at _ _ _ _ rfl]; rfl)
section
variable (k n : Int) (a am : Option Addr) (len cap lm cm : Nat) (w : World)
theorem fitsW (h0 : 0 ≤ n) (h1 : n < 18446744073709551616) (hl : len ≤ 9223372036854775807) (hm : lm ≤ 9223372036854775807) : Calls Tryz.prog 43 #[.int .i64 k, .agg #[.int .u64 n, .slice a len cap, .slice am lm cm]] w fun e w' => e = .returned (.bool (vfit k n len lm)) ∧ Below w.heap.size w w' := by
  by_cases hm0 : lm = 0
  · subst hm0
    by_cases h14 : k = 14
    · subst h14
      rw [vfit_14]
      go_enter Tryz.func43, Tryz.ntmps43
      go_wp2
      go_ret
      exact ⟨rfl, below_alloc _⟩
    by_cases h15 : k = 15
    · subst h15
      rw [vfit_15]
      go_enter Tryz.func43, Tryz.ntmps43
      go_wp2
      go_ret
      exact ⟨rfl, below_alloc _⟩
    have e14 : (k == 14) = false := by simpa using h14
    have e15 : (k == 15) = false := by simpa using h15
    by_cases hb : len = 0
    · subst hb
      rw [vfit_n h14 h15]
      clear h14 h15
      go_enter Tryz.func43, Tryz.ntmps43
      go_wp2_with (go_at_call 78; refine (numberFitsW k n _ h0 h1).mono ?_; rintro e w' ⟨rfl, rfl⟩)
      go_ret
      exact ⟨rfl, below_alloc _⟩
    · rw [vfit_b hb h14 h15]
      have eb : ((len : Int) == 0) = false := by simpa using hb
      clear h14 h15 hb
      go_enter Tryz.func43, Tryz.ntmps43
      go_wp2
      go_ret
      exact ⟨rfl, below_alloc _⟩
  · rw [vfit_m hm0]
    have em : 0 < (lm : Int) := by omega
    clear hm0
    go_enter Tryz.func43, Tryz.ntmps43
    go_wp2
    go_ret
    exact ⟨rfl, below_alloc _⟩
theorem fitsR (h0 : 0 ≤ n) (h1 : n < 18446744073709551616) (hl : len ≤ 9223372036854775807) (hm : lm ≤ 9223372036854775807) : Calls Tryz.prog 47 #[.int .i64 k, .agg #[.int .u64 n, .slice a len cap, .slice am lm cm]] w fun e w' => e = .returned (.bool (vfit k n len lm)) ∧ Below w.heap.size w w' := by
  by_cases hk1 : k < 1
  · rw [vfit_k (.inl hk1)]
    go_enter Tryz.func47, Tryz.ntmps47
    go_wp2
    go_ret
    exact ⟨rfl, below_alloc _⟩
  by_cases hk2 : 16 < k
  · rw [vfit_k (.inr hk2)]
    go_enter Tryz.func47, Tryz.ntmps47
    go_wp2
    go_ret
    exact ⟨rfl, below_alloc _⟩
  by_cases hm0 : lm = 0
  · subst hm0
    by_cases h14 : k = 14
    · subst h14
      rw [vfit_14]
      go_enter Tryz.func47, Tryz.ntmps47
      go_wp2
      go_ret
      exact ⟨rfl, below_alloc _⟩
    by_cases h15 : k = 15
    · subst h15
      rw [vfit_15]
      go_enter Tryz.func47, Tryz.ntmps47
      go_wp2
      go_ret
      exact ⟨rfl, below_alloc _⟩
    have e14 : (k == 14) = false := by simpa using h14
    have e15 : (k == 15) = false := by simpa using h15
    by_cases hb : len = 0
    · subst hb
      rw [vfit_n h14 h15, nfit_h (by omega) (by omega) h14 h15]
      clear h14 h15
      go_enter Tryz.func47, Tryz.ntmps47
      go_wp2_with (go_at_call 82; refine (holdsR k n _ h0 h1).mono ?_; rintro e w' ⟨rfl, rfl⟩)
      go_ret
      exact ⟨rfl, below_alloc _⟩
    · rw [vfit_b hb h14 h15]
      have eb : ((len : Int) == 0) = false := by simpa using hb
      clear h14 h15 hb
      go_enter Tryz.func47, Tryz.ntmps47
      go_wp2
      go_ret
      exact ⟨rfl, below_alloc _⟩
  · rw [vfit_m hm0]
    have em : 0 < (lm : Int) := by omega
    clear hm0
    go_enter Tryz.func47, Tryz.ntmps47
    go_wp2
    go_ret
    exact ⟨rfl, below_alloc _⟩

theorem validR (xs : List Int) (h : Reads w a len cap xs) (hreach : len ≤ 140737488355328) : Calls Tryz.prog 48 #[.slice a len cap] w fun e w' => e = .returned (.bool (decide (0 ≤ rn xs))) ∧ w = w' := by
  go_enter Tryz.func48, Tryz.ntmps48
  go_wp2_with (go_at_call 83; refine (refRunesR a len cap xs _ h hreach).mono ?_; rintro e w' ⟨rfl, rfl⟩)
  go_ret
  exact ⟨rfl, rfl⟩

theorem flt_k {xs : List Int} (h : kone k = false) : flt k n xs lm = 18 := by unfold flt; rw [if_pos h]
theorem flt_v {xs : List Int} (h : kone k = true) (hv : vfit k n xs.length lm = false) : flt k n xs lm = 7 := by unfold flt; rw [if_neg (by simp [h]), if_pos hv]
theorem flt_t {xs : List Int} (hv : vfit 14 n xs.length lm = true) (hr : rn xs < 0) : flt 14 n xs lm = 8 := by unfold flt; rw [if_neg (by decide), if_neg (by simp [hv]), if_pos ⟨rfl, hr⟩]
theorem flt_0 {xs : List Int} (h : kone k = true) (hv : vfit k n xs.length lm = true) (hr : ¬ (k = 14 ∧ rn xs < 0)) : flt k n xs lm = 0 := by unfold flt; rw [if_neg (by simp [h]), if_neg (by simp [hv]), if_neg hr]
theorem faultW (xs : List Int) (h0 : 0 ≤ n) (h1 : n < 18446744073709551616) (h : Reads w a len cap xs) (hm : lm ≤ 9223372036854775807) : Calls Tryz.prog 25 #[.int .i64 k, .agg #[.int .u64 n, .slice a len cap, .slice am lm cm]] w fun e w' => e = .returned (.int .i64 (flt k n xs lm)) ∧ Below w.heap.size w w' := by
  have hlen := h.length
  have HF := hid (fun W => fitsW k n a am len cap lm cm W h0 h1 (by have := h.le; have := h.max; omega) hm)
  have HS := hid (fun W => singleW k W)
  have HR := hid h
  clear h
  cases hk : kone k with
  | false =>
    have e := flt_k k n lm (xs := xs) hk
    have H := hid e
    rw [hk] at HS
    clear e hk
    go_enter Tryz.func25, Tryz.ntmps25
    go_wp2_with (go_at_call 37; refine (HS.out _).mono ?_; rintro e w' ⟨rfl, rfl⟩)
    go_ret
    exact ⟨ret_int H.out.symm, below_alloc _⟩
  | true =>
    rw [hk] at HS
    cases hv : vfit k n len lm with
    | false =>
      have H := hid (flt_v k n lm (xs := xs) hk (by rw [hlen]; exact hv))
      rw [hv] at HF
      clear hk hv
      go_enter Tryz.func25, Tryz.ntmps25
      go_wp2_with (first | (go_at_call 37; refine (HS.out _).mono ?_; rintro e w' ⟨rfl, rfl⟩) | (go_at_call 43; refine (HF.out _).mono ?_; rintro e w2 ⟨rfl, hb2⟩; replace hb2 := hid hb2))
      go_ret
      exact ⟨ret_int H.out.symm, below_trans (below_alloc _) hb2.out⟩
    | true =>
      rw [hv] at HF
      by_cases h14 : k = 14
      · subst h14
        have HV := hid (fun W (hw : Reads W a len cap xs) => validW a len cap xs W hw)
        have hr : rn xs < 0 ∨ 0 ≤ rn xs := by omega
        obtain ⟨b, hb, H⟩ : ∃ b, decide (0 ≤ rn xs) = b ∧ Hid ((bif b then 0 else 8) = flt 14 n xs lm) := by
          rcases hr with hr | hr
          · exact ⟨false, by simpa using hr, hid (flt_t n lm (xs := xs) (by rw [hlen]; exact hv) (by omega)).symm⟩
          · exact ⟨true, by simpa using hr, hid (flt_0 14 n lm (xs := xs) hk (by rw [hlen]; exact hv) (by omega)).symm⟩
        rw [hb] at HV
        clear hk hv hr hb
        cases b
        all_goals
          go_enter Tryz.func25, Tryz.ntmps25
          go_wp2_with (first | (go_at_call 37; refine (HS.out _).mono ?_; rintro e w' ⟨rfl, rfl⟩) | (go_at_call 43; refine (HF.out _).mono ?_; rintro e w2 ⟨rfl, hb2⟩; obtain ⟨c0, c1, c2⟩ := vcells hb2; replace hb2 := hid hb2) | (go_at_call 63; refine (HV.out _ (reads_kept (reads_kept HR.out (below_alloc _)) hb2.out)).mono ?_; rintro e w3 ⟨rfl, hb3⟩; replace hb3 := hid hb3))
          go_ret
          exact ⟨ret_int H.out, below_trans (below_trans (below_alloc _) hb2.out) hb3.out⟩
      · have H := hid (flt_0 k n lm (xs := xs) hk (by rw [hlen]; exact hv) (by omega))
        have e14 : (k == 14) = false := by simpa using h14
        clear hk hv h14
        go_enter Tryz.func25, Tryz.ntmps25
        go_wp2_with (first | (go_at_call 37; refine (HS.out _).mono ?_; rintro e w' ⟨rfl, rfl⟩) | (go_at_call 43; refine (HF.out _).mono ?_; rintro e w2 ⟨rfl, hb2⟩; replace hb2 := hid hb2))
        go_ret
        exact ⟨ret_int H.out.symm, below_trans (below_alloc _) hb2.out⟩
end
end Go.Proofs.YtcenkalhklpajaaGreatDoor
