/-
  Walks over the document's Unquote.
-/
import Derived.Test.YtlkdcdmdkncjoaaDoorJJ
import Derived.Laws.Runes
namespace Go.Proofs.YtlkdcdmdkncjoaaDoor
open Go.RowKit
set_option maxRecDepth 1000000

theorem hexR (c : Int) (w : World) (h0 : 0 ≤ c) (h1 : c ≤ 255) : Calls Tryd.prog 33 #[.int .u8 c] w fun e w' => e = .returned (.int .i64 (hx c)) ∧ w = w' := by
  by_cases d1 : 48 ≤ c ∧ c ≤ 57
  · have e : Hid (c - 48 = hx c) := hid (by unfold hx; rw [if_pos d1])
    obtain ⟨x1, x2⟩ := d1
    go_enter Tryd.func33, Tryd.ntmps33
    go_wp2
    go_ret
    exact ⟨ret_int e.out, rfl⟩
  by_cases d2 : 97 ≤ c ∧ c ≤ 102
  · have e : Hid (c - 87 = hx c) := hid (by unfold hx; rw [if_neg d1, if_pos d2])
    obtain ⟨x1, x2⟩ := d2
    clear d1
    go_enter Tryd.func33, Tryd.ntmps33
    go_wp2
    go_ret
    exact ⟨ret_int e.out, rfl⟩
  by_cases d3 : 65 ≤ c ∧ c ≤ 70
  · have e : Hid (c - 55 = hx c) := hid (by unfold hx; rw [if_neg d1, if_neg d2, if_pos d3])
    obtain ⟨x1, x2⟩ := d3
    clear d1 d2
    go_enter Tryd.func33, Tryd.ntmps33
    go_wp2
    go_ret
    exact ⟨ret_int e.out, rfl⟩
  · have e : Hid (-1 = hx c) := hid (by unfold hx; rw [if_neg d1, if_neg d2, if_neg d3])
    go_enter Tryd.func33, Tryd.ntmps33
    go_wp2
    all_goals first
      | omega
      | (go_ret; exact ⟨ret_int e.out, rfl⟩)

theorem pt_drop {P : List Int} {k : Nat} (h : k < P.length) : qpart (P.drop k) = if P[k]?.getD 0 = 34 ∨ P[k]?.getD 0 = 10 then (0, 0) else if P[k]?.getD 0 = 92 then sgP (P.drop (k + 1)) else (P[k]?.getD 0, 1) := by
  rw [drop_at h, qpart]
theorem sgP_drop {P : List Int} {k : Nat} (h : k < P.length) : sgP (P.drop k) = if P[k]?.getD 0 = 34 ∨ P[k]?.getD 0 = 92 then (P[k]?.getD 0, 2) else if P[k]?.getD 0 = 110 then (10, 2) else if P[k]?.getD 0 = 116 then (9, 2) else if P[k]?.getD 0 = 114 then (13, 2) else if P[k]?.getD 0 = 120 then dgP (P.drop (k + 1)) else (0, 0) := by
  rw [drop_at h, sgP]
theorem sgP_end {P : List Int} {k : Nat} (h : ¬ k < P.length) : sgP (P.drop k) = (0, 0) := by
  rw [List.drop_eq_nil_of_le (by omega)]; rfl
theorem dgP_drop {P : List Int} {k : Nat} (h : k + 1 < P.length) : dgP (P.drop k) = if hx (P[k]?.getD 0) < 0 ∨ hx (P[k + 1]?.getD 0) < 0 then (0, 0) else (hx (P[k]?.getD 0) * 16 + hx (P[k + 1]?.getD 0), 4) := by
  rw [drop_at (by omega), drop_at h]
  rfl
theorem dgP_end {P : List Int} {k : Nat} (h : ¬ k + 1 < P.length) : dgP (P.drop k) = (0, 0) := by
  have : (P.drop k).length < 2 := by simp; omega
  match hd : P.drop k with
  | [] => rfl
  | [_] => rfl
  | _ :: _ :: _ => rw [hd] at this; simp at this; omega
theorem parts_at {xs : List Int} {m k : Nat} (h : xs.length = m + 2) (hk : k < m) : xs[k + 1]?.getD 0 = (parts xs)[k]?.getD 0 := by
  unfold parts
  rw [List.getElem?_take_of_lt (by omega), List.getElem?_drop, Nat.add_comm 1 k]

/-- What the callers of the document's Unquote are told. -/
def RefUnq (w : World) (g : Option (List Int)) (e : Ending) (w' : World) : Prop := match g with
  | none => e = .returned (.tuple #[.slice none 0 0, .bool false]) ∧ Below w.heap.size w w'
  | some ys => ∃ a c, e = .returned (.tuple #[.slice a ys.length c, .bool true]) ∧ Reads w' a ys.length c ys ∧ Below w.heap.size w w' ∧ ∀ x, a = some x → w.heap.size ≤ x.block

/-- How far the loop is: the place, the bytes so far. -/
def Unq (w : World) (xs : List Int) (m : Nat) (o r : Value) (wr : World) : Prop := ∃ (k f n : Nat) (acc : List Int), k ≤ m ∧ r = .int .i64 ((k : Int) + 1) ∧ n ≤ k ∧ m ≤ k + f ∧ Hid (acc.length = n) ∧ Hid (wr.ownsRow w.heap.size 5 1 o n (acc.map (Value.int .u8))) ∧ Hid (∀ x ∈ acc, 0 ≤ x ∧ x ≤ 255) ∧ Hid (uqF f ((parts xs).drop k) acc = uq xs) ∧ Hid (Below w.heap.size w wr)
theorem unq_next {w wr w' : World} {xs acc : List Int} {m k f n sz : Nat} {o o' : Value} {x : Int} {r : Value} (hk : k < m) (hn : n ≤ k) (hf : m ≤ k + (f + 1)) (HN : acc.length = n) (HA : ∀ x ∈ acc, 0 ≤ x ∧ x ≤ 255) (HPl : (parts xs).length = m) (HPb : ∀ x ∈ parts xs, 0 ≤ x ∧ x ≤ 255)
    (HQ : uqF (f + 1) ((parts xs).drop k) acc = uq xs) (HO : wr.ownsRow w.heap.size 5 1 o n (acc.map (Value.int .u8))) (HB : Below w.heap.size w wr) (hp : qpart ((parts xs).drop k) = (x, sz)) (hz : sz ≠ 0)
    (ho' : w'.ownsRow w.heap.size 5 1 o' (n + 1) (acc.map (Value.int .u8) ++ [.int .u8 x])) (hg' : Grow wr w' o o') (hr : r = .int .i64 (((k + sz : Nat) : Int) + 1)) : Unq w xs m o' r w' := by
  have hb := pt_both (l := (parts xs).drop k) (fun x hx => HPb x (List.mem_of_mem_drop hx))
  rw [hp, List.length_drop, HPl] at hb
  refine ⟨k + sz, f, n + 1, acc ++ [x], by simp only at hb; omega, hr, by omega, by omega, hid (by rw [List.length_append, HN]; rfl), hid (by rw [List.map_append]; exact ho'), hid (fun y hy => ?_), hid ?_, hid (HB.trans (hg'.below HB.size (fun j hj => (HO.lt j hj).1)))⟩
  · rcases List.mem_append.1 hy with hy | hy
    · exact HA y hy
    · simp at hy; subst hy; exact hb.1
  · have := uq_step (P := parts xs) (k := k) (f := f) (acc := acc) (by omega) (by rw [hp]; exact hz)
    rw [hp] at this
    rw [← HQ, this]
theorem unq_none {w wr : World} {xs acc : List Int} {m k f : Nat} {x : Int} (hk : k < m) (HPl : (parts xs).length = m) (HQ : uqF (f + 1) ((parts xs).drop k) acc = uq xs) (HB : Below w.heap.size w wr) (hp : qpart ((parts xs).drop k) = (x, 0)) :
    RefUnq w (uq xs) (.returned (.tuple #[.slice none 0 0, .bool false])) wr := by
  rw [← HQ, uq_bad (by omega) (by rw [hp])]
  exact ⟨rfl, HB⟩

set_option maxRecDepth 100000 in
set_option maxHeartbeats 4000000 in
theorem refUnqLoop (xs : List Int) (n0 m : Nat) (w : World) (hb : ∀ x ∈ xs, 0 ≤ x ∧ x ≤ 255) (hn : xs.length = n0) (hlen : n0 = m + 2) (hm : m + 2 ≤ 4194304) (h0 : xs[0]?.getD 0 = 34) (h1 : xs[m + 1]?.getD 0 = 34) :
    Calls Tryd.prog 20 #[.string (strOfNums xs)] w fun e w' => RefUnq w (uq xs) e w' := by
  have hs : (strOfNums xs).size = n0 := by rw [strOfNums_size, hn]
  have hpl : (parts xs).length = m := by rw [parts_len, hn, hlen]; rfl
  have i0 : ∀ (k : IntKind) (W : World), (Instr.index 9 (.string (strOfNums xs)) (.int k 0)).run Tryd.prog W = .ok (.int .u8 34) W := fun k W => by rw [← h0]; exact index_str hb 0 (by omega) k W
  have i1 : ∀ (k : IntKind) (W : World), (Instr.index 9 (.string (strOfNums xs)) (.int k ((n0 : Int) - 1))).run Tryd.prog W = .ok (.int .u8 34) W := fun k W => by
    have := index_str hb (m + 1) (by omega) k W
    rw [h1, show ((m + 1 : Nat) : Int) = (n0 : Int) - 1 by omega] at this
    exact this
  have HIx : Hid (∀ (j : Nat), j < m → ∀ (p : Int), p = (j : Int) + 1 → ∀ (k : IntKind) (W : World), (Instr.index 9 (.string (strOfNums xs)) (.int k p)).run Tryd.prog W = .ok (.int .u8 ((parts xs)[j]?.getD 0)) W) := hid fun j hj p hp k W => by
    have := index_str hb (j + 1) (by omega) k W
    rw [parts_at (hn.trans hlen) hj] at this
    rw [hp]
    exact this
  have HU : Hid (uqF m (parts xs) [] = uq xs) := hid (by
    unfold uq
    rw [if_neg ?_, hpl]
    rw [List.getD_eq_getElem?_getD, List.getD_eq_getElem?_getD, hn, hlen, h0, show m + 2 - 1 = m + 1 by omega, h1]
    simp)
  have HPb := hid (parts_bd hb)
  have HGet : Hid (∀ j : Nat, (0 : Int) ≤ (parts xs)[j]?.getD 0 ∧ (parts xs)[j]?.getD 0 ≤ 255) := hid fun j => by have := bd_get HPb.out j; rwa [List.getD_eq_getElem?_getD] at this
  have hm1 : (n0 : Int) ≤ 4194304 := by omega
  have hm2 : (2 : Int) ≤ (n0 : Int) := by omega
  have hend : (n0 : Int) - 1 = (m : Int) + 1 := by omega
  have HPl := hid hpl
  have Hend := hid hend
  have hm3 : (m : Int) ≤ 4194304 := by omega
  clear hb hlen h0 h1 hpl hn hm hend
  go_enter Tryd.func20, Tryd.ntmps20
  go_wp2
  rw [Hend.out]
  go_loopw [4, 6] (fun o r wr => Unq w xs m o r wr) (fun _ r _ => m + 1 - (intOf r).toNat)
  case atStart => exact ⟨0, m, 0, [], by omega, rfl, by omega, by omega, hid rfl, hid (World.ownsRow_nil _ _ _ _), hid (by simp), hid HU.out, hid (Below.refl _ _)⟩
  case round =>
    obtain ⟨k, f, n, acc, hk, rfl, hn, hf, HN, HO, HA, HQ, HB⟩ := hrel
    by_cases hlt : k < m
    · obtain ⟨f, rfl⟩ : ∃ f', f = f' + 1 := ⟨f - 1, by omega⟩
      have HPt := hid (pt_drop (P := parts xs) (k := k) (by rw [HPl.out]; exact hlt))
      have hcb := HGet.out k
      have ix : ∀ (kk : IntKind) (W : World), (Instr.index 9 (.string (strOfNums xs)) (.int kk ((k : Int) + 1))).run Tryd.prog W = .ok (.int .u8 ((parts xs)[k]?.getD 0)) W := HIx.out k hlt _ rfl
      obtain ⟨c, hcc⟩ : ∃ c, (parts xs)[k]?.getD 0 = c := ⟨_, rfl⟩
      rw [hcc] at ix hcb HPt
      have hb0 := hcb.1
      have hb1 := hcb.2
      clear hcc hcb
      by_cases c34 : c = 34
      · subst c34
        have HF := hid (unq_none (x := 0) hlt HPl.out HQ.out HB.out (by rw [HPt.out]; rfl))
        clear HPt
        go_wp2
        try rw [Exit.noGoto_ret]
        go_ret2
        exact HF.out
      by_cases c10 : c = 10
      · subst c10
        have HF := hid (unq_none (x := 0) hlt HPl.out HQ.out HB.out (by rw [HPt.out]; rfl))
        clear HPt
        go_wp2
        try rw [Exit.noGoto_ret]
        go_ret2
        exact HF.out
      have e34 : (c == 34) = false := by simpa using c34
      have e10 : (c == 10) = false := by simpa using c10
      by_cases c92 : c = 92
      · subst c92
        have HPs : Hid (qpart ((parts xs).drop k) = sgP ((parts xs).drop (k + 1))) := hid (by rw [HPt.out]; rfl)
        clear HPt
        by_cases hlast : k + 1 < m
        · have HSg := hid (sgP_drop (P := parts xs) (k := k + 1) (by rw [HPl.out]; exact hlast))
          have hdb := HGet.out (k + 1)
          have iy : ∀ (kk : IntKind) (W : World), (Instr.index 9 (.string (strOfNums xs)) (.int kk ((k : Int) + 1 + 1))).run Tryd.prog W = .ok (.int .u8 ((parts xs)[k + 1]?.getD 0)) W := HIx.out (k + 1) hlast _ (by omega)
          obtain ⟨d, hdd⟩ : ∃ d, (parts xs)[k + 1]?.getD 0 = d := ⟨_, rfl⟩
          rw [hdd] at iy hdb HSg
          have hd0 := hdb.1
          have hd1 := hdb.2
          have hki : (k : Int) + 1 < (m : Int) := by omega
          clear hdd hdb
          by_cases d34 : d = 34
          · subst d34
            obtain ⟨v', w3, hr3, ho3, hg3⟩ := append_byte w.heap.size _ n _ wr 34 HO.out HB.out.size (by omega)
            have HR3 := hid hr3
            have HO3 := hid ho3
            have HG3 := hid hg3
            have HP2 : Hid (qpart ((parts xs).drop k) = (34, 2)) := hid (by rw [HPs.out, HSg.out]; rfl)
            clear hr3 ho3 hg3 HPs HSg
            go_wp2_with (first | (at_builtin; refine wpList_append_ran rfl _ _ 30 30 rfl rfl _ _ v' w3 rfl rfl HR3.out ?_))
            exact ⟨unq_next (sz := 2) hlt hn hf HN.out HA.out HPl.out HPb.out HQ.out HO.out HB.out HP2.out (by decide) HO3.out HG3.out (by go_num), by simp [intOf]; omega⟩
          by_cases d92 : d = 92
          · subst d92
            obtain ⟨v', w3, hr3, ho3, hg3⟩ := append_byte w.heap.size _ n _ wr 92 HO.out HB.out.size (by omega)
            have HR3 := hid hr3
            have HO3 := hid ho3
            have HG3 := hid hg3
            have HP2 : Hid (qpart ((parts xs).drop k) = (92, 2)) := hid (by rw [HPs.out, HSg.out]; rfl)
            clear hr3 ho3 hg3 HPs HSg
            go_wp2_with (first | (at_builtin; refine wpList_append_ran rfl _ _ 30 30 rfl rfl _ _ v' w3 rfl rfl HR3.out ?_))
            exact ⟨unq_next (sz := 2) hlt hn hf HN.out HA.out HPl.out HPb.out HQ.out HO.out HB.out HP2.out (by decide) HO3.out HG3.out (by go_num), by simp [intOf]; omega⟩
          by_cases d110 : d = 110
          · subst d110
            obtain ⟨v', w3, hr3, ho3, hg3⟩ := append_byte w.heap.size _ n _ wr 10 HO.out HB.out.size (by omega)
            have HR3 := hid hr3
            have HO3 := hid ho3
            have HG3 := hid hg3
            have HP2 : Hid (qpart ((parts xs).drop k) = (10, 2)) := hid (by rw [HPs.out, HSg.out]; rfl)
            clear hr3 ho3 hg3 HPs HSg
            go_wp2_with (first | (at_builtin; refine wpList_append_ran rfl _ _ 30 30 rfl rfl _ _ v' w3 rfl rfl HR3.out ?_))
            exact ⟨unq_next (sz := 2) hlt hn hf HN.out HA.out HPl.out HPb.out HQ.out HO.out HB.out HP2.out (by decide) HO3.out HG3.out (by go_num), by simp [intOf]; omega⟩
          by_cases d116 : d = 116
          · subst d116
            obtain ⟨v', w3, hr3, ho3, hg3⟩ := append_byte w.heap.size _ n _ wr 9 HO.out HB.out.size (by omega)
            have HR3 := hid hr3
            have HO3 := hid ho3
            have HG3 := hid hg3
            have HP2 : Hid (qpart ((parts xs).drop k) = (9, 2)) := hid (by rw [HPs.out, HSg.out]; rfl)
            clear hr3 ho3 hg3 HPs HSg
            go_wp2_with (first | (at_builtin; refine wpList_append_ran rfl _ _ 30 30 rfl rfl _ _ v' w3 rfl rfl HR3.out ?_))
            exact ⟨unq_next (sz := 2) hlt hn hf HN.out HA.out HPl.out HPb.out HQ.out HO.out HB.out HP2.out (by decide) HO3.out HG3.out (by go_num), by simp [intOf]; omega⟩
          by_cases d114 : d = 114
          · subst d114
            obtain ⟨v', w3, hr3, ho3, hg3⟩ := append_byte w.heap.size _ n _ wr 13 HO.out HB.out.size (by omega)
            have HR3 := hid hr3
            have HO3 := hid ho3
            have HG3 := hid hg3
            have HP2 : Hid (qpart ((parts xs).drop k) = (13, 2)) := hid (by rw [HPs.out, HSg.out]; rfl)
            clear hr3 ho3 hg3 HPs HSg
            go_wp2_with (first | (at_builtin; refine wpList_append_ran rfl _ _ 30 30 rfl rfl _ _ v' w3 rfl rfl HR3.out ?_))
            exact ⟨unq_next (sz := 2) hlt hn hf HN.out HA.out HPl.out HPb.out HQ.out HO.out HB.out HP2.out (by decide) HO3.out HG3.out (by go_num), by simp [intOf]; omega⟩
          by_cases d120 : d = 120
          · subst d120
            have HPd : Hid (qpart ((parts xs).drop k) = dgP ((parts xs).drop (k + 2))) := hid (by rw [HPs.out, HSg.out]; rfl)
            clear HPs HSg
            by_cases hfit : k + 3 < m
            · have HDg := hid (dgP_drop (P := parts xs) (k := k + 2) (by rw [HPl.out]; omega))
              have ia : ∀ (kk : IntKind) (W : World), (Instr.index 9 (.string (strOfNums xs)) (.int kk ((k : Int) + 1 + 1 + 1))).run Tryd.prog W = .ok (.int .u8 ((parts xs)[k + 2]?.getD 0)) W := HIx.out (k + 2) (by omega) _ (by omega)
              have ib : ∀ (kk : IntKind) (W : World), (Instr.index 9 (.string (strOfNums xs)) (.int kk ((k : Int) + 1 + 1 + 2))).run Tryd.prog W = .ok (.int .u8 ((parts xs)[k + 3]?.getD 0)) W := HIx.out (k + 3) (by omega) _ (by omega)
              have hab := HGet.out (k + 2)
              have hbb := HGet.out (k + 3)
              rw [show k + 2 + 1 = k + 3 by omega] at HDg
              obtain ⟨a, haa⟩ : ∃ a, (parts xs)[k + 2]?.getD 0 = a := ⟨_, rfl⟩
              obtain ⟨b, hbe⟩ : ∃ b, (parts xs)[k + 3]?.getD 0 = b := ⟨_, rfl⟩
              rw [haa] at ia hab HDg
              rw [hbe] at ib hbb HDg
              have HXa := hid hab
              have HXb := hid hbb
              have ra := hx_range a
              have rb := hx_range b
              have hki3 : (k : Int) + 3 < (m : Int) := by omega
              clear haa hbe hab hbb
              by_cases na : hx a < 0
              · have HF := hid (unq_none (x := 0) hlt HPl.out HQ.out HB.out (by rw [HPd.out, HDg.out, if_pos (.inl na)]))
                clear HDg HPd
                go_wp2_with (first
                  | (go_at_call_of 33 a; refine (hexR a _ HXa.out.1 HXa.out.2).mono ?_; rintro e w' ⟨rfl, rfl⟩)
                  | (go_at_call_of 33 b; refine (hexR b _ HXb.out.1 HXb.out.2).mono ?_; rintro e w' ⟨rfl, rfl⟩))
                try rw [Exit.noGoto_ret]
                go_ret2
                exact HF.out
              by_cases nb : hx b < 0
              · have HF := hid (unq_none (x := 0) hlt HPl.out HQ.out HB.out (by rw [HPd.out, HDg.out, if_pos (.inr nb)]))
                clear HDg HPd
                go_wp2_with (first
                  | (go_at_call_of 33 a; refine (hexR a _ HXa.out.1 HXa.out.2).mono ?_; rintro e w' ⟨rfl, rfl⟩)
                  | (go_at_call_of 33 b; refine (hexR b _ HXb.out.1 HXb.out.2).mono ?_; rintro e w' ⟨rfl, rfl⟩))
                try rw [Exit.noGoto_ret]
                go_ret2
                exact HF.out
              have hmod : (hx a * 16 + hx b) % 256 = hx a * 16 + hx b := by omega
              have hdr : Below wr.heap.size wr wr.drew := ⟨rfl, rfl, rfl, Nat.le_refl _, fun _ _ => rfl⟩
              obtain ⟨v', w3, hr3, ho3, hg3⟩ := append_byte w.heap.size _ n _ wr.drew (hx a * 16 + hx b) (own_kept HO.out hdr) HB.out.size (by omega)
              have HR3 := hid hr3
              have HO3 := hid ho3
              have HG3 := hid ((Grow.ofBelow hdr).trans hg3)
              have HP2 : Hid (qpart ((parts xs).drop k) = ((hx a * 16 + hx b), 4)) := hid (by rw [HPd.out, HDg.out, if_neg (by omega)])
              have hw1 : IntKind.i64.wrap ((k : Int) + 1 + 1 + 1) = (k : Int) + 1 + 1 + 1 := wrap_small _ (by omega) (by omega)
              have hw2 : IntKind.i64.wrap ((k : Int) + 1 + 1 + 2) = (k : Int) + 1 + 1 + 2 := wrap_small _ (by omega) (by omega)
              have hw3 : IntKind.i64.wrap (hx a * 16) = hx a * 16 := wrap_small _ (by omega) (by omega)
              have hw4 : IntKind.i64.wrap (hx a * 16 + hx b) = hx a * 16 + hx b := wrap_small _ (by omega) (by omega)
              have hw5 : IntKind.u8.wrap (hx a * 16 + hx b) = hx a * 16 + hx b := by rw [byte_of]; exact hmod
              clear hr3 ho3 hg3 HPd HDg hdr
              go_wp2_with (first
                | (go_at_call_of 33 a; refine (hexR a _ HXa.out.1 HXa.out.2).mono ?_; rintro e w' ⟨rfl, rfl⟩)
                | (go_at_call_of 33 b; refine (hexR b _ HXb.out.1 HXb.out.2).mono ?_; rintro e w' ⟨rfl, rfl⟩))
              go_region_law (first
                | (refine step_append_ran rfl _ _ 30 30 rfl rfl _ _ v' w3 rfl rfl HR3.out ?_)
                | (go_simp; go_wp2_with (first
                  | (go_at_call_of 33 a; refine (hexR a _ HXa.out.1 HXa.out.2).mono ?_; rintro e w' ⟨rfl, rfl⟩)
                  | (go_at_call_of 33 b; refine (hexR b _ HXb.out.1 HXb.out.2).mono ?_; rintro e w' ⟨rfl, rfl⟩))))
              all_goals (try go_wp2)
              all_goals exact ⟨unq_next (sz := 4) hlt hn hf HN.out HA.out HPl.out HPb.out HQ.out HO.out HB.out HP2.out (by decide) HO3.out HG3.out (by go_num), by simp [intOf]; omega⟩
            · have HF := hid (unq_none (x := 0) hlt HPl.out HQ.out HB.out (by rw [HPd.out, dgP_end (by rw [HPl.out]; omega)]))
              have hki3 : ¬ (k : Int) + 3 < (m : Int) := by omega
              clear HPd
              go_wp2
              try rw [Exit.noGoto_ret]
              go_ret2
              exact HF.out
          have HF := hid (unq_none (x := 0) hlt HPl.out HQ.out HB.out (by rw [HPs.out, HSg.out, if_neg (by omega), if_neg d110, if_neg d116, if_neg d114, if_neg d120]))
          have f1 : (d == 34) = false := by simpa using d34
          have f2 : (d == 92) = false := by simpa using d92
          have f3 : (d == 110) = false := by simpa using d110
          have f4 : (d == 116) = false := by simpa using d116
          have f5 : (d == 114) = false := by simpa using d114
          have f6 : (d == 120) = false := by simpa using d120
          clear HPs HSg d34 d92 d110 d116 d114 d120
          go_wp2
          try rw [Exit.noGoto_ret]
          go_ret2
          exact HF.out
        · have HF := hid (unq_none (x := 0) hlt HPl.out HQ.out HB.out (by rw [HPs.out, sgP_end (by rw [HPl.out]; exact hlast)]))
          have hki : ¬ (k : Int) + 1 < (m : Int) := by omega
          clear HPs
          go_wp2
          try rw [Exit.noGoto_ret]
          go_ret2
          exact HF.out
      · have e92 : (c != 92) = true := by simpa using c92
        obtain ⟨v', w3, hr3, ho3, hg3⟩ := append_byte w.heap.size _ n _ wr c HO.out HB.out.size (by omega)
        have HR3 := hid hr3
        have HO3 := hid ho3
        have HG3 := hid hg3
        have HP2 : Hid (qpart ((parts xs).drop k) = (c, 1)) := hid (by rw [HPt.out, if_neg (by omega), if_neg c92])
        clear hr3 ho3 hg3 HPt c34 c10 c92
        go_wp2_with (first | (at_builtin; refine wpList_append_ran rfl _ _ 30 30 rfl rfl _ _ v' w3 rfl rfl HR3.out ?_))
        exact ⟨unq_next (sz := 1) hlt hn hf HN.out HA.out HPl.out HPb.out HQ.out HO.out HB.out HP2.out (by decide) HO3.out HG3.out (by go_num), by simp [intOf]; omega⟩
    · obtain ⟨a3, c3, e3, hrd⟩ := own_reads HO.out HA.out
      subst e3
      have HE : Hid (uq xs = some acc) := hid (by rw [← HQ.out, uq_end (by rw [HPl.out]; exact hlt)])
      have HRd := hid hrd
      have hki : ¬ (k : Int) < (m : Int) := by omega
      clear hrd HQ
      go_wp2
      go_ret2
      rw [HE.out]
      exact ⟨a3, c3, by rw [HN.out]; rfl, by rw [HN.out]; exact HRd.out, HB.out, fun x hx => by subst hx; exact (HO.out.lt _ rfl).1⟩
end Go.Proofs.YtlkdcdmdkncjoaaDoor
