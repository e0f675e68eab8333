/-
  The walk over the document's counting of characters.
  Compare: the document's walk.
  A symbol by its number, by its name: what the program answers.
  Symbol, Number: what the program and the document answer.
  A name's names (the document's).
-/
import Derived.Test.YtnfdlnelfnigdaaGreatDoorCAO
import Derived.Test.YtnfdlnelfnigdaaGreatDoorCTY0
import Derived.Test.YtnfdlnelfnigdaaGreatDoorCAH
namespace Go.Proofs.YtnfdlnelfnigdaaGreatDoor
open Go.RowKit
set_option maxRecDepth 1000000
theorem drop_at {xs : List Int} {j : Nat} (h : j < xs.length) : xs.drop j = xs[j]?.getD 0 :: xs.drop (j + 1) := by
  rw [List.drop_eq_getElem_cons h]
  simp [h]
theorem refRunesZero (a : Option Addr) (cap : Nat) (w : World) :
    Calls Tryz.prog 122 #[.slice a 0 cap] w fun e w' => e = .returned (.int .i64 0) ∧ w = w' := by
  go_enter Tryz.func122, Tryz.ntmps122
  go_wp2
  refine wp_loop_rounds 1 ?_
  rw [rounds_succ]
  go_wp2
  go_ret
  exact ⟨rfl, rfl⟩
theorem chr_at {xs : List Int} {pos : Nat} (h : pos < xs.length) : chr (xs.drop pos) = if szF (xs[pos]?.getD 0) = 0 then 0 else if okV (ctF (xs.drop (pos + 1)) (szF (xs[pos]?.getD 0) - 1) (v0F (xs[pos]?.getD 0))) (lowF (xs[pos]?.getD 0)) then szF (xs[pos]?.getD 0) else 0 := by
  rw [drop_at h, chr_cons]
theorem ct_bad {xs : List Int} {j n : Nat} {V : Int} (h : j < xs.length) (hd : xs[j]?.getD 0 < 128 ∨ 192 ≤ xs[j]?.getD 0) : ctF (xs.drop j) (n + 1) V = -1 := by
  rw [drop_at h]; simp [ctF, hd]
theorem ct_step {xs : List Int} {j n : Nat} {V : Int} (h : j < xs.length) (hd : ¬ (xs[j]?.getD 0 < 128 ∨ 192 ≤ xs[j]?.getD 0)) : ctF (xs.drop j) (n + 1) V = ctF (xs.drop (j + 1)) n (V * 64 + xs[j]?.getD 0 - 128) := by
  rw [drop_at h]; simp [ctF, hd]
theorem ct_short {xs : List Int} {j n : Nat} {V : Int} (h : xs.length < j + n) (hj : j ≤ xs.length) (hV : 0 ≤ V) : ¬ 0 ≤ ctF (xs.drop j) n V := fun hh => by
  have := ctF_len n _ V hV hh
  simp at this
  omega
section
variable {xs : List Int} {pos b sz : Nat} {acc c : Int}
/-- What a character that was read, or one that could not be read, says of the whole count. -/
theorem rn_ok (hp : pos < xs.length) (hc : xs[pos]?.getD 0 = c) (hs : szF c = sz) (h0 : sz ≠ 0) {V : Int} (hV : ctF (xs.drop (pos + 1)) (sz - 1) (v0F c) = V) (hok : okV V (lowF c) = true) (HR : rnF (b + 1) (xs.drop pos) acc = rn xs) :
    rnF b (xs.drop (pos + sz)) (acc + 1) = rn xs := by
  have e : chr (xs.drop pos) = sz := by rw [chr_at hp, hc, hs, if_neg h0, hV, hok]; rfl
  rw [← HR, rn_step hp (by rw [e]; exact h0), e]
theorem rn_no (hp : pos < xs.length) (hc : xs[pos]?.getD 0 = c) (h : szF c = 0 ∨ okV (ctF (xs.drop (pos + 1)) (szF c - 1) (v0F c)) (lowF c) = false) (HR : rnF (b + 1) (xs.drop pos) acc = rn xs) : (-1 : Int) = rn xs := by
  have e : chr (xs.drop pos) = 0 := by
    rw [chr_at hp, hc]
    by_cases h0 : szF c = 0
    · rw [if_pos h0]
    · rw [if_neg h0, h.resolve_left h0]; rfl
  rw [← HR, rn_bad hp e]
end
theorem okV_neg {v low : Int} (h0 : 0 ≤ low) (h : ¬ 0 ≤ v) : okV v low = false := by
  rw [Bool.eq_false_iff]; intro hh; have := (okV_iff _ _).1 hh; omega
set_option maxRecDepth 1000000 in
set_option maxHeartbeats 4000000 in
theorem refRunesIn (b off len cap : Nat) (xs : List Int) (w : World) (hl : xs.length = len) (_hlc : len ≤ cap) (_hm : cap ≤ 9223372036854775807) (hreach : len ≤ 140737488355328)
    (hc : ∀ i, i < len → w.cell? ⟨b, off + i, none⟩ = some (.int .u8 (xs.getD i 0))) (hr : ∀ i, 0 ≤ xs.getD i 0 ∧ xs.getD i 0 ≤ 255) :
    Calls Tryz.prog 122 #[.slice (some ⟨b, off, none⟩) len cap] w fun e w' => e = .returned (.int .i64 (rn xs)) ∧ w = w' := by
  have Hl := hid hl
  clear hl
  go_enter Tryz.func122, Tryz.ntmps122
  go_wp2
  go_loop [3, 4] (fun n i => ∃ (pos f : Nat) (acc : Int), n = .int .i64 acc ∧ i = .int .i64 pos ∧ 0 ≤ acc ∧ acc ≤ pos ∧ pos ≤ len ∧ Hid (rnF f (xs.drop pos) acc = rn xs) ∧ len ≤ pos + f) (fun _ i => len - (intOf i).toNat)
  case atStart => exact ⟨0, len, 0, rfl, rfl, by omega, by omega, by omega, by show rnF len (xs.drop 0) 0 = _; rw [List.drop_zero, ← Hl.out]; rfl, by omega⟩
  case round =>
    obtain ⟨pos, f, acc, rfl, rfl, ha0, hap, hpl, HR, hf⟩ := hrel
    by_cases hp : pos < len
    · obtain ⟨f, rfl⟩ : ∃ f', f = f' + 1 := ⟨f - 1, by omega⟩
      obtain ⟨c, hcc⟩ : ∃ c, xs[pos]?.getD 0 = c := ⟨_, rfl⟩
      have hcb : 0 ≤ c ∧ c ≤ 255 := by have := hr pos; rw [List.getD_eq_getElem?_getD, hcc] at this; exact this
      have hck : w.cell? ⟨b, off + pos, none⟩ = some (.int .u8 c) := by rw [hc pos hp, List.getD_eq_getElem?_getD, hcc]
      have Hcc := hid hcc
      have HX : Hid (pos < xs.length) := hid (by rw [Hl.out]; exact hp)
      have hb1 : c ≤ 255 := hcb.2
      have hb0 : 0 ≤ c := hcb.1
      have HC := hid hc
      have HRr := hid hr
      clear hcc hcb hc hr
      by_cases c1 : c < 128
      · have HS : Hid (rnF f (xs.drop (pos + 1)) (acc + 1) = rn xs) := hid (rn_ok (sz := 1) HX.out Hcc.out (by simp [szF, c1]) (by decide) rfl ((okV_iff _ _).2 (by simp [v0F, lowF, c1, ctF]; omega)) HR.out)
        clear HR
        go_wp2
        refine wp_loop_rounds 1 ?_
        rw [rounds_succ]
        go_wp2
        all_goals exact ⟨⟨pos + 1, f, acc + 1, by go_num, by go_num, by omega, by omega, by omega, HS, by omega⟩, by simp [intOf]; omega⟩
      by_cases c2 : c < 192
      · have HM : Hid ((-1 : Int) = rn xs) := hid (rn_no HX.out Hcc.out (.inl (by unfold szF; (repeat' split) <;> omega)) HR.out)
        clear HR
        go_wp2
        try rw [Exit.noGoto_ret]
        go_ret
        exact ⟨ret_int HM.out, rfl⟩
      by_cases c3 : c < 224
      · have hs : szF c = 2 := by unfold szF; (repeat' split) <;> omega
        have hv : v0F c = c - 192 := by unfold v0F; (repeat' split) <;> omega
        have hlw : lowF c = 128 := by unfold lowF; (repeat' split) <;> omega
        have HNo : Hid (okV (ctF (xs.drop (pos + 1)) 1 (c - 192)) 128 = false → (-1 : Int) = rn xs) := hid (fun h => rn_no HX.out Hcc.out (.inr (by rw [hs, hv, hlw]; exact h)) HR.out)
        have HYes : Hid (okV (ctF (xs.drop (pos + 1)) 1 (c - 192)) 128 = true → rnF f (xs.drop (pos + 2)) (acc + 1) = rn xs) := hid (fun h => rn_ok (sz := 2) HX.out Hcc.out hs (by decide) (by rw [hv]) (by rw [hlw]; exact h) HR.out)
        clear HR hs hv hlw
        by_cases hfit : pos + 2 ≤ len
        · go_wp2
          go_loop [7, 9] (fun v k => ∃ (j : Nat) (V : Int), 1 ≤ j ∧ j ≤ 2 ∧ 0 ≤ V ∧ V < 8388608 ∧ (j ≤ 3 → V < 131072) ∧ (j ≤ 2 → V < 2048) ∧ (j ≤ 1 → V < 32) ∧ v = .int .i64 V ∧ k = .int .i64 j ∧ Hid (ctF (xs.drop (pos + j)) (2 - j) V = ctF (xs.drop (pos + 1)) 1 (c - 192))) (fun _ k => 2 - (intOf k).toNat)
          case atStart => exact ⟨1, c - 192, by omega, by omega, by omega, by omega, by omega, by omega, by omega, by first | rfl | go_num, rfl, hid rfl⟩
          case round =>
            obtain ⟨j, V, hj1, hjs, hV0, hV4, hV3, hV2, hV1, rfl, rfl, HT⟩ := hrel
            by_cases hj : j < 2
            · obtain ⟨d, hdd⟩ : ∃ d, xs[pos + j]?.getD 0 = d := ⟨_, rfl⟩
              have hdk : w.cell? ⟨b, off + (pos + j), none⟩ = some (.int .u8 d) := by rw [HC.out (pos + j) (by omega), List.getD_eq_getElem?_getD, hdd]
              have hdb : 0 ≤ d ∧ d ≤ 255 := by have := HRr.out (pos + j); rw [List.getD_eq_getElem?_getD, hdd] at this; exact this
              have hd0 := hdb.1
              have hd1 := hdb.2
              have Hdd := hid hdd
              clear hdd hdb
              have HXj : Hid (pos + j < xs.length) := hid (by rw [Hl.out]; omega)
              obtain ⟨n, hn⟩ : ∃ n, 2 - j = n + 1 := ⟨2 - j - 1, by omega⟩
              have Hn := hid hn
              clear hn
              by_cases hbad : d < 128 ∨ 192 ≤ d
              · have HM : Hid ((-1 : Int) = rn xs) := hid (HNo.out (by rw [← HT.out, Hn.out, ct_bad HXj.out (by rw [Hdd.out]; exact hbad)]; exact okV_neg (by decide) (by decide)))
                clear HT
                rcases hbad with hbad | hbad
                all_goals
                  go_wp2
                  try rw [Exit.noGoto_ret]
                  go_ret
                  exact ⟨ret_int HM.out, rfl⟩
              · have h1 : ¬ d < 128 := fun h => hbad (.inl h)
                have h2 : ¬ 192 ≤ d := fun h => hbad (.inr h)
                have HT2 : Hid (ctF (xs.drop (pos + (j + 1))) (2 - (j + 1)) (V * 64 + d - 128) = ctF (xs.drop (pos + 1)) 1 (c - 192)) := hid (by rw [← HT.out, Hn.out, ct_step HXj.out (by rw [Hdd.out]; exact hbad), Hdd.out, show 2 - (j + 1) = n by have := Hn.out; omega]; rfl)
                clear HT hbad
                go_wp2
                exact ⟨⟨j + 1, V * 64 + d - 128, by omega, by omega, by omega, by omega, by omega, by omega, by omega, by go_num, by go_num, HT2⟩, by simp [intOf]; omega⟩
            · obtain rfl : j = 2 := by omega
              have HV : Hid (ctF (xs.drop (pos + 1)) 1 (c - 192) = V) := hid (by rw [← HT.out]; cases (xs.drop (pos + 2)) <;> rfl)
              clear HT
              by_cases hok : okV V 128 = true
              · have HS : Hid (rnF f (xs.drop (pos + 2)) (acc + 1) = rn xs) := hid (HYes.out (by rw [HV.out]; exact hok))
                have hok' := (okV_iff _ _).1 hok
                have o1 := hok'.1
                have o2 := hok'.2.1
                have o3 : V < 55296 ∨ 57343 < V := by omega
                clear hok hok'
                rcases o3 with o3 | o3
                all_goals go_wp2
                all_goals
                  exact ⟨⟨pos + 2, f, acc + 1, by go_num, by go_num, by omega, by omega, by omega, HS, by omega⟩, by simp [intOf]; omega⟩
              · have HM : Hid ((-1 : Int) = rn xs) := hid (HNo.out (by rw [HV.out]; simpa using hok))
                have hok' : V < 128 ∨ 1114111 < V ∨ (55296 ≤ V ∧ V ≤ 57343) := by
                  by_cases a1 : V < 128
                  · exact .inl a1
                  by_cases a2 : 1114111 < V
                  · exact .inr (.inl a2)
                  exact .inr (.inr (Classical.byContradiction fun a3 => hok ((okV_iff _ _).2 ⟨by omega, by omega, a3⟩)))
                clear hok
                by_cases a1 : V < 128
                · clear hok'
                  go_wp2
                  try rw [Exit.noGoto_ret]
                  go_ret
                  exact ⟨ret_int HM.out, rfl⟩
                by_cases a2 : 1114111 < V
                · clear hok'
                  go_wp2
                  try rw [Exit.noGoto_ret]
                  go_ret
                  exact ⟨ret_int HM.out, rfl⟩
                have a3 : 55296 ≤ V := by omega
                have a4 : V ≤ 57343 := by omega
                clear hok'
                go_wp2
                try rw [Exit.noGoto_ret]
                go_ret
                exact ⟨ret_int HM.out, rfl⟩
        · have HM : Hid ((-1 : Int) = rn xs) := hid (HNo.out (okV_neg (by decide) (ct_short (by rw [Hl.out]; omega) (by have := HX.out; omega) (by omega))))
          go_wp2
          try rw [Exit.noGoto_ret]
          go_ret
          exact ⟨ret_int HM.out, rfl⟩
      by_cases c4 : c < 240
      · have hs : szF c = 3 := by unfold szF; (repeat' split) <;> omega
        have hv : v0F c = c - 224 := by unfold v0F; (repeat' split) <;> omega
        have hlw : lowF c = 2048 := by unfold lowF; (repeat' split) <;> omega
        have HNo : Hid (okV (ctF (xs.drop (pos + 1)) 2 (c - 224)) 2048 = false → (-1 : Int) = rn xs) := hid (fun h => rn_no HX.out Hcc.out (.inr (by rw [hs, hv, hlw]; exact h)) HR.out)
        have HYes : Hid (okV (ctF (xs.drop (pos + 1)) 2 (c - 224)) 2048 = true → rnF f (xs.drop (pos + 3)) (acc + 1) = rn xs) := hid (fun h => rn_ok (sz := 3) HX.out Hcc.out hs (by decide) (by rw [hv]) (by rw [hlw]; exact h) HR.out)
        clear HR hs hv hlw
        by_cases hfit : pos + 3 ≤ len
        · go_wp2
          go_loop [7, 9] (fun v k => ∃ (j : Nat) (V : Int), 1 ≤ j ∧ j ≤ 3 ∧ 0 ≤ V ∧ V < 8388608 ∧ (j ≤ 3 → V < 131072) ∧ (j ≤ 2 → V < 2048) ∧ (j ≤ 1 → V < 32) ∧ v = .int .i64 V ∧ k = .int .i64 j ∧ Hid (ctF (xs.drop (pos + j)) (3 - j) V = ctF (xs.drop (pos + 1)) 2 (c - 224))) (fun _ k => 3 - (intOf k).toNat)
          case atStart => exact ⟨1, c - 224, by omega, by omega, by omega, by omega, by omega, by omega, by omega, by first | rfl | go_num, rfl, hid rfl⟩
          case round =>
            obtain ⟨j, V, hj1, hjs, hV0, hV4, hV3, hV2, hV1, rfl, rfl, HT⟩ := hrel
            by_cases hj : j < 3
            · obtain ⟨d, hdd⟩ : ∃ d, xs[pos + j]?.getD 0 = d := ⟨_, rfl⟩
              have hdk : w.cell? ⟨b, off + (pos + j), none⟩ = some (.int .u8 d) := by rw [HC.out (pos + j) (by omega), List.getD_eq_getElem?_getD, hdd]
              have hdb : 0 ≤ d ∧ d ≤ 255 := by have := HRr.out (pos + j); rw [List.getD_eq_getElem?_getD, hdd] at this; exact this
              have hd0 := hdb.1
              have hd1 := hdb.2
              have Hdd := hid hdd
              clear hdd hdb
              have HXj : Hid (pos + j < xs.length) := hid (by rw [Hl.out]; omega)
              obtain ⟨n, hn⟩ : ∃ n, 3 - j = n + 1 := ⟨3 - j - 1, by omega⟩
              have Hn := hid hn
              clear hn
              by_cases hbad : d < 128 ∨ 192 ≤ d
              · have HM : Hid ((-1 : Int) = rn xs) := hid (HNo.out (by rw [← HT.out, Hn.out, ct_bad HXj.out (by rw [Hdd.out]; exact hbad)]; exact okV_neg (by decide) (by decide)))
                clear HT
                rcases hbad with hbad | hbad
                all_goals
                  go_wp2
                  try rw [Exit.noGoto_ret]
                  go_ret
                  exact ⟨ret_int HM.out, rfl⟩
              · have h1 : ¬ d < 128 := fun h => hbad (.inl h)
                have h2 : ¬ 192 ≤ d := fun h => hbad (.inr h)
                have HT2 : Hid (ctF (xs.drop (pos + (j + 1))) (3 - (j + 1)) (V * 64 + d - 128) = ctF (xs.drop (pos + 1)) 2 (c - 224)) := hid (by rw [← HT.out, Hn.out, ct_step HXj.out (by rw [Hdd.out]; exact hbad), Hdd.out, show 3 - (j + 1) = n by have := Hn.out; omega]; rfl)
                clear HT hbad
                go_wp2
                exact ⟨⟨j + 1, V * 64 + d - 128, by omega, by omega, by omega, by omega, by omega, by omega, by omega, by go_num, by go_num, HT2⟩, by simp [intOf]; omega⟩
            · obtain rfl : j = 3 := by omega
              have HV : Hid (ctF (xs.drop (pos + 1)) 2 (c - 224) = V) := hid (by rw [← HT.out]; cases (xs.drop (pos + 3)) <;> rfl)
              clear HT
              by_cases hok : okV V 2048 = true
              · have HS : Hid (rnF f (xs.drop (pos + 3)) (acc + 1) = rn xs) := hid (HYes.out (by rw [HV.out]; exact hok))
                have hok' := (okV_iff _ _).1 hok
                have o1 := hok'.1
                have o2 := hok'.2.1
                have o3 : V < 55296 ∨ 57343 < V := by omega
                clear hok hok'
                rcases o3 with o3 | o3
                all_goals go_wp2
                all_goals
                  exact ⟨⟨pos + 3, f, acc + 1, by go_num, by go_num, by omega, by omega, by omega, HS, by omega⟩, by simp [intOf]; omega⟩
              · have HM : Hid ((-1 : Int) = rn xs) := hid (HNo.out (by rw [HV.out]; simpa using hok))
                have hok' : V < 2048 ∨ 1114111 < V ∨ (55296 ≤ V ∧ V ≤ 57343) := by
                  by_cases a1 : V < 2048
                  · exact .inl a1
                  by_cases a2 : 1114111 < V
                  · exact .inr (.inl a2)
                  exact .inr (.inr (Classical.byContradiction fun a3 => hok ((okV_iff _ _).2 ⟨by omega, by omega, a3⟩)))
                clear hok
                by_cases a1 : V < 2048
                · clear hok'
                  go_wp2
                  try rw [Exit.noGoto_ret]
                  go_ret
                  exact ⟨ret_int HM.out, rfl⟩
                by_cases a2 : 1114111 < V
                · clear hok'
                  go_wp2
                  try rw [Exit.noGoto_ret]
                  go_ret
                  exact ⟨ret_int HM.out, rfl⟩
                have a3 : 55296 ≤ V := by omega
                have a4 : V ≤ 57343 := by omega
                clear hok'
                go_wp2
                try rw [Exit.noGoto_ret]
                go_ret
                exact ⟨ret_int HM.out, rfl⟩
        · have HM : Hid ((-1 : Int) = rn xs) := hid (HNo.out (okV_neg (by decide) (ct_short (by rw [Hl.out]; omega) (by have := HX.out; omega) (by omega))))
          go_wp2
          try rw [Exit.noGoto_ret]
          go_ret
          exact ⟨ret_int HM.out, rfl⟩
      by_cases c5 : c < 248
      · have hs : szF c = 4 := by unfold szF; (repeat' split) <;> omega
        have hv : v0F c = c - 240 := by unfold v0F; (repeat' split) <;> omega
        have hlw : lowF c = 65536 := by unfold lowF; (repeat' split) <;> omega
        have HNo : Hid (okV (ctF (xs.drop (pos + 1)) 3 (c - 240)) 65536 = false → (-1 : Int) = rn xs) := hid (fun h => rn_no HX.out Hcc.out (.inr (by rw [hs, hv, hlw]; exact h)) HR.out)
        have HYes : Hid (okV (ctF (xs.drop (pos + 1)) 3 (c - 240)) 65536 = true → rnF f (xs.drop (pos + 4)) (acc + 1) = rn xs) := hid (fun h => rn_ok (sz := 4) HX.out Hcc.out hs (by decide) (by rw [hv]) (by rw [hlw]; exact h) HR.out)
        clear HR hs hv hlw
        by_cases hfit : pos + 4 ≤ len
        · go_wp2
          go_loop [7, 9] (fun v k => ∃ (j : Nat) (V : Int), 1 ≤ j ∧ j ≤ 4 ∧ 0 ≤ V ∧ V < 8388608 ∧ (j ≤ 3 → V < 131072) ∧ (j ≤ 2 → V < 2048) ∧ (j ≤ 1 → V < 32) ∧ v = .int .i64 V ∧ k = .int .i64 j ∧ Hid (ctF (xs.drop (pos + j)) (4 - j) V = ctF (xs.drop (pos + 1)) 3 (c - 240))) (fun _ k => 4 - (intOf k).toNat)
          case atStart => exact ⟨1, c - 240, by omega, by omega, by omega, by omega, by omega, by omega, by omega, by first | rfl | go_num, rfl, hid rfl⟩
          case round =>
            obtain ⟨j, V, hj1, hjs, hV0, hV4, hV3, hV2, hV1, rfl, rfl, HT⟩ := hrel
            by_cases hj : j < 4
            · obtain ⟨d, hdd⟩ : ∃ d, xs[pos + j]?.getD 0 = d := ⟨_, rfl⟩
              have hdk : w.cell? ⟨b, off + (pos + j), none⟩ = some (.int .u8 d) := by rw [HC.out (pos + j) (by omega), List.getD_eq_getElem?_getD, hdd]
              have hdb : 0 ≤ d ∧ d ≤ 255 := by have := HRr.out (pos + j); rw [List.getD_eq_getElem?_getD, hdd] at this; exact this
              have hd0 := hdb.1
              have hd1 := hdb.2
              have Hdd := hid hdd
              clear hdd hdb
              have HXj : Hid (pos + j < xs.length) := hid (by rw [Hl.out]; omega)
              obtain ⟨n, hn⟩ : ∃ n, 4 - j = n + 1 := ⟨4 - j - 1, by omega⟩
              have Hn := hid hn
              clear hn
              by_cases hbad : d < 128 ∨ 192 ≤ d
              · have HM : Hid ((-1 : Int) = rn xs) := hid (HNo.out (by rw [← HT.out, Hn.out, ct_bad HXj.out (by rw [Hdd.out]; exact hbad)]; exact okV_neg (by decide) (by decide)))
                clear HT
                rcases hbad with hbad | hbad
                all_goals
                  go_wp2
                  try rw [Exit.noGoto_ret]
                  go_ret
                  exact ⟨ret_int HM.out, rfl⟩
              · have h1 : ¬ d < 128 := fun h => hbad (.inl h)
                have h2 : ¬ 192 ≤ d := fun h => hbad (.inr h)
                have HT2 : Hid (ctF (xs.drop (pos + (j + 1))) (4 - (j + 1)) (V * 64 + d - 128) = ctF (xs.drop (pos + 1)) 3 (c - 240)) := hid (by rw [← HT.out, Hn.out, ct_step HXj.out (by rw [Hdd.out]; exact hbad), Hdd.out, show 4 - (j + 1) = n by have := Hn.out; omega]; rfl)
                clear HT hbad
                go_wp2
                exact ⟨⟨j + 1, V * 64 + d - 128, by omega, by omega, by omega, by omega, by omega, by omega, by omega, by go_num, by go_num, HT2⟩, by simp [intOf]; omega⟩
            · obtain rfl : j = 4 := by omega
              have HV : Hid (ctF (xs.drop (pos + 1)) 3 (c - 240) = V) := hid (by rw [← HT.out]; cases (xs.drop (pos + 4)) <;> rfl)
              clear HT
              by_cases hok : okV V 65536 = true
              · have HS : Hid (rnF f (xs.drop (pos + 4)) (acc + 1) = rn xs) := hid (HYes.out (by rw [HV.out]; exact hok))
                have hok' := (okV_iff _ _).1 hok
                have o1 := hok'.1
                have o2 := hok'.2.1
                have o3 : V < 55296 ∨ 57343 < V := by omega
                clear hok hok'
                rcases o3 with o3 | o3
                all_goals go_wp2
                all_goals
                  exact ⟨⟨pos + 4, f, acc + 1, by go_num, by go_num, by omega, by omega, by omega, HS, by omega⟩, by simp [intOf]; omega⟩
              · have HM : Hid ((-1 : Int) = rn xs) := hid (HNo.out (by rw [HV.out]; simpa using hok))
                have hok' : V < 65536 ∨ 1114111 < V ∨ (55296 ≤ V ∧ V ≤ 57343) := by
                  by_cases a1 : V < 65536
                  · exact .inl a1
                  by_cases a2 : 1114111 < V
                  · exact .inr (.inl a2)
                  exact .inr (.inr (Classical.byContradiction fun a3 => hok ((okV_iff _ _).2 ⟨by omega, by omega, a3⟩)))
                clear hok
                by_cases a1 : V < 65536
                · clear hok'
                  go_wp2
                  try rw [Exit.noGoto_ret]
                  go_ret
                  exact ⟨ret_int HM.out, rfl⟩
                by_cases a2 : 1114111 < V
                · clear hok'
                  go_wp2
                  try rw [Exit.noGoto_ret]
                  go_ret
                  exact ⟨ret_int HM.out, rfl⟩
                have a3 : 55296 ≤ V := by omega
                have a4 : V ≤ 57343 := by omega
                clear hok'
                go_wp2
                try rw [Exit.noGoto_ret]
                go_ret
                exact ⟨ret_int HM.out, rfl⟩
        · have HM : Hid ((-1 : Int) = rn xs) := hid (HNo.out (okV_neg (by decide) (ct_short (by rw [Hl.out]; omega) (by have := HX.out; omega) (by omega))))
          go_wp2
          try rw [Exit.noGoto_ret]
          go_ret
          exact ⟨ret_int HM.out, rfl⟩
      · have HM : Hid ((-1 : Int) = rn xs) := hid (rn_no HX.out Hcc.out (.inl (by unfold szF; (repeat' split) <;> omega)) HR.out)
        clear HR
        go_wp2
        try rw [Exit.noGoto_ret]
        go_ret
        exact ⟨ret_int HM.out, rfl⟩
    · have HE : Hid (acc = rn xs) := by show _ = _; rw [← HR.out, rn_end (by rw [Hl.out]; exact hp)]
      clear HR
      go_wp2
      go_ret
      exact ⟨ret_int HE.out, rfl⟩
/-- The document's Runes at a slice that can be read. -/
theorem refRunesR (a : Option Addr) (len cap : Nat) (xs : List Int) (w : World) (h : Reads w a len cap xs) (hreach : len ≤ 140737488355328) :
    Calls Tryz.prog 122 #[.slice a len cap] w fun e w' => e = .returned (.int .i64 (rn xs)) ∧ w = w' := by
  rcases h.cells with ⟨h0, _⟩ | ⟨b, off, rfl, hc⟩
  · subst h0
    have hx : xs = [] := List.eq_nil_of_length_eq_zero h.length
    subst hx
    exact refRunesZero a cap w
  · exact refRunesIn b off len cap xs w h.length h.le h.max hreach hc h.bd
theorem validR8 (a : Option Addr) (len cap : Nat) (w : World) (xs : List Int) (h : Reads w a len cap xs) (hreach : len ≤ 140737488355328) : Calls Tryz.prog 82 #[.slice a len cap] w fun e w' => e = .returned (.bool (decide (0 ≤ rn xs))) ∧ w = w' := by
  go_enter Tryz.func82, Tryz.ntmps82
  go_wp2_with (go_at_call 122; refine (refRunesR a len cap xs _ h hreach).mono ?_; rintro e w' ⟨rfl, rfl⟩)
  go_ret
  exact ⟨rfl, rfl⟩
set_option maxHeartbeats 4000000
theorem conv {w : World} {a : Option Addr} {len cap : Nat} {xs : List Int} (h : Reads w a len cap xs) : (convert 23 9 (.slice a len cap)).run Tryz.prog w = .ok (.string (strOfNums xs)) w := by
  rcases h.cells with ⟨h0, _⟩ | ⟨b, off, rfl, hc⟩
  · subst h0
    have hx : xs = [] := List.eq_nil_of_length_eq_zero h.length
    subst hx
    cases a with
    | none => rw [run_convert_bytes_nil w 23 5 Tryz.underlying23 Tryz.underlying5 0 cap 9 Tryz.underlying9]; rfl
    | some x =>
      rw [run_convert_bytes_string w 23 9 5 _ 0 cap Tryz.underlying23 Tryz.underlying5 Tryz.underlying9, run_bytesToString w _ 0 cap [] (by simp [loadCells, loadCellsFrom])]
      rfl
  · exact run_convert_bytes_arg w 23 5 Tryz.underlying23 Tryz.underlying5 b off len cap xs h.length hc 9 Tryz.underlying9
theorem signedR (k : Int) (w : World) : Calls Tryz.prog 84 #[.int .i64 k] w fun e w' => e = .returned (.bool (kneg k || decide (k = 16))) ∧ w = w' := by
  rcases kinds k with rfl | rfl | rfl | rfl | rfl | rfl | rfl | rfl | rfl | rfl | rfl | rfl | rfl | rfl | rfl | rfl | rfl | h | h
  iterate 17 (next => go_enter Tryz.func84, Tryz.ntmps84; go_wp2; go_ret; exact ⟨rfl, rfl⟩)
  · obtain ⟨e1, e2, e3, e4, e5, e6, e7, e8, e9, e10, e11, e12, e13, e14, e15, e16, e17⟩ := noKind (.inl h)
    have H : Hid (false = (kneg k || decide (k = 16))) := hid (by rw [kneg_no (.inl h)]; simp; omega)
    clear h
    go_enter Tryz.func84, Tryz.ntmps84
    go_wp2
    go_ret
    exact ⟨ret_bool H.out, rfl⟩
  · obtain ⟨e1, e2, e3, e4, e5, e6, e7, e8, e9, e10, e11, e12, e13, e14, e15, e16, e17⟩ := noKind (.inr h)
    have H : Hid (false = (kneg k || decide (k = 16))) := hid (by rw [kneg_no (.inr h)]; simp; omega)
    clear h
    go_enter Tryz.func84, Tryz.ntmps84
    go_wp2
    go_ret
    exact ⟨ret_bool H.out, rfl⟩
/-- The highest bit turned. -/
def flip (n : Int) : Int := if n < 9223372036854775808 then n + 9223372036854775808 else n - 9223372036854775808
theorem flip_xor (n : Int) (h0 : 0 ≤ n) (h1 : n < 18446744073709551616) : bits .xor .u64 n 9223372036854775808 = flip n := by
  obtain ⟨m, rfl⟩ := Int.eq_ofNat_of_zero_le h0
  have hm : m < 18446744073709551616 := by omega
  rw [show (9223372036854775808 : Int) = ((9223372036854775808 : Nat) : Int) from rfl, bits_xor_u64_nat _ _ (by omega) (by decide)]
  have hd : (m ^^^ 9223372036854775808) / 2 ^ 63 = (m / 2 ^ 63) ^^^ (9223372036854775808 / 2 ^ 63) := Nat.xor_div_two_pow
  have hr : (m ^^^ 9223372036854775808) % 2 ^ 63 = (m % 2 ^ 63) ^^^ (9223372036854775808 % 2 ^ 63) := Nat.xor_mod_two_pow
  have e1 : 9223372036854775808 / 2 ^ 63 = 1 := by decide
  have e2 : 9223372036854775808 % 2 ^ 63 = 0 := by decide
  rw [e1] at hd
  rw [e2, Nat.xor_zero] at hr
  have hb : m / 2 ^ 63 = 0 ∨ m / 2 ^ 63 = 1 := by omega
  unfold flip
  rcases hb with hb | hb
  · rw [hb] at hd
    rw [show (0 ^^^ 1 : Nat) = 1 from rfl] at hd
    rw [if_pos (by omega)]
    omega
  · rw [hb] at hd
    rw [show (1 ^^^ 1 : Nat) = 0 from rfl] at hd
    rw [if_neg (by omega)]
    omega
theorem flip_cmp {a b : Int} (ha : 0 ≤ a ∧ a < 18446744073709551616) (hb : 0 ≤ b ∧ b < 18446744073709551616) : cmpI (flip a) (flip b) = cmpI (sgn a) (sgn b) := by
  unfold cmpI flip sgn
  (repeat' split) <;> omega
section
variable (k n1 n2 : Int) (a1 a2 p1 p2 : Option Addr) (l1 c1 l2 c2 m1 m2 q1 q2 : Nat) (xs ys : List Int) (w : World)
theorem refCmp14 (hr1 : Reads w a1 l1 c1 xs) (hr2 : Reads w a2 l2 c2 ys) :
    Calls Tryz.prog 42 #[.int .i64 14, .agg #[.int .u64 n1, .slice a1 l1 c1, .slice p1 m1 q1], .agg #[.int .u64 n2, .slice a2 l2 c2, .slice p2 m2 q2]] w fun e w' => e = .returned (.int .i64 (cmpX xs ys)) ∧ Below w.heap.size w w' := by
  have e1 := conv (w := (w.alloc (.cells #[.int .u64 n1, .slice a1 l1 c1, .slice p1 m1 q1] 26)).alloc (.cells #[.int .u64 n2, .slice a2 l2 c2, .slice p2 m2 q2] 26)) (reads_kept hr1 (below_two _ _))
  have e2 := conv (w := (w.alloc (.cells #[.int .u64 n1, .slice a1 l1 c1, .slice p1 m1 q1] 26)).alloc (.cells #[.int .u64 n2, .slice a2 l2 c2, .slice p2 m2 q2] 26)) (reads_kept hr2 (below_two _ _))
  have hl := less_str (bd_mem hr1.bd) (bd_mem hr2.bd)
  have he := str_eq (bd_mem hr1.bd) (bd_mem hr2.bd)
  clear hr1 hr2
  rcases cmpX_val xs ys with hc | hc | hc
  · rw [hc] at hl ⊢
    have hl2 : Op.bytesLess (strOfNums xs).toList (strOfNums ys).toList = true := by rw [hl]; rfl
    clear hl he hc
    go_enter Tryz.func42, Tryz.ntmps42
    go_wp2
    go_ret
    exact ⟨rfl, below_two _ _⟩
  · rw [hc] at hl ⊢
    have hl2 : Op.bytesLess (strOfNums xs).toList (strOfNums ys).toList = false := by rw [hl]; rfl
    have he2 : ((strOfNums xs).toList == (strOfNums ys).toList) = true := by rw [he]; simpa using (cmpX_eq xs ys).1 hc
    clear hl he hc
    go_enter Tryz.func42, Tryz.ntmps42
    go_wp2
    go_ret
    exact ⟨rfl, below_two _ _⟩
  · have hne : xs ≠ ys := fun e => by rw [(cmpX_eq xs ys).2 e] at hc; cases hc
    rw [hc] at hl ⊢
    have hl2 : Op.bytesLess (strOfNums xs).toList (strOfNums ys).toList = false := by rw [hl]; rfl
    have he2 : ((strOfNums xs).toList == (strOfNums ys).toList) = false := by rw [he]; simpa using hne
    clear hl he hc hne
    go_enter Tryz.func42, Tryz.ntmps42
    go_wp2
    go_ret
    exact ⟨rfl, below_two _ _⟩
theorem refCmpN (h14 : (k == 14) = false) (x y : Int) (b : Bool) (hb : (kneg k || decide (k = 16)) = b) (hx : b = false → x = n1 ∧ y = n2) (hf : b = true → bits .xor .u64 n1 9223372036854775808 = x ∧ bits .xor .u64 n2 9223372036854775808 = y) :
    Calls Tryz.prog 42 #[.int .i64 k, .agg #[.int .u64 n1, .slice a1 l1 c1, .slice p1 m1 q1], .agg #[.int .u64 n2, .slice a2 l2 c2, .slice p2 m2 q2]] w fun e w' => e = .returned (.int .i64 (cmpI x y)) ∧ Below w.heap.size w w' := by
  have HS := hid (fun W => signedR k W)
  rw [hb] at HS
  clear hb
  have hc : (cmpI x y = -1 ∧ x < y) ∨ (cmpI x y = 1 ∧ ¬ x < y ∧ y < x) ∨ (cmpI x y = 0 ∧ ¬ x < y ∧ ¬ y < x) := by unfold cmpI; by_cases h : x < y <;> by_cases h2 : y < x <;> simp [h, h2]
  cases b with
  | false =>
    obtain ⟨rfl, rfl⟩ := hx rfl
    clear hx hf
    rcases hc with ⟨hc, h1⟩ | ⟨hc, h1, h2⟩ | ⟨hc, h1, h2⟩
    all_goals
      rw [hc]
      clear hc
      go_enter Tryz.func42, Tryz.ntmps42
      go_wp2_with (go_at_call 84; refine (HS.out _).mono ?_; rintro e w' ⟨rfl, rfl⟩)
      go_ret
      exact ⟨rfl, below_two _ _⟩
  | true =>
    obtain ⟨hfx, hfy⟩ := hf rfl
    clear hx hf
    rcases hc with ⟨hc, h1⟩ | ⟨hc, h1, h2⟩ | ⟨hc, h1, h2⟩
    all_goals
      rw [hc]
      clear hc
      go_enter Tryz.func42, Tryz.ntmps42
      go_wp2_with (go_at_call 84; refine (HS.out _).mono ?_; rintro e w' ⟨rfl, rfl⟩)
      go_ret
      exact ⟨rfl, below_two _ _⟩
theorem compareR (hk : kkey k = true) (h10 : 0 ≤ n1) (h11 : n1 < 18446744073709551616) (h20 : 0 ≤ n2) (h21 : n2 < 18446744073709551616) (hr1 : Reads w a1 l1 c1 xs) (hr2 : Reads w a2 l2 c2 ys) :
    Calls Tryz.prog 42 #[.int .i64 k, .agg #[.int .u64 n1, .slice a1 l1 c1, .slice p1 m1 q1], .agg #[.int .u64 n2, .slice a2 l2 c2, .slice p2 m2 q2]] w fun e w' => e = .returned (.int .i64 (cmpV k n1 n2 xs ys)) ∧ Below w.heap.size w w' := by
  unfold cmpV
  by_cases h14 : k = 14
  · subst h14
    rw [if_pos rfl]
    exact refCmp14 n1 n2 a1 a2 p1 p2 l1 c1 l2 c2 m1 m2 q1 q2 xs ys w hr1 hr2
  · rw [if_neg h14]
    have h16 : decide (k = 16) = false := by unfold kkey at hk; simp at hk; simp; omega
    cases hn : kneg k with
    | true =>
      rw [if_pos rfl, ← flip_cmp ⟨h10, h11⟩ ⟨h20, h21⟩]
      exact refCmpN k n1 n2 a1 a2 p1 p2 l1 c1 l2 c2 m1 m2 q1 q2 w (by simpa using h14) _ _ true (by rw [hn]; rfl) (fun h => by cases h) (fun _ => ⟨flip_xor n1 h10 h11, flip_xor n2 h20 h21⟩)
    | false =>
      rw [if_neg (by simp)]
      exact refCmpN k n1 n2 a1 a2 p1 p2 l1 c1 l2 c2 m1 m2 q1 q2 w (by simpa using h14) _ _ false (by rw [hn, h16]; rfl) (fun _ => ⟨rfl, rfl⟩) (fun h => by cases h)
end
set_option linter.unusedVariables false
set_option linter.unusedSimpArgs false
set_option maxHeartbeats 1000000
def syZ : SY := ⟨[], 0⟩
def syN (n : Int) (s : SY) : Bool := decide (s.num = n)
theorem symbolDR (w : World) (l : List TV) (ta : Option Addr) (tc : Nat) (h : TbR w (.slice ta l.length tc) l) (k : Nat) (hk : k < l.length) (n : Int)  : Calls Tryz.prog 83 #[.agg #[.slice ta l.length tc], .int .i64 (k : Int), .int .i64 n] w fun e w' => e = .returned (.tuple #[.string (strOfNums ((l[k].t.ss.find? (syN n)).getD syZ).name), .bool (l[k].t.ss.find? (syN n)).isSome]) ∧ Below w.heap.size w w' := by
  obtain ⟨_, _, e, hn0⟩ := rowS_sl h.row
  clear e
  have h63 : (l.length : Int) ≤ 9223372036854775807 := by omega
  have r5 : (k : Int) < (l.length : Int) := by omega
  have HTY := hid (h.ty _ (List.getElem_mem hk))
  obtain ⟨tb, tof, rfl, hbl, -, -, -, -, c4, -⟩ := row6 h.row hk
  clear h
  generalize l[k] = x at *
  obtain ⟨t, f, o, s, r⟩ := x
  obtain ⟨sa, sc, es, hfl⟩ := rowS_sl HTY.out.s
  dsimp only at es hfl
  subst es
  have hf63 : (t.ss.length : Int) ≤ 9223372036854775807 := by omega
  dsimp only at c4
  dsimp only
  have HF := hid HTY.out.s
  dsimp only at HF
  clear HTY
  generalize hfv : t.ss.find? (syN n) = fv
  have HFV := hid hfv
  clear hfv
  go_enter Tryz.func83, Tryz.ntmps83
  go_wp2
  clear c4
  go_loopw [9] (fun r wr => ∃ j : Nat, r = .int .i64 j ∧ j ≤ t.ss.length ∧ Hid ((t.ss.drop j).find? (syN n) = fv) ∧ Hid (Below w.heap.size w wr)) (fun r wr => t.ss.length - numAt wr r)
  case atStart => exact ⟨0, rfl, by omega, HFV, hid (by exact blBy)⟩
  case round =>
    clear HFV
    obtain ⟨j, rfl, hj, HFV, hb⟩ := hrel
    by_cases hlt : j < t.ss.length
    · have h2 : (j : Int) < (t.ss.length : Int) := by omega
      obtain ⟨fb, fo, rfl, hbf, c0, c1⟩ := rowY (HF.out.kept hb.out) hlt
      have HST : Hid ((t.ss.drop j).find? (syN n) = match (syN n) t.ss[j] with | true => some t.ss[j] | false => (t.ss.drop (j + 1)).find? (syN n)) := hid (by rw [List.drop_eq_getElem_cons hlt, List.find?_cons]; first | rfl | (split <;> rfl) | (split <;> simp_all))
      rw [HST.out] at HFV
      clear HST
      generalize t.ss[j] = s at *
      by_cases hq : s.num = n
      · have kq : (s.num == n) = true := by simpa using hq
        rw [show (syN n) s = true from decide_eq_true hq] at HFV
        have HE : Hid (fv = some s) := hid HFV.out.symm
        replace hq := hid hq
        go_wp2
        go_ret2
        exact ⟨by rw [HE.out]; rfl, by have := hb.out; exact blBy⟩
      · have kq : (s.num == n) = false := by simpa using hq
        rw [show (syN n) s = false from decide_eq_false hq] at HFV
        replace hq := hid hq
        go_wp2
        exact ⟨⟨j + 1, by simp, by omega, HFV, hb⟩, by simp [numAt]; omega⟩
    · have h2 : ¬ (j : Int) < (t.ss.length : Int) := by omega
      have HE : Hid (fv = none) := hid (by rw [← HFV.out, List.drop_of_length_le (by omega)]; rfl)
      go_wp2
      go_ret2
      exact ⟨by rw [HE.out]; rfl, by have := hb.out; exact blBy⟩
theorem cutI_none : ∀ (l : List Int), (∀ c ∈ l, c ≠ 46) → cutI l = [l]
  | [], _ => rfl
  | c :: r, h => by
    rw [cutI, if_neg (h c (by simp)), cutI_none r (fun c hc => h c (by simp [hc]))]
    rfl
theorem cutI_at : ∀ (a b : List Int), (∀ c ∈ a, c ≠ 46) → cutI (a ++ 46 :: b) = a :: cutI b
  | [], b, _ => by simp [cutI]
  | c :: r, b, h => by
    rw [List.cons_append, cutI, if_neg (h c (by simp)), cutI_at r b (fun c hc => h c (by simp [hc]))]
    rfl
/-- While it is cut: P stands, from fr on there is no dot up to i. -/
structure Cut (xs : List Int) (P : List (List Int)) (fr i : Nat) : Prop where
  is : cutI xs = P ++ cutI (xs.drop fr)
  le : fr ≤ i
  no : ∀ c ∈ (xs.take i).drop fr, c ≠ 46
  few : P.length ≤ i
theorem Cut.start (xs : List Int) : Cut xs [] 0 0 := ⟨by simp, by omega, by simp, by simp⟩
theorem Cut.step {xs : List Int} {P : List (List Int)} {fr i : Nat} (h : Cut xs P fr i) (hi : i < xs.length) (hx : xs[i] ≠ 46) : Cut xs P fr (i + 1) := by
  refine ⟨h.is, by have := h.le; omega, fun c hc => ?_, by have := h.few; omega⟩
  rw [List.take_succ_eq_append_getElem hi, List.drop_append_of_le_length (by simp; have := h.le; omega)] at hc
  rcases List.mem_append.1 hc with q | q
  · exact h.no c q
  · simp at q; subst q; exact hx
theorem Cut.dot {xs : List Int} {P : List (List Int)} {fr i : Nat} (h : Cut xs P fr i) (hi : i < xs.length) (hx : xs[i] = 46) : Cut xs (P ++ [(xs.take i).drop fr]) (i + 1) (i + 1) := by
  refine ⟨?_, by omega, by simp, by have := h.few; simp; omega⟩
  have e : xs.drop fr = (xs.take i).drop fr ++ 46 :: xs.drop (i + 1) := by
    have e1 : xs = xs.take i ++ 46 :: xs.drop (i + 1) := by rw [← hx, List.getElem_cons_drop, List.take_append_drop]
    conv => lhs; rw [e1]
    rw [List.drop_append_of_le_length (by simp; have := h.le; omega)]
  rw [h.is, e, cutI_at _ _ h.no, List.append_assoc]
  rfl
theorem Cut.fin {xs : List Int} {P : List (List Int)} {fr : Nat} (h : Cut xs P fr xs.length) : P ++ [(xs.take xs.length).drop fr] = cutI xs := by
  rw [h.is, List.take_length, cutI_none]
  have := h.no
  rw [List.take_length] at this
  exact this
theorem partsR (xs : List Int) (w : World) (hb : ∀ c ∈ xs, 0 ≤ c ∧ c ≤ 255) (hl : xs.length < 4000000) : Calls Tryz.prog 118 #[.string (strOfNums xs)] w fun e w' => (∃ a c, e = .returned (.slice a (cutI xs).length c) ∧ Hid (RowS w' AnyZ 1 (.slice a (cutI xs).length c) (cutI xs).length ((cutI xs).flatMap cN))) ∧ Below w.heap.size w w' := by
  have HB := hid hb
  have HSZ : (strOfNums xs).size = xs.length := strOfNums_size xs
  have h63 : (xs.length : Int) ≤ 9223372036854775807 := by omega
  clear hb
  go_enter Tryz.func118, Tryz.ntmps118
  go_wp2
  go_loopw [3, 4, 5] (fun v f r wr => ∃ (i fr : Nat) (P : List (List Int)) (va : Option Addr) (vc : Nat), v = .slice va P.length vc ∧ f = .int .i64 fr ∧ r = .int .i64 i ∧ i ≤ xs.length + 1 ∧ Hid ((i ≤ xs.length ∧ Cut xs P fr i) ∨ (i = xs.length + 1 ∧ P = cutI xs)) ∧ Hid (wr.ownsRow w.heap.size 9 1 (.slice va P.length vc) P.length (P.flatMap cN)) ∧ Hid (Below w.heap.size w wr)) (fun _ _ r wr => xs.length + 1 - numAt wr r)
  case atStart => exact ⟨0, 0, [], none, 0, rfl, rfl, rfl, by omega, hid (.inl ⟨by omega, Cut.start xs⟩), hid (World.ownsRow_nil _ _ _ _), hid (Below.refl _ _)⟩
  case round =>
    obtain ⟨i, fr, P, va, vc, rfl, rfl, rfl, hi, HC, HV, hb⟩ := hrel
    rcases HC.out with ⟨hil, hc⟩ | ⟨he, hp⟩
    case inr =>
      subst hp
      have h2 : ¬ (i : Int) ≤ (xs.length : Int) := by omega
      have h3 : ((i : Int) ≤ (xs.length : Int)) = False := eq_false h2
      clear he HC
      go_wp2
      go_ret
      exact ⟨⟨va, vc, rfl, hid (own_row HV.out (fun _ _ => trivial))⟩, hb.out⟩
    have h2 : (i : Int) ≤ (xs.length : Int) := by omega
    have hfr : fr ≤ i := hc.le
    have hfew : P.length ≤ i := hc.few
    have hfr2 : (fr : Int) ≤ (i : Int) := by omega
    have HS : Hid ((strOfNums xs).extract fr i = strOfNums ((xs.take i).drop fr)) := hid (str_cut xs fr i)
    obtain ⟨la, lc, x1, HRUN, HV1, HG1⟩ := appendSt w.heap.size (.slice va P.length vc) P ((xs.take i).drop fr) wr HV.out hb.out.size (by omega)
    rw [← HS.out] at HRUN
    have hb1 : Hid (Below w.heap.size w x1) := hid (hb.out.trans (grow_bel HG1.out HV.out (Nat.le_refl _) hb.out.size))
    have HL : Hid ((P ++ [(xs.take i).drop fr]).length = P.length + 1) := hid (by simp)
    have HC1 := hid hc
    clear hc HC HG1 HS
    by_cases hlt : i < xs.length
    case neg =>
      have ei : i = xs.length := by omega
      have k1 : ((i : Int) == (xs.length : Int)) = true := by simp [ei]
      have HE : Hid (P ++ [(xs.take i).drop fr] = cutI xs) := hid (by subst ei; exact HC1.out.fin)
      have hi2 : i + 1 = xs.length + 1 := by omega
      replace hi2 := hid hi2
      clear hlt ei
      go_wp2_with (first | (at_builtin; refine wpList_append_ran rfl _ _ 62 62 rfl rfl _ _ (.slice la (P.length + 1) lc) x1 rfl rfl HRUN.out ?_))
      exact ⟨⟨i + 1, i + 1, P ++ [(xs.take i).drop fr], la, lc, by rw [HL.out], by simp, by simp, by omega, hid (.inr ⟨hi2.out, HE.out⟩), hid (by have := HV1.out; rw [← HL.out] at this; exact this), hb1⟩, by simp [numAt]; omega⟩
    have hlt2 : (i : Int) < (xs.length : Int) := by omega
    have k1 : ((i : Int) == (xs.length : Int)) = false := by rw [beq_eq_false_iff_ne]; omega
    have hix := index_str HB.out i hlt .i64
    have e1 : xs[i]?.getD 0 = xs[i] := by simp [hlt]
    rw [e1] at hix
    by_cases hd : xs[i] = 46
    · have HN := hid (HC1.out.dot hlt hd)
      rw [hd] at hix
      clear e1 hd
      go_wp2_with (first | (at_builtin; refine wpList_append_ran rfl _ _ 62 62 rfl rfl _ _ (.slice la (P.length + 1) lc) x1 rfl rfl HRUN.out ?_))
      exact ⟨⟨i + 1, i + 1, P ++ [(xs.take i).drop fr], la, lc, by rw [HL.out], by simp, by simp, by omega, hid (.inl ⟨by omega, HN.out⟩), hid (by have := HV1.out; rw [← HL.out] at this; exact this), hb1⟩, by simp [numAt]; omega⟩
    · have HN := hid (HC1.out.step hlt hd)
      have k2 : (xs[i] == 46) = false := by simpa using hd
      clear e1 hd HRUN
      generalize xs[i] = d at hix k2
      go_wp2
      exact ⟨⟨i + 1, fr, P, va, vc, rfl, rfl, by simp, by omega, hid (.inl ⟨by omega, HN.out⟩), HV, hb⟩, by simp [numAt]; omega⟩
end Go.Proofs.YtnfdlnelfnigdaaGreatDoor
