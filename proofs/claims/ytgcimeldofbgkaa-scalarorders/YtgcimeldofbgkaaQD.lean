/-
  The walk over the document's counting of characters.
-/
import Derived.Test.YtgcimeldofbgkaaQC
namespace Go.Proofs.Ytgcimeldofbgkaa
open Go.RowKit
set_option maxRecDepth 1000000

theorem refRunesZero (a : Option Addr) (cap : Nat) (w : World) :
    Calls Try.prog 64 #[.slice a 0 cap] w fun e w' => e = .returned (.int .i64 0) ∧ w = w' := by
  go_enter Try.func64, Try.ntmps64
  go_wp2
  refine wp_loop_rounds 1 ?_
  rw [rounds_succ]
  go_wp2
  go_ret
  exact ⟨rfl, rfl⟩

theorem chr_at {xs : List Int} {pos : Nat} (h : pos < xs.length) : chr (xs.drop pos) = if szF (xs[pos]?.getD 0) = 0 then 0 else if okV (ctF (xs.drop (pos + 1)) (szF (xs[pos]?.getD 0) - 1) (v0F (xs[pos]?.getD 0))) (lowF (xs[pos]?.getD 0)) then szF (xs[pos]?.getD 0) else 0 := by
  rw [drop_at h, chr_cons]
theorem ct_bad {xs : List Int} {j n : Nat} {V : Int} (h : j < xs.length) (hd : xs[j]?.getD 0 < 128 ∨ 192 ≤ xs[j]?.getD 0) : ctF (xs.drop j) (n + 1) V = -1 := by
  rw [drop_at h]; simp [ctF, hd]
theorem ct_step {xs : List Int} {j n : Nat} {V : Int} (h : j < xs.length) (hd : ¬ (xs[j]?.getD 0 < 128 ∨ 192 ≤ xs[j]?.getD 0)) : ctF (xs.drop j) (n + 1) V = ctF (xs.drop (j + 1)) n (V * 64 + xs[j]?.getD 0 - 128) := by
  rw [drop_at h]; simp [ctF, hd]
theorem ct_short {xs : List Int} {j n : Nat} {V : Int} (h : xs.length < j + n) (hj : j ≤ xs.length) (hV : 0 ≤ V) : ¬ 0 ≤ ctF (xs.drop j) n V := fun hh => by
  have := ctF_len n _ V hV hh
  simp at this
  omega

section
variable {xs : List Int} {pos b sz : Nat} {acc c : Int}
/-- What a character that was read, or one that could not be read, says of the whole count. -/
theorem rn_ok (hp : pos < xs.length) (hc : xs[pos]?.getD 0 = c) (hs : szF c = sz) (h0 : sz ≠ 0) {V : Int} (hV : ctF (xs.drop (pos + 1)) (sz - 1) (v0F c) = V) (hok : okV V (lowF c) = true) (HR : rnF (b + 1) (xs.drop pos) acc = rn xs) :
    rnF b (xs.drop (pos + sz)) (acc + 1) = rn xs := by
  have e : chr (xs.drop pos) = sz := by rw [chr_at hp, hc, hs, if_neg h0, hV, hok]; rfl
  rw [← HR, rn_step hp (by rw [e]; exact h0), e]
theorem rn_no (hp : pos < xs.length) (hc : xs[pos]?.getD 0 = c) (h : szF c = 0 ∨ okV (ctF (xs.drop (pos + 1)) (szF c - 1) (v0F c)) (lowF c) = false) (HR : rnF (b + 1) (xs.drop pos) acc = rn xs) : (-1 : Int) = rn xs := by
  have e : chr (xs.drop pos) = 0 := by
    rw [chr_at hp, hc]
    by_cases h0 : szF c = 0
    · rw [if_pos h0]
    · rw [if_neg h0, h.resolve_left h0]; rfl
  rw [← HR, rn_bad hp e]
end
theorem okV_neg {v low : Int} (h0 : 0 ≤ low) (h : ¬ 0 ≤ v) : okV v low = false := by
  rw [Bool.eq_false_iff]; intro hh; have := (okV_iff _ _).1 hh; omega

set_option maxRecDepth 1000000 in
set_option maxHeartbeats 4000000 in
theorem refRunesIn (b off len cap : Nat) (xs : List Int) (w : World) (hl : xs.length = len) (_hlc : len ≤ cap) (_hm : cap ≤ 9223372036854775807) (hreach : len ≤ 140737488355328)
    (hc : ∀ i, i < len → w.cell? ⟨b, off + i, none⟩ = some (.int .u8 (xs.getD i 0))) (hr : ∀ i, 0 ≤ xs.getD i 0 ∧ xs.getD i 0 ≤ 255) :
    Calls Try.prog 64 #[.slice (some ⟨b, off, none⟩) len cap] w fun e w' => e = .returned (.int .i64 (rn xs)) ∧ w = w' := by
  have Hl := hid hl
  clear hl
  go_enter Try.func64, Try.ntmps64
  go_wp2
  go_loop [3, 4] (fun n i => ∃ (pos f : Nat) (acc : Int), n = .int .i64 acc ∧ i = .int .i64 pos ∧ 0 ≤ acc ∧ acc ≤ pos ∧ pos ≤ len ∧ Hid (rnF f (xs.drop pos) acc = rn xs) ∧ len ≤ pos + f) (fun _ i => len - (intOf i).toNat)
  case atStart => exact ⟨0, len, 0, rfl, rfl, by omega, by omega, by omega, by show rnF len (xs.drop 0) 0 = _; rw [List.drop_zero, ← Hl.out]; rfl, by omega⟩
  case round =>
    obtain ⟨pos, f, acc, rfl, rfl, ha0, hap, hpl, HR, hf⟩ := hrel
    by_cases hp : pos < len
    · obtain ⟨f, rfl⟩ : ∃ f', f = f' + 1 := ⟨f - 1, by omega⟩
      obtain ⟨c, hcc⟩ : ∃ c, xs[pos]?.getD 0 = c := ⟨_, rfl⟩
      have hcb : 0 ≤ c ∧ c ≤ 255 := by have := hr pos; rw [List.getD_eq_getElem?_getD, hcc] at this; exact this
      have hck : w.cell? ⟨b, off + pos, none⟩ = some (.int .u8 c) := by rw [hc pos hp, List.getD_eq_getElem?_getD, hcc]
      have Hcc := hid hcc
      have HX : Hid (pos < xs.length) := hid (by rw [Hl.out]; exact hp)
      have hb1 : c ≤ 255 := hcb.2
      have hb0 : 0 ≤ c := hcb.1
      have HC := hid hc
      have HRr := hid hr
      clear hcc hcb hc hr
      by_cases c1 : c < 128
      · have HS : Hid (rnF f (xs.drop (pos + 1)) (acc + 1) = rn xs) := hid (rn_ok (sz := 1) HX.out Hcc.out (by simp [szF, c1]) (by decide) rfl ((okV_iff _ _).2 (by simp [v0F, lowF, c1, ctF]; omega)) HR.out)
        clear HR
        go_wp2
        refine wp_loop_rounds 1 ?_
        rw [rounds_succ]
        go_wp2
        all_goals exact ⟨⟨pos + 1, f, acc + 1, by go_num, by go_num, by omega, by omega, by omega, HS, by omega⟩, by simp [intOf]; omega⟩
      by_cases c2 : c < 192
      · have HM : Hid ((-1 : Int) = rn xs) := hid (rn_no HX.out Hcc.out (.inl (by unfold szF; (repeat' split) <;> omega)) HR.out)
        clear HR
        go_wp2
        try rw [Exit.noGoto_ret]
        go_ret
        exact ⟨ret_int HM.out, rfl⟩
      by_cases c3 : c < 224
      · have hs : szF c = 2 := by unfold szF; (repeat' split) <;> omega
        have hv : v0F c = c - 192 := by unfold v0F; (repeat' split) <;> omega
        have hlw : lowF c = 128 := by unfold lowF; (repeat' split) <;> omega
        have HNo : Hid (okV (ctF (xs.drop (pos + 1)) 1 (c - 192)) 128 = false → (-1 : Int) = rn xs) := hid (fun h => rn_no HX.out Hcc.out (.inr (by rw [hs, hv, hlw]; exact h)) HR.out)
        have HYes : Hid (okV (ctF (xs.drop (pos + 1)) 1 (c - 192)) 128 = true → rnF f (xs.drop (pos + 2)) (acc + 1) = rn xs) := hid (fun h => rn_ok (sz := 2) HX.out Hcc.out hs (by decide) (by rw [hv]) (by rw [hlw]; exact h) HR.out)
        clear HR hs hv hlw
        by_cases hfit : pos + 2 ≤ len
        · go_wp2
          go_loop [7, 9] (fun v k => ∃ (j : Nat) (V : Int), 1 ≤ j ∧ j ≤ 2 ∧ 0 ≤ V ∧ V < 8388608 ∧ (j ≤ 3 → V < 131072) ∧ (j ≤ 2 → V < 2048) ∧ (j ≤ 1 → V < 32) ∧ v = .int .i64 V ∧ k = .int .i64 j ∧ Hid (ctF (xs.drop (pos + j)) (2 - j) V = ctF (xs.drop (pos + 1)) 1 (c - 192))) (fun _ k => 2 - (intOf k).toNat)
          case atStart => exact ⟨1, c - 192, by omega, by omega, by omega, by omega, by omega, by omega, by omega, by first | rfl | go_num, rfl, hid rfl⟩
          case round =>
            obtain ⟨j, V, hj1, hjs, hV0, hV4, hV3, hV2, hV1, rfl, rfl, HT⟩ := hrel
            by_cases hj : j < 2
            · obtain ⟨d, hdd⟩ : ∃ d, xs[pos + j]?.getD 0 = d := ⟨_, rfl⟩
              have hdk : w.cell? ⟨b, off + (pos + j), none⟩ = some (.int .u8 d) := by rw [HC.out (pos + j) (by omega), List.getD_eq_getElem?_getD, hdd]
              have hdb : 0 ≤ d ∧ d ≤ 255 := by have := HRr.out (pos + j); rw [List.getD_eq_getElem?_getD, hdd] at this; exact this
              have hd0 := hdb.1
              have hd1 := hdb.2
              have Hdd := hid hdd
              clear hdd hdb
              have HXj : Hid (pos + j < xs.length) := hid (by rw [Hl.out]; omega)
              obtain ⟨n, hn⟩ : ∃ n, 2 - j = n + 1 := ⟨2 - j - 1, by omega⟩
              have Hn := hid hn
              clear hn
              by_cases hbad : d < 128 ∨ 192 ≤ d
              · have HM : Hid ((-1 : Int) = rn xs) := hid (HNo.out (by rw [← HT.out, Hn.out, ct_bad HXj.out (by rw [Hdd.out]; exact hbad)]; exact okV_neg (by decide) (by decide)))
                clear HT
                rcases hbad with hbad | hbad
                all_goals
                  go_wp2
                  try rw [Exit.noGoto_ret]
                  go_ret
                  exact ⟨ret_int HM.out, rfl⟩
              · have h1 : ¬ d < 128 := fun h => hbad (.inl h)
                have h2 : ¬ 192 ≤ d := fun h => hbad (.inr h)
                have HT2 : Hid (ctF (xs.drop (pos + (j + 1))) (2 - (j + 1)) (V * 64 + d - 128) = ctF (xs.drop (pos + 1)) 1 (c - 192)) := hid (by rw [← HT.out, Hn.out, ct_step HXj.out (by rw [Hdd.out]; exact hbad), Hdd.out, show 2 - (j + 1) = n by have := Hn.out; omega]; rfl)
                clear HT hbad
                go_wp2
                exact ⟨⟨j + 1, V * 64 + d - 128, by omega, by omega, by omega, by omega, by omega, by omega, by omega, by go_num, by go_num, HT2⟩, by simp [intOf]; omega⟩
            · obtain rfl : j = 2 := by omega
              have HV : Hid (ctF (xs.drop (pos + 1)) 1 (c - 192) = V) := hid (by rw [← HT.out]; cases (xs.drop (pos + 2)) <;> rfl)
              clear HT
              by_cases hok : okV V 128 = true
              · have HS : Hid (rnF f (xs.drop (pos + 2)) (acc + 1) = rn xs) := hid (HYes.out (by rw [HV.out]; exact hok))
                have hok' := (okV_iff _ _).1 hok
                have o1 := hok'.1
                have o2 := hok'.2.1
                have o3 : V < 55296 ∨ 57343 < V := by omega
                clear hok hok'
                rcases o3 with o3 | o3
                all_goals go_wp2
                all_goals
                  exact ⟨⟨pos + 2, f, acc + 1, by go_num, by go_num, by omega, by omega, by omega, HS, by omega⟩, by simp [intOf]; omega⟩
              · have HM : Hid ((-1 : Int) = rn xs) := hid (HNo.out (by rw [HV.out]; simpa using hok))
                have hok' : V < 128 ∨ 1114111 < V ∨ (55296 ≤ V ∧ V ≤ 57343) := by
                  by_cases a1 : V < 128
                  · exact .inl a1
                  by_cases a2 : 1114111 < V
                  · exact .inr (.inl a2)
                  exact .inr (.inr (Classical.byContradiction fun a3 => hok ((okV_iff _ _).2 ⟨by omega, by omega, a3⟩)))
                clear hok
                by_cases a1 : V < 128
                · clear hok'
                  go_wp2
                  try rw [Exit.noGoto_ret]
                  go_ret
                  exact ⟨ret_int HM.out, rfl⟩
                by_cases a2 : 1114111 < V
                · clear hok'
                  go_wp2
                  try rw [Exit.noGoto_ret]
                  go_ret
                  exact ⟨ret_int HM.out, rfl⟩
                have a3 : 55296 ≤ V := by omega
                have a4 : V ≤ 57343 := by omega
                clear hok'
                go_wp2
                try rw [Exit.noGoto_ret]
                go_ret
                exact ⟨ret_int HM.out, rfl⟩
        · have HM : Hid ((-1 : Int) = rn xs) := hid (HNo.out (okV_neg (by decide) (ct_short (by rw [Hl.out]; omega) (by have := HX.out; omega) (by omega))))
          go_wp2
          try rw [Exit.noGoto_ret]
          go_ret
          exact ⟨ret_int HM.out, rfl⟩
      by_cases c4 : c < 240
      · have hs : szF c = 3 := by unfold szF; (repeat' split) <;> omega
        have hv : v0F c = c - 224 := by unfold v0F; (repeat' split) <;> omega
        have hlw : lowF c = 2048 := by unfold lowF; (repeat' split) <;> omega
        have HNo : Hid (okV (ctF (xs.drop (pos + 1)) 2 (c - 224)) 2048 = false → (-1 : Int) = rn xs) := hid (fun h => rn_no HX.out Hcc.out (.inr (by rw [hs, hv, hlw]; exact h)) HR.out)
        have HYes : Hid (okV (ctF (xs.drop (pos + 1)) 2 (c - 224)) 2048 = true → rnF f (xs.drop (pos + 3)) (acc + 1) = rn xs) := hid (fun h => rn_ok (sz := 3) HX.out Hcc.out hs (by decide) (by rw [hv]) (by rw [hlw]; exact h) HR.out)
        clear HR hs hv hlw
        by_cases hfit : pos + 3 ≤ len
        · go_wp2
          go_loop [7, 9] (fun v k => ∃ (j : Nat) (V : Int), 1 ≤ j ∧ j ≤ 3 ∧ 0 ≤ V ∧ V < 8388608 ∧ (j ≤ 3 → V < 131072) ∧ (j ≤ 2 → V < 2048) ∧ (j ≤ 1 → V < 32) ∧ v = .int .i64 V ∧ k = .int .i64 j ∧ Hid (ctF (xs.drop (pos + j)) (3 - j) V = ctF (xs.drop (pos + 1)) 2 (c - 224))) (fun _ k => 3 - (intOf k).toNat)
          case atStart => exact ⟨1, c - 224, by omega, by omega, by omega, by omega, by omega, by omega, by omega, by first | rfl | go_num, rfl, hid rfl⟩
          case round =>
            obtain ⟨j, V, hj1, hjs, hV0, hV4, hV3, hV2, hV1, rfl, rfl, HT⟩ := hrel
            by_cases hj : j < 3
            · obtain ⟨d, hdd⟩ : ∃ d, xs[pos + j]?.getD 0 = d := ⟨_, rfl⟩
              have hdk : w.cell? ⟨b, off + (pos + j), none⟩ = some (.int .u8 d) := by rw [HC.out (pos + j) (by omega), List.getD_eq_getElem?_getD, hdd]
              have hdb : 0 ≤ d ∧ d ≤ 255 := by have := HRr.out (pos + j); rw [List.getD_eq_getElem?_getD, hdd] at this; exact this
              have hd0 := hdb.1
              have hd1 := hdb.2
              have Hdd := hid hdd
              clear hdd hdb
              have HXj : Hid (pos + j < xs.length) := hid (by rw [Hl.out]; omega)
              obtain ⟨n, hn⟩ : ∃ n, 3 - j = n + 1 := ⟨3 - j - 1, by omega⟩
              have Hn := hid hn
              clear hn
              by_cases hbad : d < 128 ∨ 192 ≤ d
              · have HM : Hid ((-1 : Int) = rn xs) := hid (HNo.out (by rw [← HT.out, Hn.out, ct_bad HXj.out (by rw [Hdd.out]; exact hbad)]; exact okV_neg (by decide) (by decide)))
                clear HT
                rcases hbad with hbad | hbad
                all_goals
                  go_wp2
                  try rw [Exit.noGoto_ret]
                  go_ret
                  exact ⟨ret_int HM.out, rfl⟩
              · have h1 : ¬ d < 128 := fun h => hbad (.inl h)
                have h2 : ¬ 192 ≤ d := fun h => hbad (.inr h)
                have HT2 : Hid (ctF (xs.drop (pos + (j + 1))) (3 - (j + 1)) (V * 64 + d - 128) = ctF (xs.drop (pos + 1)) 2 (c - 224)) := hid (by rw [← HT.out, Hn.out, ct_step HXj.out (by rw [Hdd.out]; exact hbad), Hdd.out, show 3 - (j + 1) = n by have := Hn.out; omega]; rfl)
                clear HT hbad
                go_wp2
                exact ⟨⟨j + 1, V * 64 + d - 128, by omega, by omega, by omega, by omega, by omega, by omega, by omega, by go_num, by go_num, HT2⟩, by simp [intOf]; omega⟩
            · obtain rfl : j = 3 := by omega
              have HV : Hid (ctF (xs.drop (pos + 1)) 2 (c - 224) = V) := hid (by rw [← HT.out]; cases (xs.drop (pos + 3)) <;> rfl)
              clear HT
              by_cases hok : okV V 2048 = true
              · have HS : Hid (rnF f (xs.drop (pos + 3)) (acc + 1) = rn xs) := hid (HYes.out (by rw [HV.out]; exact hok))
                have hok' := (okV_iff _ _).1 hok
                have o1 := hok'.1
                have o2 := hok'.2.1
                have o3 : V < 55296 ∨ 57343 < V := by omega
                clear hok hok'
                rcases o3 with o3 | o3
                all_goals go_wp2
                all_goals
                  exact ⟨⟨pos + 3, f, acc + 1, by go_num, by go_num, by omega, by omega, by omega, HS, by omega⟩, by simp [intOf]; omega⟩
              · have HM : Hid ((-1 : Int) = rn xs) := hid (HNo.out (by rw [HV.out]; simpa using hok))
                have hok' : V < 2048 ∨ 1114111 < V ∨ (55296 ≤ V ∧ V ≤ 57343) := by
                  by_cases a1 : V < 2048
                  · exact .inl a1
                  by_cases a2 : 1114111 < V
                  · exact .inr (.inl a2)
                  exact .inr (.inr (Classical.byContradiction fun a3 => hok ((okV_iff _ _).2 ⟨by omega, by omega, a3⟩)))
                clear hok
                by_cases a1 : V < 2048
                · clear hok'
                  go_wp2
                  try rw [Exit.noGoto_ret]
                  go_ret
                  exact ⟨ret_int HM.out, rfl⟩
                by_cases a2 : 1114111 < V
                · clear hok'
                  go_wp2
                  try rw [Exit.noGoto_ret]
                  go_ret
                  exact ⟨ret_int HM.out, rfl⟩
                have a3 : 55296 ≤ V := by omega
                have a4 : V ≤ 57343 := by omega
                clear hok'
                go_wp2
                try rw [Exit.noGoto_ret]
                go_ret
                exact ⟨ret_int HM.out, rfl⟩
        · have HM : Hid ((-1 : Int) = rn xs) := hid (HNo.out (okV_neg (by decide) (ct_short (by rw [Hl.out]; omega) (by have := HX.out; omega) (by omega))))
          go_wp2
          try rw [Exit.noGoto_ret]
          go_ret
          exact ⟨ret_int HM.out, rfl⟩
      by_cases c5 : c < 248
      · have hs : szF c = 4 := by unfold szF; (repeat' split) <;> omega
        have hv : v0F c = c - 240 := by unfold v0F; (repeat' split) <;> omega
        have hlw : lowF c = 65536 := by unfold lowF; (repeat' split) <;> omega
        have HNo : Hid (okV (ctF (xs.drop (pos + 1)) 3 (c - 240)) 65536 = false → (-1 : Int) = rn xs) := hid (fun h => rn_no HX.out Hcc.out (.inr (by rw [hs, hv, hlw]; exact h)) HR.out)
        have HYes : Hid (okV (ctF (xs.drop (pos + 1)) 3 (c - 240)) 65536 = true → rnF f (xs.drop (pos + 4)) (acc + 1) = rn xs) := hid (fun h => rn_ok (sz := 4) HX.out Hcc.out hs (by decide) (by rw [hv]) (by rw [hlw]; exact h) HR.out)
        clear HR hs hv hlw
        by_cases hfit : pos + 4 ≤ len
        · go_wp2
          go_loop [7, 9] (fun v k => ∃ (j : Nat) (V : Int), 1 ≤ j ∧ j ≤ 4 ∧ 0 ≤ V ∧ V < 8388608 ∧ (j ≤ 3 → V < 131072) ∧ (j ≤ 2 → V < 2048) ∧ (j ≤ 1 → V < 32) ∧ v = .int .i64 V ∧ k = .int .i64 j ∧ Hid (ctF (xs.drop (pos + j)) (4 - j) V = ctF (xs.drop (pos + 1)) 3 (c - 240))) (fun _ k => 4 - (intOf k).toNat)
          case atStart => exact ⟨1, c - 240, by omega, by omega, by omega, by omega, by omega, by omega, by omega, by first | rfl | go_num, rfl, hid rfl⟩
          case round =>
            obtain ⟨j, V, hj1, hjs, hV0, hV4, hV3, hV2, hV1, rfl, rfl, HT⟩ := hrel
            by_cases hj : j < 4
            · obtain ⟨d, hdd⟩ : ∃ d, xs[pos + j]?.getD 0 = d := ⟨_, rfl⟩
              have hdk : w.cell? ⟨b, off + (pos + j), none⟩ = some (.int .u8 d) := by rw [HC.out (pos + j) (by omega), List.getD_eq_getElem?_getD, hdd]
              have hdb : 0 ≤ d ∧ d ≤ 255 := by have := HRr.out (pos + j); rw [List.getD_eq_getElem?_getD, hdd] at this; exact this
              have hd0 := hdb.1
              have hd1 := hdb.2
              have Hdd := hid hdd
              clear hdd hdb
              have HXj : Hid (pos + j < xs.length) := hid (by rw [Hl.out]; omega)
              obtain ⟨n, hn⟩ : ∃ n, 4 - j = n + 1 := ⟨4 - j - 1, by omega⟩
              have Hn := hid hn
              clear hn
              by_cases hbad : d < 128 ∨ 192 ≤ d
              · have HM : Hid ((-1 : Int) = rn xs) := hid (HNo.out (by rw [← HT.out, Hn.out, ct_bad HXj.out (by rw [Hdd.out]; exact hbad)]; exact okV_neg (by decide) (by decide)))
                clear HT
                rcases hbad with hbad | hbad
                all_goals
                  go_wp2
                  try rw [Exit.noGoto_ret]
                  go_ret
                  exact ⟨ret_int HM.out, rfl⟩
              · have h1 : ¬ d < 128 := fun h => hbad (.inl h)
                have h2 : ¬ 192 ≤ d := fun h => hbad (.inr h)
                have HT2 : Hid (ctF (xs.drop (pos + (j + 1))) (4 - (j + 1)) (V * 64 + d - 128) = ctF (xs.drop (pos + 1)) 3 (c - 240)) := hid (by rw [← HT.out, Hn.out, ct_step HXj.out (by rw [Hdd.out]; exact hbad), Hdd.out, show 4 - (j + 1) = n by have := Hn.out; omega]; rfl)
                clear HT hbad
                go_wp2
                exact ⟨⟨j + 1, V * 64 + d - 128, by omega, by omega, by omega, by omega, by omega, by omega, by omega, by go_num, by go_num, HT2⟩, by simp [intOf]; omega⟩
            · obtain rfl : j = 4 := by omega
              have HV : Hid (ctF (xs.drop (pos + 1)) 3 (c - 240) = V) := hid (by rw [← HT.out]; cases (xs.drop (pos + 4)) <;> rfl)
              clear HT
              by_cases hok : okV V 65536 = true
              · have HS : Hid (rnF f (xs.drop (pos + 4)) (acc + 1) = rn xs) := hid (HYes.out (by rw [HV.out]; exact hok))
                have hok' := (okV_iff _ _).1 hok
                have o1 := hok'.1
                have o2 := hok'.2.1
                have o3 : V < 55296 ∨ 57343 < V := by omega
                clear hok hok'
                rcases o3 with o3 | o3
                all_goals go_wp2
                all_goals
                  exact ⟨⟨pos + 4, f, acc + 1, by go_num, by go_num, by omega, by omega, by omega, HS, by omega⟩, by simp [intOf]; omega⟩
              · have HM : Hid ((-1 : Int) = rn xs) := hid (HNo.out (by rw [HV.out]; simpa using hok))
                have hok' : V < 65536 ∨ 1114111 < V ∨ (55296 ≤ V ∧ V ≤ 57343) := by
                  by_cases a1 : V < 65536
                  · exact .inl a1
                  by_cases a2 : 1114111 < V
                  · exact .inr (.inl a2)
                  exact .inr (.inr (Classical.byContradiction fun a3 => hok ((okV_iff _ _).2 ⟨by omega, by omega, a3⟩)))
                clear hok
                by_cases a1 : V < 65536
                · clear hok'
                  go_wp2
                  try rw [Exit.noGoto_ret]
                  go_ret
                  exact ⟨ret_int HM.out, rfl⟩
                by_cases a2 : 1114111 < V
                · clear hok'
                  go_wp2
                  try rw [Exit.noGoto_ret]
                  go_ret
                  exact ⟨ret_int HM.out, rfl⟩
                have a3 : 55296 ≤ V := by omega
                have a4 : V ≤ 57343 := by omega
                clear hok'
                go_wp2
                try rw [Exit.noGoto_ret]
                go_ret
                exact ⟨ret_int HM.out, rfl⟩
        · have HM : Hid ((-1 : Int) = rn xs) := hid (HNo.out (okV_neg (by decide) (ct_short (by rw [Hl.out]; omega) (by have := HX.out; omega) (by omega))))
          go_wp2
          try rw [Exit.noGoto_ret]
          go_ret
          exact ⟨ret_int HM.out, rfl⟩
      · have HM : Hid ((-1 : Int) = rn xs) := hid (rn_no HX.out Hcc.out (.inl (by unfold szF; (repeat' split) <;> omega)) HR.out)
        clear HR
        go_wp2
        try rw [Exit.noGoto_ret]
        go_ret
        exact ⟨ret_int HM.out, rfl⟩
    · have HE : Hid (acc = rn xs) := by show _ = _; rw [← HR.out, rn_end (by rw [Hl.out]; exact hp)]
      clear HR
      go_wp2
      go_ret
      exact ⟨ret_int HE.out, rfl⟩

/-- The document's Runes at a slice that can be read. -/
theorem refRunesR (a : Option Addr) (len cap : Nat) (xs : List Int) (w : World) (h : Reads w a len cap xs) (hreach : len ≤ 140737488355328) :
    Calls Try.prog 64 #[.slice a len cap] w fun e w' => e = .returned (.int .i64 (rn xs)) ∧ w = w' := by
  rcases h.cells with ⟨h0, _⟩ | ⟨b, off, rfl, hc⟩
  · subst h0
    have hx : xs = [] := List.eq_nil_of_length_eq_zero h.length
    subst hx
    exact refRunesZero a cap w
  · exact refRunesIn b off len cap xs w h.length h.le h.max hreach hc h.bd
end Go.Proofs.Ytgcimeldofbgkaa
