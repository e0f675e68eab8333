/-
  Get: the program's walk over chunks; Get as a whole.
-/
import Derived.Test.YtgcimeldofbgkaaSI
namespace Go.Proofs.Ytgcimeldofbgkaa
open Go.RowKit
set_option maxRecDepth 1000000
set_option maxHeartbeats 2000000

/-- The value's own cells behind a store of its bytes. -/
theorem vcells1 {w w2 w3 : World} {x y z v : Value} (hb2 : Below (w.alloc (.cells #[x, y, z] 26)).heap.size (w.alloc (.cells #[x, y, z] 26)) w2) (hb3 : Below (w2.setCell ⟨w.heap.size, 1, none⟩ v).heap.size (w2.setCell ⟨w.heap.size, 1, none⟩ v) w3) :
    w3.cell? ⟨w.heap.size, 0, none⟩ = some x ∧ w3.cell? ⟨w.heap.size, 1, none⟩ = some v ∧ w3.cell? ⟨w.heap.size, 2, none⟩ = some z ∧ (∀ o, w3.frozen? ⟨w.heap.size, o, none⟩ = false) ∧ w.heap.size < w3.heap.size ∧ Below w.heap.size w w3 := by
  obtain ⟨d0, d1, d2⟩ := vcells hb2
  have hs : w.heap.size < w2.heap.size := grew hb2
  have hs2 : (w2.setCell ⟨w.heap.size, 1, none⟩ v).heap.size = w2.heap.size := by simp
  have hlt : w.heap.size < (w2.setCell ⟨w.heap.size, 1, none⟩ v).heap.size := by omega
  have hc : ∀ o, w3.cell? ⟨w.heap.size, o, none⟩ = (w2.setCell ⟨w.heap.size, 1, none⟩ v).cell? ⟨w.heap.size, o, none⟩ := fun o => hb3.cell (p := ⟨w.heap.size, o, none⟩) hlt
  refine ⟨?_, ?_, ?_, ?_, ?_, ?_⟩
  · rw [hc]; simp [go_sem, d0]
  · rw [hc]; simp [go_sem, d1]
  · rw [hc]; simp [go_sem, d2]
  · intro o
    rw [hb3.frozen (p := ⟨w.heap.size, o, none⟩) hlt]
    simp [go_sem, froz hb2 o]
  · have := hb3.size; omega
  · exact (((below_alloc (w := w) _).trans (hb2.mono (by simp))).setCell (p := ⟨w.heap.size, 1, none⟩) (Nat.le_refl _) v).trans (hb3.mono (by omega))
section
variable (k nx er : Int) (a : Option Addr) (len cap : Nat) (p : Int) (w : World) (ys : List Int)
theorem getRowErr (hk : k = 14 ∨ k = 15) (her : (er == 0) = false)
    (HG : ∀ W : World, Below w.heap.size w W → Calls Try.prog 37 #[.slice a len cap, .int .i64 p] W fun e w' => ∃ v, e = .returned (.tuple #[v, .int .i64 nx, .int .i64 er]) ∧ w'.ownsRow W.heap.size 5 1 v ys.length (ys.map (Value.int .u8)) ∧ Below W.heap.size W w') :
    Calls Try.prog 20 #[.int .i64 k, .slice a len cap, .int .i64 p] w fun e w' => Gave w (.none er) e w' := by
  have HS := hid (fun W => singleW k W)
  have HN := hid HG
  have hne : (er != 0) = true := by unfold bne; rw [her]; rfl
  clear HG
  rcases hk with rfl | rfl
  all_goals
    rw [show kone _ = true from rfl] at HS
    go_enter Try.func20, Try.ntmps20
    go_wp2_with (first | (go_at_call 36; refine (HS.out _).mono ?_; rintro e w' ⟨rfl, rfl⟩) | (go_at_call 37; refine (HN.out _ (below_alloc _)).mono ?_; rintro e w2 ⟨v, rfl, ho, hb2⟩; obtain ⟨b2, c2, rfl⟩ := own_shape ho; obtain ⟨d0, d1, d2⟩ := vcells hb2; have hfz := froz hb2; have hgr := grew hb2; replace hb2 := hid hb2; replace ho := hid ho))
    have hbel := below_set3 ((below_trans (below_alloc _) hb2.out).setCell (p := ⟨w.heap.size, 1, none⟩) (Nat.le_refl _) (.slice b2 ys.length c2)) (.int .u64 0) (.slice none 0 0) (.slice none 0 0)
    exact bodyPost_ret (v := .tuple #[.agg #[.int .u64 0, .slice none 0 0, .slice none 0 0], .int .i64 0, .int .i64 er]) (by simp [results, Try.results20, go_sem, d0, d1, d2]) rfl (gave_err rfl hbel)

theorem getRowOk (hk : k = 14 ∨ k = 15) (hys : ∀ x ∈ ys, 0 ≤ x ∧ x ≤ 255)
    (HG : ∀ W : World, Below w.heap.size w W → Calls Try.prog 37 #[.slice a len cap, .int .i64 p] W fun e w' => ∃ v, e = .returned (.tuple #[v, .int .i64 nx, .int .i64 0]) ∧ w'.ownsRow W.heap.size 5 1 v ys.length (ys.map (Value.int .u8)) ∧ Below W.heap.size W w') :
    Calls Try.prog 20 #[.int .i64 k, .slice a len cap, .int .i64 p] w fun e w' => Gave w (if k = 14 ∧ rn ys < 0 then .none 8 else ⟨0, ys, nx, 0⟩) e w' := by
  have HS := hid (fun W => singleW k W)
  have HN := hid HG
  clear HG
  have HF := hid (fun (b2 : Option Addr) (c2 : Nat) (W : World) (hr : Reads W b2 ys.length c2 ys) => faultW k 0 b2 none ys.length c2 0 0 W ys (by omega) (by omega) hr (by omega))
  by_cases hbad : k = 14 ∧ rn ys < 0
  · rw [if_pos hbad]
    obtain ⟨rfl, hr⟩ := hbad
    rw [flt_t 0 0 (xs := ys) (by rw [vfit_14]; rfl) hr] at HF
    clear hk hr
    rw [show kone _ = true from rfl] at HS
    go_enter Try.func20, Try.ntmps20
    go_wp2_with (first | (go_at_call 36; refine (HS.out _).mono ?_; rintro e w' ⟨rfl, rfl⟩) | (go_at_call 37; refine (HN.out _ (below_alloc _)).mono ?_; rintro e w2 ⟨v, rfl, ho, hb2⟩; obtain ⟨b2, c2, rfl⟩ := own_shape ho; obtain ⟨d0, d1, d2⟩ := vcells hb2; have hfz := froz hb2; have hgr := grew hb2; replace hb2 := hid hb2; replace ho := hid ho) | (go_at_call 30; refine (HF.out b2 c2 _ (own_reads' (ownsRow_setCell_below ho.out (a := ⟨w.heap.size, 1, none⟩) (by simp) _) hys)).mono ?_; rintro e w3 ⟨rfl, hb3⟩; obtain ⟨f0, f1, f2, ffz, fgr, fbel⟩ := vcells1 hb2.out hb3; clear d0 d1 d2 hfz hgr; replace hb3 := hid hb3; replace fbel := hid fbel))
    exact bodyPost_ret (v := .tuple #[.agg #[.int .u64 0, .slice none 0 0, .slice none 0 0], .int .i64 0, .int .i64 8]) (by simp [results, Try.results20, go_sem, f0, f1, f2]) rfl (gave_err rfl (below_set3 fbel.out _ _ _))
  · rw [if_neg hbad]
    have hv : vfit k 0 ys.length 0 = true := by rcases hk with rfl | rfl <;> simp [vfit]
    have hk1 : kone k = true := by rcases hk with rfl | rfl <;> rfl
    rw [flt_0 k 0 0 (xs := ys) hk1 hv hbad] at HF
    rw [hk1] at HS
    clear hv hk1 hbad
    rcases hk with rfl | rfl
    all_goals
      go_enter Try.func20, Try.ntmps20
      go_wp2_with (first | (go_at_call 36; refine (HS.out _).mono ?_; rintro e w' ⟨rfl, rfl⟩) | (go_at_call 37; refine (HN.out _ (below_alloc _)).mono ?_; rintro e w2 ⟨v, rfl, ho, hb2⟩; obtain ⟨b2, c2, rfl⟩ := own_shape ho; obtain ⟨d0, d1, d2⟩ := vcells hb2; have hfz := froz hb2; have hgr := grew hb2; replace hb2 := hid hb2; replace ho := hid ho) | (go_at_call 30; refine (HF.out b2 c2 _ (own_reads' (ownsRow_setCell_below ho.out (a := ⟨w.heap.size, 1, none⟩) (by simp) _) hys)).mono ?_; rintro e w3 ⟨rfl, hb3⟩; obtain ⟨f0, f1, f2, ffz, fgr, fbel⟩ := vcells1 hb2.out hb3; clear d0 d1 d2 hfz hgr; replace hb3 := hid hb3; replace fbel := hid fbel))
      have hown := own_set3 (own_kept (ownsRow_setCell_below ho.out (a := ⟨w.heap.size, 1, none⟩) (by simp) (.slice b2 ys.length c2)) hb3.out) (b := w.heap.size) (by simp) (.int .u64 0) (.slice b2 ys.length c2) (.slice none 0 0)
      exact bodyPost_ret (v := .tuple #[.agg #[.int .u64 0, .slice b2 ys.length c2, .slice none 0 0], .int .i64 nx, .int .i64 0]) (by simp [results, Try.results20, go_sem, f0, f1, f2]) rfl (gave_row rfl (own_reads' hown hys) (below_set3 fbel.out _ _ _))
end

theorem getN_bd {k : Int} {xs : List Int} (h : ∀ x ∈ xs, 0 ≤ x ∧ x ≤ 255) (p : Nat) : 0 ≤ (getN k xs p).1 ∧ (getN k xs p).1 < 18446744073709551616 := by
  have hv := gv_bd h p
  have hw := gw_bd h p
  have hw8 : 0 ≤ (gw xs p 8).1 ∧ (gw xs p 8).1 < 18446744073709551616 := by
    unfold gw
    split
    · exact ⟨by decide, by decide⟩
    · have hb := word_bd ((xs.drop p).take 8) (fun x hx => h x (List.mem_of_mem_drop (List.mem_of_mem_take hx)))
      have hl : ((xs.drop p).take 8).length ≤ 8 := by simp; omega
      have := pow_le_64 _ hl
      exact ⟨hb.1, by have := hb.2; simp only; omega⟩
  unfold getN
  split
  · simp only [uns]; omega
  · split
    · simp only [wid]; split <;> omega
    · split
      · omega
      · split <;> omega
theorem kone_num {k : Int} (hk : kone k = true) (h14 : k ≠ 14) (h15 : k ≠ 15) : nfit k 0 = true := by
  rcases kone_cases hk with rfl | rfl | rfl | rfl | rfl | rfl | rfl | rfl | rfl | rfl | rfl | rfl | rfl | rfl | rfl | rfl
  all_goals first | rfl | exact absurd rfl h14 | exact absurd rfl h15
/-- Get at any place: the kind, the place, then what is there. -/
def getE (k : Int) (xs : List Int) (p : Int) : GotV := if kone k = false ∨ p < 0 ∨ (xs.length : Int) < p then .none 18 else getV k xs p.toNat
theorem getE_no {k : Int} {xs : List Int} {p : Int} (h : kone k = false ∨ p < 0 ∨ (xs.length : Int) < p) : getE k xs p = .none 18 := by unfold getE; rw [if_pos h]
theorem getE_in {k : Int} {xs : List Int} {p : Nat} (hk : kone k = true) (h : p ≤ xs.length) : getE k xs p = getV k xs p := by unfold getE; rw [if_neg (by simp [hk]; omega)]; simp
theorem getKW (k : Int) (a : Option Addr) (len cap : Nat) (p : Int) (xs : List Int) (w : World) (h : Reads w a len cap xs) (hreach : len ≤ 140737488355328) :
    Calls Try.prog 20 #[.int .i64 k, .slice a len cap, .int .i64 p] w fun e w' => Gave w (getE k xs p) e w' := by
  have hlen := h.length
  cases hk : kone k with
  | false => rw [getE_no (.inl hk)]; exact getKindNo k a len cap p w hk
  | true =>
    by_cases hout : p < 0 ∨ (len : Int) < p
    · rw [getE_no (.inr (by rw [hlen]; exact hout))]
      by_cases h45 : k = 14 ∨ k = 15
      · refine getRowErr k 0 18 a len cap p w [] h45 rfl (fun W hW => (getChunkOut a len cap p W (by omega) hout).mono ?_)
        rintro e w' ⟨rfl, rfl⟩
        exact ⟨_, rfl, World.ownsRow_nil _ _ _ _, Below.refl _ _⟩
      · exact getNumErr k 0 0 18 a len cap p w hk (by simp; omega) (by simp; omega) rfl (fun W hW => getNumOut k a len cap p W (by omega) hout (kone_num hk (by omega) (by omega)))
    · obtain ⟨q, rfl⟩ : ∃ q : Nat, p = q := ⟨p.toNat, by omega⟩
      have hq : q ≤ len := by omega
      rw [getE_in hk (by omega)]
      unfold getV
      by_cases h45 : k = 14 ∨ k = 15
      · rw [if_pos h45]
        have HG := fun (W : World) (hW : Below w.heap.size w W) => getChunkW a len cap q xs W (reads_kept h hW) hq hreach
        have hys := gc_bd (bd_mem h.bd) q
        generalize gc xs q = g at *
        obtain ⟨g0, g1, g2⟩ := g
        by_cases he : g2 = 0
        · subst he
          rw [if_neg (by simp)]
          exact getRowOk k g1 a len cap q w g0 h45 hys HG
        · rw [if_pos he]
          exact getRowErr k g1 g2 a len cap q w g0 h45 (by simpa using he) HG
      · rw [if_neg h45]
        have HG := fun (W : World) (hW : Below w.heap.size w W) => getNumW k a len cap q xs W (reads_kept h hW) hq (kone_num hk (by omega) (by omega))
        have hb := getN_bd (k := k) (bd_mem h.bd) q
        generalize getN k xs q = g at *
        obtain ⟨g0, g1, g2⟩ := g
        by_cases he : g2 = 0
        · subst he
          rw [if_neg (by simp)]
          have := getNumOk k g0 g1 a len cap q w hk (by simp; omega) (by simp; omega) hb.1 hb.2 HG
          cases hh : khold k g0 with
          | true => rw [hh] at this; simpa using this
          | false => rw [hh] at this; simpa using this
        · rw [if_pos he]
          exact getNumErr k g0 g1 g2 a len cap q w hk (by simp; omega) (by simp; omega) (by simpa using he) HG
end Go.Proofs.Ytgcimeldofbgkaa
