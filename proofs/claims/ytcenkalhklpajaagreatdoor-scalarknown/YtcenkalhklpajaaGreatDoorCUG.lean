/-
  Parse: the program's walk.
  Parse: the program's walk over quoted texts; Parse as a whole.
  Texts: the document's walks: digits, numbers, bits.
  Parse: the document's walk.
  A float's bits, read: the document's walk.
-/
import Derived.Test.YtcenkalhklpajaaGreatDoorCUA
import Derived.Test.YtcenkalhklpajaaGreatDoorCSF
import Derived.Test.YtcenkalhklpajaaGreatDoorCQE
import Derived.Test.YtcenkalhklpajaaGreatDoorCQK
namespace Go.Proofs.YtcenkalhklpajaaGreatDoor
open Go.RowKit Go.Sort
set_option maxRecDepth 1000000
set_option linter.unusedVariables false
set_option maxHeartbeats 8000000

/-- What a caller of Parse is told. -/
def GaveP (w : World) (g : GotV) (e : Ending) (w' : World) : Prop := ∃ a c, e = .returned (.tuple #[.agg #[.int .u64 g.n, .slice a g.b.length c, .slice none 0 0], .int .i64 g.err]) ∧ Reads w' a g.b.length c g.b ∧ Below w.heap.size w w'
theorem gaveP_err {w w' : World} {g : GotV} {er : Int} (hg : g = .none er) (hb : Below w.heap.size w w') : GaveP w g (.returned (.tuple #[.agg #[.int .u64 0, .slice none 0 0, .slice none 0 0], .int .i64 er])) w' := by subst hg; exact ⟨none, 0, rfl, reads_nil _, hb⟩
theorem gaveP_num {w w' : World} {g : GotV} {N nx : Int} (hg : g = ⟨N, [], nx, 0⟩) (hb : Below w.heap.size w w') : GaveP w g (.returned (.tuple #[.agg #[.int .u64 N, .slice none 0 0, .slice none 0 0], .int .i64 0])) w' := by subst hg; exact ⟨none, 0, rfl, reads_nil _, hb⟩
theorem gaveP_row {w w' : World} {g : GotV} {ys : List Int} {nx : Int} {a : Option Addr} {c : Nat} (hg : g = ⟨0, ys, nx, 0⟩) (hr : Reads w' a ys.length c ys) (hb : Below w.heap.size w w') : GaveP w g (.returned (.tuple #[.agg #[.int .u64 0, .slice a ys.length c, .slice none 0 0], .int .i64 0])) w' := by subst hg; exact ⟨a, c, rfl, hr, hb⟩
/-- The value's own cells behind a store of its number. -/
theorem vcells0 {w w2 w3 : World} {x y z v : Value} (hb2 : Below (w.alloc (.cells #[x, y, z] 33)).heap.size (w.alloc (.cells #[x, y, z] 33)) w2) (hb3 : Below (w2.setCell ⟨w.heap.size, 0, none⟩ v).heap.size (w2.setCell ⟨w.heap.size, 0, none⟩ v) w3) :
    w3.cell? ⟨w.heap.size, 0, none⟩ = some v ∧ w3.cell? ⟨w.heap.size, 1, none⟩ = some y ∧ w3.cell? ⟨w.heap.size, 2, none⟩ = some z ∧ (∀ o, w3.frozen? ⟨w.heap.size, o, none⟩ = false) ∧ w.heap.size < w3.heap.size ∧ Below w.heap.size w w3 := by
  obtain ⟨d0, d1, d2⟩ := vcells hb2
  have hs : w.heap.size < w2.heap.size := grew hb2
  have hs2 : (w2.setCell ⟨w.heap.size, 0, none⟩ v).heap.size = w2.heap.size := by simp
  have hlt : w.heap.size < (w2.setCell ⟨w.heap.size, 0, none⟩ v).heap.size := by omega
  have hc : ∀ o, w3.cell? ⟨w.heap.size, o, none⟩ = (w2.setCell ⟨w.heap.size, 0, none⟩ v).cell? ⟨w.heap.size, o, none⟩ := fun o => hb3.cell (p := ⟨w.heap.size, o, none⟩) hlt
  refine ⟨?_, ?_, ?_, ?_, ?_, ?_⟩
  · rw [hc]; simp [go_sem, d0]
  · rw [hc]; simp [go_sem, d1]
  · rw [hc]; simp [go_sem, d2]
  · intro o
    rw [hb3.frozen (p := ⟨w.heap.size, o, none⟩) hlt]
    simp [go_sem, froz hb2 o]
  · have := hb3.size; omega
  · exact (((below_alloc (w := w) _).trans (hb2.mono (by simp))).setCell (p := ⟨w.heap.size, 0, none⟩) (Nat.le_refl _) v).trans (hb3.mono (by omega))
theorem parseNo (k : Int) (t : ByteArray) (w : World) (hk : kone k = false) :
    Calls Tryz.prog 18 #[.int .i64 k, .string t] w fun e w' => GaveP w (.none 18) e w' := by
  have HS := hid (fun W => singleW k W)
  rw [hk] at HS
  clear hk
  go_enter Tryz.func18, Tryz.ntmps18
  go_wp2_with (go_at_call 37; refine (HS.out _).mono ?_; rintro e w' ⟨rfl, rfl⟩)
  exact bodyPost_ret (v := .tuple #[.agg #[.int .u64 0, .slice none 0 0, .slice none 0 0], .int .i64 18]) (by simp [results, Tryz.results18, go_sem]) rfl (gaveP_err rfl (below_alloc _))
section
variable (k N er : Int) (t : ByteArray) (w : World)
theorem parseBool (hk : k = 1) (hN0 : 0 ≤ N) (hN1 : N < 18446744073709551616) (HG : ∀ W : World, Below w.heap.size w W → Calls Tryz.prog 38 #[.string t] W fun e w' => e = .returned (.tuple #[.int .u64 N, .int .i64 er]) ∧ Below W.heap.size W w') :
    Calls Tryz.prog 18 #[.int .i64 k, .string t] w fun e w' => GaveP w (if er ≠ 0 then .none er else if khold k N = false then .none 7 else ⟨N, [], 0, 0⟩) e w' := by
  have hk1 : kone k = true := by subst hk; rfl
  have h14' : k ≠ 14 := by omega
  have h15' : k ≠ 15 := by omega
  have HS := hid (fun W => singleW k W)
  rw [hk1] at HS
  have HN := hid HG
  have HF := hid (fun W : World => faultW k N none none 0 0 0 0 W [] hN0 hN1 (reads_nil W) (by omega))
  have hkb : 1 ≤ k ∧ k ≤ 16 := by unfold kone at hk1; simpa using hk1
  have hvf : vfit k N ([] : List Int).length 0 = khold k N := by rw [show ([] : List Int).length = 0 from rfl, vfit_n h14' h15', nfit_h hkb.1 hkb.2 h14' h15']
  by_cases he : er = 0
  · subst he
    rw [if_neg (by simp)]
    cases hh : khold k N with
    | false =>
      rw [if_pos rfl]
      rw [hh] at hvf
      rw [flt_v k N 0 (xs := []) hk1 hvf] at HF
      clear HG hkb hvf hh hk1
      subst hk
      go_enter Tryz.func18, Tryz.ntmps18
      go_wp2_with (first | (go_at_call 37; refine (HS.out _).mono ?_; rintro e w' ⟨rfl, rfl⟩) | (go_at_call 38; refine (HN.out _ (below_alloc _)).mono ?_; rintro e w2 ⟨rfl, hb2⟩; obtain ⟨d0, d1, d2⟩ := vcells hb2; have hfz := froz hb2; have hgr := grew hb2; replace hb2 := hid hb2) | (go_at_call 25; refine (HF.out _).mono ?_; rintro e w3 ⟨rfl, hb3⟩; obtain ⟨f0, f1, f2, ffz, fgr, fbel⟩ := vcells0 hb2.out hb3; clear d0 d1 d2 hfz hgr; replace hb3 := hid hb3; replace fbel := hid fbel))
      exact bodyPost_ret (v := .tuple #[.agg #[.int .u64 0, .slice none 0 0, .slice none 0 0], .int .i64 7]) (by simp [results, Tryz.results18, go_sem, f0, f1, f2]) rfl (gaveP_err rfl (below_set3 fbel.out _ _ _))
    | true =>
      rw [if_neg (by simp)]
      rw [hh] at hvf
      rw [flt_0 k N 0 (xs := []) hk1 hvf (by omega)] at HF
      clear HG hkb hvf hh hk1
      subst hk
      go_enter Tryz.func18, Tryz.ntmps18
      go_wp2_with (first | (go_at_call 37; refine (HS.out _).mono ?_; rintro e w' ⟨rfl, rfl⟩) | (go_at_call 38; refine (HN.out _ (below_alloc _)).mono ?_; rintro e w2 ⟨rfl, hb2⟩; obtain ⟨d0, d1, d2⟩ := vcells hb2; have hfz := froz hb2; have hgr := grew hb2; replace hb2 := hid hb2) | (go_at_call 25; refine (HF.out _).mono ?_; rintro e w3 ⟨rfl, hb3⟩; obtain ⟨f0, f1, f2, ffz, fgr, fbel⟩ := vcells0 hb2.out hb3; clear d0 d1 d2 hfz hgr; replace hb3 := hid hb3; replace fbel := hid fbel))
      exact bodyPost_ret (v := .tuple #[.agg #[.int .u64 N, .slice none 0 0, .slice none 0 0], .int .i64 0]) (by simp [results, Tryz.results18, go_sem, f0, f1, f2]) rfl (gaveP_num rfl (below_set3 fbel.out _ _ _))
  · rw [if_pos he]
    have her : (er == 0) = false := by simpa using he
    have hne : (er != 0) = true := by simpa using he
    clear HG hkb hvf he hk1 HF
    subst hk
    go_enter Tryz.func18, Tryz.ntmps18
    go_wp2_with (first | (go_at_call 37; refine (HS.out _).mono ?_; rintro e w' ⟨rfl, rfl⟩) | (go_at_call 38; refine (HN.out _ (below_alloc _)).mono ?_; rintro e w2 ⟨rfl, hb2⟩; obtain ⟨d0, d1, d2⟩ := vcells hb2; have hfz := froz hb2; have hgr := grew hb2; replace hb2 := hid hb2))
    have hbel := below_set3 ((below_trans (below_alloc _) hb2.out).setCell (p := ⟨w.heap.size, 0, none⟩) (Nat.le_refl _) (.int .u64 N)) (.int .u64 0) (.slice none 0 0) (.slice none 0 0)
    exact bodyPost_ret (v := .tuple #[.agg #[.int .u64 0, .slice none 0 0, .slice none 0 0], .int .i64 er]) (by simp [results, Tryz.results18, go_sem, d0, d1, d2]) rfl (gaveP_err rfl hbel)
theorem parseFloat (hk : k = 12) (hN0 : 0 ≤ N) (hN1 : N < 18446744073709551616) (HG : ∀ W : World, Below w.heap.size w W → Calls Tryz.prog 39 #[.string t, .string ⟨#[102]⟩, .int .i64 8] W fun e w' => e = .returned (.tuple #[.int .u64 N, .int .i64 er]) ∧ Below W.heap.size W w') :
    Calls Tryz.prog 18 #[.int .i64 k, .string t] w fun e w' => GaveP w (if er ≠ 0 then .none er else if khold k N = false then .none 7 else ⟨N, [], 0, 0⟩) e w' := by
  have hk1 : kone k = true := by subst hk; rfl
  have h14' : k ≠ 14 := by omega
  have h15' : k ≠ 15 := by omega
  have HS := hid (fun W => singleW k W)
  rw [hk1] at HS
  have HN := hid HG
  have HF := hid (fun W : World => faultW k N none none 0 0 0 0 W [] hN0 hN1 (reads_nil W) (by omega))
  have hkb : 1 ≤ k ∧ k ≤ 16 := by unfold kone at hk1; simpa using hk1
  have hvf : vfit k N ([] : List Int).length 0 = khold k N := by rw [show ([] : List Int).length = 0 from rfl, vfit_n h14' h15', nfit_h hkb.1 hkb.2 h14' h15']
  by_cases he : er = 0
  · subst he
    rw [if_neg (by simp)]
    cases hh : khold k N with
    | false =>
      rw [if_pos rfl]
      rw [hh] at hvf
      rw [flt_v k N 0 (xs := []) hk1 hvf] at HF
      clear HG hkb hvf hh hk1
      subst hk
      go_enter Tryz.func18, Tryz.ntmps18
      go_wp2_with (first | (go_at_call 37; refine (HS.out _).mono ?_; rintro e w' ⟨rfl, rfl⟩) | (go_at_call 39; refine (HN.out _ (below_alloc _)).mono ?_; rintro e w2 ⟨rfl, hb2⟩; obtain ⟨d0, d1, d2⟩ := vcells hb2; have hfz := froz hb2; have hgr := grew hb2; replace hb2 := hid hb2) | (go_at_call 25; refine (HF.out _).mono ?_; rintro e w3 ⟨rfl, hb3⟩; obtain ⟨f0, f1, f2, ffz, fgr, fbel⟩ := vcells0 hb2.out hb3; clear d0 d1 d2 hfz hgr; replace hb3 := hid hb3; replace fbel := hid fbel))
      exact bodyPost_ret (v := .tuple #[.agg #[.int .u64 0, .slice none 0 0, .slice none 0 0], .int .i64 7]) (by simp [results, Tryz.results18, go_sem, f0, f1, f2]) rfl (gaveP_err rfl (below_set3 fbel.out _ _ _))
    | true =>
      rw [if_neg (by simp)]
      rw [hh] at hvf
      rw [flt_0 k N 0 (xs := []) hk1 hvf (by omega)] at HF
      clear HG hkb hvf hh hk1
      subst hk
      go_enter Tryz.func18, Tryz.ntmps18
      go_wp2_with (first | (go_at_call 37; refine (HS.out _).mono ?_; rintro e w' ⟨rfl, rfl⟩) | (go_at_call 39; refine (HN.out _ (below_alloc _)).mono ?_; rintro e w2 ⟨rfl, hb2⟩; obtain ⟨d0, d1, d2⟩ := vcells hb2; have hfz := froz hb2; have hgr := grew hb2; replace hb2 := hid hb2) | (go_at_call 25; refine (HF.out _).mono ?_; rintro e w3 ⟨rfl, hb3⟩; obtain ⟨f0, f1, f2, ffz, fgr, fbel⟩ := vcells0 hb2.out hb3; clear d0 d1 d2 hfz hgr; replace hb3 := hid hb3; replace fbel := hid fbel))
      exact bodyPost_ret (v := .tuple #[.agg #[.int .u64 N, .slice none 0 0, .slice none 0 0], .int .i64 0]) (by simp [results, Tryz.results18, go_sem, f0, f1, f2]) rfl (gaveP_num rfl (below_set3 fbel.out _ _ _))
  · rw [if_pos he]
    have her : (er == 0) = false := by simpa using he
    have hne : (er != 0) = true := by simpa using he
    clear HG hkb hvf he hk1 HF
    subst hk
    go_enter Tryz.func18, Tryz.ntmps18
    go_wp2_with (first | (go_at_call 37; refine (HS.out _).mono ?_; rintro e w' ⟨rfl, rfl⟩) | (go_at_call 39; refine (HN.out _ (below_alloc _)).mono ?_; rintro e w2 ⟨rfl, hb2⟩; obtain ⟨d0, d1, d2⟩ := vcells hb2; have hfz := froz hb2; have hgr := grew hb2; replace hb2 := hid hb2))
    have hbel := below_set3 ((below_trans (below_alloc _) hb2.out).setCell (p := ⟨w.heap.size, 0, none⟩) (Nat.le_refl _) (.int .u64 N)) (.int .u64 0) (.slice none 0 0) (.slice none 0 0)
    exact bodyPost_ret (v := .tuple #[.agg #[.int .u64 0, .slice none 0 0, .slice none 0 0], .int .i64 er]) (by simp [results, Tryz.results18, go_sem, d0, d1, d2]) rfl (gaveP_err rfl hbel)
theorem parseDouble (hk : k = 13) (hN0 : 0 ≤ N) (hN1 : N < 18446744073709551616) (HG : ∀ W : World, Below w.heap.size w W → Calls Tryz.prog 39 #[.string t, .string ⟨#[100]⟩, .int .i64 16] W fun e w' => e = .returned (.tuple #[.int .u64 N, .int .i64 er]) ∧ Below W.heap.size W w') :
    Calls Tryz.prog 18 #[.int .i64 k, .string t] w fun e w' => GaveP w (if er ≠ 0 then .none er else if khold k N = false then .none 7 else ⟨N, [], 0, 0⟩) e w' := by
  have hk1 : kone k = true := by subst hk; rfl
  have h14' : k ≠ 14 := by omega
  have h15' : k ≠ 15 := by omega
  have HS := hid (fun W => singleW k W)
  rw [hk1] at HS
  have HN := hid HG
  have HF := hid (fun W : World => faultW k N none none 0 0 0 0 W [] hN0 hN1 (reads_nil W) (by omega))
  have hkb : 1 ≤ k ∧ k ≤ 16 := by unfold kone at hk1; simpa using hk1
  have hvf : vfit k N ([] : List Int).length 0 = khold k N := by rw [show ([] : List Int).length = 0 from rfl, vfit_n h14' h15', nfit_h hkb.1 hkb.2 h14' h15']
  by_cases he : er = 0
  · subst he
    rw [if_neg (by simp)]
    cases hh : khold k N with
    | false =>
      rw [if_pos rfl]
      rw [hh] at hvf
      rw [flt_v k N 0 (xs := []) hk1 hvf] at HF
      clear HG hkb hvf hh hk1
      subst hk
      go_enter Tryz.func18, Tryz.ntmps18
      go_wp2_with (first | (go_at_call 37; refine (HS.out _).mono ?_; rintro e w' ⟨rfl, rfl⟩) | (go_at_call 39; refine (HN.out _ (below_alloc _)).mono ?_; rintro e w2 ⟨rfl, hb2⟩; obtain ⟨d0, d1, d2⟩ := vcells hb2; have hfz := froz hb2; have hgr := grew hb2; replace hb2 := hid hb2) | (go_at_call 25; refine (HF.out _).mono ?_; rintro e w3 ⟨rfl, hb3⟩; obtain ⟨f0, f1, f2, ffz, fgr, fbel⟩ := vcells0 hb2.out hb3; clear d0 d1 d2 hfz hgr; replace hb3 := hid hb3; replace fbel := hid fbel))
      exact bodyPost_ret (v := .tuple #[.agg #[.int .u64 0, .slice none 0 0, .slice none 0 0], .int .i64 7]) (by simp [results, Tryz.results18, go_sem, f0, f1, f2]) rfl (gaveP_err rfl (below_set3 fbel.out _ _ _))
    | true =>
      rw [if_neg (by simp)]
      rw [hh] at hvf
      rw [flt_0 k N 0 (xs := []) hk1 hvf (by omega)] at HF
      clear HG hkb hvf hh hk1
      subst hk
      go_enter Tryz.func18, Tryz.ntmps18
      go_wp2_with (first | (go_at_call 37; refine (HS.out _).mono ?_; rintro e w' ⟨rfl, rfl⟩) | (go_at_call 39; refine (HN.out _ (below_alloc _)).mono ?_; rintro e w2 ⟨rfl, hb2⟩; obtain ⟨d0, d1, d2⟩ := vcells hb2; have hfz := froz hb2; have hgr := grew hb2; replace hb2 := hid hb2) | (go_at_call 25; refine (HF.out _).mono ?_; rintro e w3 ⟨rfl, hb3⟩; obtain ⟨f0, f1, f2, ffz, fgr, fbel⟩ := vcells0 hb2.out hb3; clear d0 d1 d2 hfz hgr; replace hb3 := hid hb3; replace fbel := hid fbel))
      exact bodyPost_ret (v := .tuple #[.agg #[.int .u64 N, .slice none 0 0, .slice none 0 0], .int .i64 0]) (by simp [results, Tryz.results18, go_sem, f0, f1, f2]) rfl (gaveP_num rfl (below_set3 fbel.out _ _ _))
  · rw [if_pos he]
    have her : (er == 0) = false := by simpa using he
    have hne : (er != 0) = true := by simpa using he
    clear HG hkb hvf he hk1 HF
    subst hk
    go_enter Tryz.func18, Tryz.ntmps18
    go_wp2_with (first | (go_at_call 37; refine (HS.out _).mono ?_; rintro e w' ⟨rfl, rfl⟩) | (go_at_call 39; refine (HN.out _ (below_alloc _)).mono ?_; rintro e w2 ⟨rfl, hb2⟩; obtain ⟨d0, d1, d2⟩ := vcells hb2; have hfz := froz hb2; have hgr := grew hb2; replace hb2 := hid hb2))
    have hbel := below_set3 ((below_trans (below_alloc _) hb2.out).setCell (p := ⟨w.heap.size, 0, none⟩) (Nat.le_refl _) (.int .u64 N)) (.int .u64 0) (.slice none 0 0) (.slice none 0 0)
    exact bodyPost_ret (v := .tuple #[.agg #[.int .u64 0, .slice none 0 0, .slice none 0 0], .int .i64 er]) (by simp [results, Tryz.results18, go_sem, d0, d1, d2]) rfl (gaveP_err rfl hbel)
theorem parseWhole (hk : kone k = true) (e1 : (k == 1) = false) (e12 : (k == 12) = false) (e13 : (k == 13) = false) (e14 : (k == 14) = false) (e15 : (k == 15) = false) (hN0 : 0 ≤ N) (hN1 : N < 18446744073709551616) (HG : ∀ W : World, Below w.heap.size w W → Calls Tryz.prog 41 #[.int .i64 k, .string t] W fun e w' => e = .returned (.tuple #[.int .u64 N, .int .i64 er]) ∧ Below W.heap.size W w') :
    Calls Tryz.prog 18 #[.int .i64 k, .string t] w fun e w' => GaveP w (if er ≠ 0 then .none er else if khold k N = false then .none 7 else ⟨N, [], 0, 0⟩) e w' := by
  have hk1 : kone k = true := by exact hk
  have h14' : k ≠ 14 := by simpa using e14
  have h15' : k ≠ 15 := by simpa using e15
  have HS := hid (fun W => singleW k W)
  rw [hk1] at HS
  have HN := hid HG
  have HF := hid (fun W : World => faultW k N none none 0 0 0 0 W [] hN0 hN1 (reads_nil W) (by omega))
  have hkb : 1 ≤ k ∧ k ≤ 16 := by unfold kone at hk1; simpa using hk1
  have hvf : vfit k N ([] : List Int).length 0 = khold k N := by rw [show ([] : List Int).length = 0 from rfl, vfit_n h14' h15', nfit_h hkb.1 hkb.2 h14' h15']
  by_cases he : er = 0
  · subst he
    rw [if_neg (by simp)]
    cases hh : khold k N with
    | false =>
      rw [if_pos rfl]
      rw [hh] at hvf
      rw [flt_v k N 0 (xs := []) hk1 hvf] at HF
      clear HG hkb hvf hh hk1
      skip
      go_enter Tryz.func18, Tryz.ntmps18
      go_wp2_with (first | (go_at_call 37; refine (HS.out _).mono ?_; rintro e w' ⟨rfl, rfl⟩) | (go_at_call 41; refine (HN.out _ (below_alloc _)).mono ?_; rintro e w2 ⟨rfl, hb2⟩; obtain ⟨d0, d1, d2⟩ := vcells hb2; have hfz := froz hb2; have hgr := grew hb2; replace hb2 := hid hb2) | (go_at_call 25; refine (HF.out _).mono ?_; rintro e w3 ⟨rfl, hb3⟩; obtain ⟨f0, f1, f2, ffz, fgr, fbel⟩ := vcells0 hb2.out hb3; clear d0 d1 d2 hfz hgr; replace hb3 := hid hb3; replace fbel := hid fbel))
      exact bodyPost_ret (v := .tuple #[.agg #[.int .u64 0, .slice none 0 0, .slice none 0 0], .int .i64 7]) (by simp [results, Tryz.results18, go_sem, f0, f1, f2]) rfl (gaveP_err rfl (below_set3 fbel.out _ _ _))
    | true =>
      rw [if_neg (by simp)]
      rw [hh] at hvf
      rw [flt_0 k N 0 (xs := []) hk1 hvf (by omega)] at HF
      clear HG hkb hvf hh hk1
      skip
      go_enter Tryz.func18, Tryz.ntmps18
      go_wp2_with (first | (go_at_call 37; refine (HS.out _).mono ?_; rintro e w' ⟨rfl, rfl⟩) | (go_at_call 41; refine (HN.out _ (below_alloc _)).mono ?_; rintro e w2 ⟨rfl, hb2⟩; obtain ⟨d0, d1, d2⟩ := vcells hb2; have hfz := froz hb2; have hgr := grew hb2; replace hb2 := hid hb2) | (go_at_call 25; refine (HF.out _).mono ?_; rintro e w3 ⟨rfl, hb3⟩; obtain ⟨f0, f1, f2, ffz, fgr, fbel⟩ := vcells0 hb2.out hb3; clear d0 d1 d2 hfz hgr; replace hb3 := hid hb3; replace fbel := hid fbel))
      exact bodyPost_ret (v := .tuple #[.agg #[.int .u64 N, .slice none 0 0, .slice none 0 0], .int .i64 0]) (by simp [results, Tryz.results18, go_sem, f0, f1, f2]) rfl (gaveP_num rfl (below_set3 fbel.out _ _ _))
  · rw [if_pos he]
    have her : (er == 0) = false := by simpa using he
    have hne : (er != 0) = true := by simpa using he
    clear HG hkb hvf he hk1 HF
    skip
    go_enter Tryz.func18, Tryz.ntmps18
    go_wp2_with (first | (go_at_call 37; refine (HS.out _).mono ?_; rintro e w' ⟨rfl, rfl⟩) | (go_at_call 41; refine (HN.out _ (below_alloc _)).mono ?_; rintro e w2 ⟨rfl, hb2⟩; obtain ⟨d0, d1, d2⟩ := vcells hb2; have hfz := froz hb2; have hgr := grew hb2; replace hb2 := hid hb2))
    have hbel := below_set3 ((below_trans (below_alloc _) hb2.out).setCell (p := ⟨w.heap.size, 0, none⟩) (Nat.le_refl _) (.int .u64 N)) (.int .u64 0) (.slice none 0 0) (.slice none 0 0)
    exact bodyPost_ret (v := .tuple #[.agg #[.int .u64 0, .slice none 0 0, .slice none 0 0], .int .i64 er]) (by simp [results, Tryz.results18, go_sem, d0, d1, d2]) rfl (gaveP_err rfl hbel)
end
end Go.Proofs.YtcenkalhklpajaaGreatDoor
namespace Go.Proofs.YtcenkalhklpajaaGreatDoor
open Go.RowKit Go.Sort
set_option maxRecDepth 1000000
set_option linter.unusedVariables false
set_option maxHeartbeats 8000000

/-- Bytes that can be read lie in another block than a value's own cells. -/
theorem reads_apart {w w2 : World} {a : Option Addr} {len cap : Nat} {ys : List Int} (hb : Below (w.alloc (.cells #[.int .u64 0, .slice none 0 0, .slice none 0 0] 33)).heap.size (w.alloc (.cells #[.int .u64 0, .slice none 0 0, .slice none 0 0] 33)) w2) (h : Reads w2 a len cap ys) : ∀ x, a = some x → len = 0 ∨ x.block ≠ w.heap.size := by
  intro x hx
  rcases h.cells with ⟨h0, _⟩ | ⟨b, off, rfl, hc⟩
  · exact .inl h0
  · cases hx
    by_cases h0 : len = 0
    · exact .inl h0
    · right
      intro hbk
      have hbk : b = w.heap.size := hbk
      subst hbk
      have h1 := hc 0 (by omega)
      have h2 : w2.cell? ⟨w.heap.size, off + 0, none⟩ = (w.alloc (.cells #[.int .u64 0, .slice none 0 0, .slice none 0 0] 33)).cell? ⟨w.heap.size, off + 0, none⟩ := hb.cell (p := ⟨w.heap.size, off + 0, none⟩) (by simp)
      rw [h2, World.cell?_alloc_new] at h1
      rcases off with _ | _ | _ | off <;> simp at h1
theorem reads_set {w2 : World} {n : Nat} {a : Option Addr} {len cap : Nat} {ys : List Int} (h : Reads w2 a len cap ys) (hap : ∀ x, a = some x → len = 0 ∨ x.block ≠ n) (o : Nat) (v : Value) : Reads (w2.setCell ⟨n, o, none⟩ v) a len cap ys := by
  refine ⟨h.length, h.le, h.max, h.bd, ?_⟩
  rcases h.cells with h0 | ⟨b, off, rfl, hc⟩
  · exact .inl h0
  · rcases hap _ rfl with h0 | hne
    · exact .inl ⟨h0, fun e => by cases e⟩
    · exact .inr ⟨b, off, rfl, fun i hi => by rw [World.cell?_setCell_other _ _ _ _ (by intro e; simp at e; exact hne e.1.symm)]; exact hc i hi⟩
theorem reads_set3 {w2 : World} {n : Nat} {a : Option Addr} {len cap : Nat} {ys : List Int} (h : Reads w2 a len cap ys) (hap : ∀ x, a = some x → len = 0 ∨ x.block ≠ n) (x y z : Value) : Reads (set3 w2 n x y z) a len cap ys := reads_set (reads_set (reads_set h hap 0 x) hap 1 y) hap 2 z
section
variable (k er : Int) (t : ByteArray) (w : World) (ys : List Int)
theorem parseRow (hk : k = 14 ∨ k = 15)
    (HG : ∀ W : World, Below w.heap.size w W → Calls Tryz.prog 40 #[.string t] W fun e w' => ∃ a c, e = .returned (.tuple #[.slice a ys.length c, .int .i64 er]) ∧ Reads w' a ys.length c ys ∧ Below W.heap.size W w') :
    Calls Tryz.prog 18 #[.int .i64 k, .string t] w fun e w' => GaveP w (if er ≠ 0 then .none er else if k = 14 ∧ rn ys < 0 then .none 8 else ⟨0, ys, 0, 0⟩) e w' := by
  have HS := hid (fun W => singleW k W)
  have HN := hid HG
  clear HG
  by_cases he : er = 0
  · subst he
    rw [if_neg (by simp)]
    have HF := hid (fun (b2 : Option Addr) (c2 : Nat) (W : World) (hr : Reads W b2 ys.length c2 ys) => faultW k 0 b2 none ys.length c2 0 0 W ys (by omega) (by omega) hr (by omega))
    by_cases hbad : k = 14 ∧ rn ys < 0
    · rw [if_pos hbad]
      obtain ⟨rfl, hr⟩ := hbad
      rw [flt_t 0 0 (xs := ys) (by rw [vfit_14]; rfl) hr] at HF
      clear hk hr
      rw [show kone _ = true from rfl] at HS
      go_enter Tryz.func18, Tryz.ntmps18
      go_wp2_with (first | (go_at_call 37; refine (HS.out _).mono ?_; rintro e w' ⟨rfl, rfl⟩) | (go_at_call 40; refine (HN.out _ (below_alloc _)).mono ?_; rintro e w2 ⟨b2, c2, rfl, hrd, hb2⟩; have hap := hid (reads_apart hb2 hrd); obtain ⟨d0, d1, d2⟩ := vcells hb2; have hfz := froz hb2; have hgr := grew hb2; replace hb2 := hid hb2; replace hrd := hid hrd) | (go_at_call 25; refine (HF.out b2 c2 _ (reads_set hrd.out hap.out 1 _)).mono ?_; rintro e w3 ⟨rfl, hb3⟩; obtain ⟨f0, f1, f2, ffz, fgr, fbel⟩ := vcells1 hb2.out hb3; clear d0 d1 d2 hfz hgr; replace hb3 := hid hb3; replace fbel := hid fbel))
      exact bodyPost_ret (v := .tuple #[.agg #[.int .u64 0, .slice none 0 0, .slice none 0 0], .int .i64 8]) (by simp [results, Tryz.results18, go_sem, f0, f1, f2]) rfl (gaveP_err rfl (below_set3 fbel.out _ _ _))
    · rw [if_neg hbad]
      have hv : vfit k 0 ys.length 0 = true := by rcases hk with rfl | rfl <;> simp [vfit]
      have hk1 : kone k = true := by rcases hk with rfl | rfl <;> rfl
      rw [flt_0 k 0 0 (xs := ys) hk1 hv hbad] at HF
      rw [hk1] at HS
      clear hv hk1 hbad
      rcases hk with rfl | rfl
      all_goals
        go_enter Tryz.func18, Tryz.ntmps18
        go_wp2_with (first | (go_at_call 37; refine (HS.out _).mono ?_; rintro e w' ⟨rfl, rfl⟩) | (go_at_call 40; refine (HN.out _ (below_alloc _)).mono ?_; rintro e w2 ⟨b2, c2, rfl, hrd, hb2⟩; have hap := hid (reads_apart hb2 hrd); obtain ⟨d0, d1, d2⟩ := vcells hb2; have hfz := froz hb2; have hgr := grew hb2; replace hb2 := hid hb2; replace hrd := hid hrd) | (go_at_call 25; refine (HF.out b2 c2 _ (reads_set hrd.out hap.out 1 _)).mono ?_; rintro e w3 ⟨rfl, hb3⟩; obtain ⟨f0, f1, f2, ffz, fgr, fbel⟩ := vcells1 hb2.out hb3; clear d0 d1 d2 hfz hgr; replace hb3 := hid hb3; replace fbel := hid fbel))
        have hrr := reads_set3 (reads_kept (reads_set hrd.out hap.out 1 (.slice b2 ys.length c2)) hb3.out) hap.out (.int .u64 0) (.slice b2 ys.length c2) (.slice none 0 0)
        exact bodyPost_ret (v := .tuple #[.agg #[.int .u64 0, .slice b2 ys.length c2, .slice none 0 0], .int .i64 0]) (by simp [results, Tryz.results18, go_sem, f0, f1, f2]) rfl (gaveP_row rfl hrr (below_set3 fbel.out _ _ _))
  · rw [if_pos he]
    have her : (er == 0) = false := by simpa using he
    have hne : (er != 0) = true := by simpa using he
    clear he
    rcases hk with rfl | rfl
    all_goals
      rw [show kone _ = true from rfl] at HS
      go_enter Tryz.func18, Tryz.ntmps18
      go_wp2_with (first | (go_at_call 37; refine (HS.out _).mono ?_; rintro e w' ⟨rfl, rfl⟩) | (go_at_call 40; refine (HN.out _ (below_alloc _)).mono ?_; rintro e w2 ⟨b2, c2, rfl, hrd, hb2⟩; have hap := hid (reads_apart hb2 hrd); obtain ⟨d0, d1, d2⟩ := vcells hb2; have hfz := froz hb2; have hgr := grew hb2; replace hb2 := hid hb2; replace hrd := hid hrd))
      have hbel := below_set3 ((below_trans (below_alloc _) hb2.out).setCell (p := ⟨w.heap.size, 1, none⟩) (Nat.le_refl _) (.slice b2 ys.length c2)) (.int .u64 0) (.slice none 0 0) (.slice none 0 0)
      exact bodyPost_ret (v := .tuple #[.agg #[.int .u64 0, .slice none 0 0, .slice none 0 0], .int .i64 er]) (by simp [results, Tryz.results18, go_sem, d0, d1, d2]) rfl (gaveP_err rfl hbel)
end
/-- A truth, read. -/
def pbool (xs : List Int) : Int × Int := if xs = [102, 97, 108, 115, 101] then (0, 0) else if xs = [116, 114, 117, 101] then (1, 0) else (0, 11)
theorem parseBoolW (xs : List Int) (hb : ∀ x ∈ xs, 0 ≤ x ∧ x ≤ 255) (w : World) : Calls Tryz.prog 38 #[.string (strOfNums xs)] w fun e w' => e = .returned (.tuple #[.int .u64 (pbool xs).1, .int .i64 (pbool xs).2]) ∧ Below w.heap.size w w' := by
  have h1 : ((strOfNums xs).toList == ([102, 97, 108, 115, 101] : List UInt8)) = decide (xs = [102, 97, 108, 115, 101]) := by
    have h := str_eq (ys := [102, 97, 108, 115, 101]) hb (by decide)
    rw [str_list [102, 97, 108, 115, 101]] at h
    exact h
  have h2 : ((strOfNums xs).toList == ([116, 114, 117, 101] : List UInt8)) = decide (xs = [116, 114, 117, 101]) := by
    have h := str_eq (ys := [116, 114, 117, 101]) hb (by decide)
    rw [str_list [116, 114, 117, 101]] at h
    exact h
  unfold pbool
  by_cases hf : xs = [102, 97, 108, 115, 101]
  · rw [if_pos hf]
    have h1' : ((strOfNums xs).toList == ([102, 97, 108, 115, 101] : List UInt8)) = true := by rw [h1]; simpa using hf
    clear h1 h2 hf
    go_enter Tryz.func38, Tryz.ntmps38
    go_wp2
    go_ret2
    exact ⟨rfl, Below.refl _ _⟩
  · rw [if_neg hf]
    have h1' : ((strOfNums xs).toList == ([102, 97, 108, 115, 101] : List UInt8)) = false := by rw [h1]; simpa using hf
    by_cases ht : xs = [116, 114, 117, 101]
    · rw [if_pos ht]
      have h2' : ((strOfNums xs).toList == ([116, 114, 117, 101] : List UInt8)) = true := by rw [h2]; simpa using ht
      clear h1 h2 hf ht
      go_enter Tryz.func38, Tryz.ntmps38
      go_wp2
      go_ret2
      exact ⟨rfl, Below.refl _ _⟩
    · rw [if_neg ht]
      have h2' : ((strOfNums xs).toList == ([116, 114, 117, 101] : List UInt8)) = false := by rw [h2]; simpa using ht
      clear h1 h2 hf ht
      go_enter Tryz.func38, Tryz.ntmps38
      go_wp2
      go_ret2
      exact ⟨rfl, Below.refl _ _⟩
/-- A number of a kind, read. -/
def pnum (k : Int) (xs : List Int) : Int × Int := if k = 1 then pbool xs else if k = 12 then pbits 102 8 xs else if k = 13 then pbits 100 16 xs else pwhole k xs
def parseV (k : Int) (xs : List Int) : GotV :=
  if kone k = false then .none 18
  else if k = 14 ∨ k = 15 then (if (uqE xs).2 ≠ 0 then .none (uqE xs).2 else if k = 14 ∧ rn (uqE xs).1 < 0 then .none 8 else ⟨0, (uqE xs).1, 0, 0⟩)
  else if (pnum k xs).2 ≠ 0 then .none (pnum k xs).2 else if khold k (pnum k xs).1 = false then .none 7 else ⟨(pnum k xs).1, [], 0, 0⟩
theorem p16_nonneg : ∀ (xs : List Int) (a : Int), 0 ≤ a → ∀ n, p16 a xs = some n → a ≤ n ∧ n < (a + 1) * 16 ^ xs.length
  | [], a, _, n, h => by simp [p16] at h; subst h; simp; omega
  | c :: r, a, ha, n, h => by
    rw [p16] at h
    by_cases hc : hx c < 0
    · rw [if_pos hc] at h; cases h
    · rw [if_neg hc] at h
      have hr := hx_range c
      have ih := p16_nonneg r (a * 16 + hx c) (by omega) n h
      refine ⟨by omega, ?_⟩
      have hp : (0 : Int) < 16 ^ r.length := Int.pow_pos (by decide)
      rw [List.length_cons, Int.pow_succ]
      have h1 : (a * 16 + hx c + 1) * 16 ^ r.length ≤ ((a + 1) * 16) * 16 ^ r.length := Int.mul_le_mul_of_nonneg_right (by omega) (by omega)
      have h2 : (a + 1) * (16 ^ r.length * 16) = ((a + 1) * 16) * 16 ^ r.length := by rw [Int.mul_comm (16 ^ r.length) 16, Int.mul_assoc]
      omega
theorem pbits_bd (sg : Int) (s : Nat) (hs : s = 8 ∨ s = 16) (xs : List Int) : 0 ≤ (pbits sg s xs).1 ∧ (pbits sg s xs).1 < 18446744073709551616 := by
  unfold pbits
  split
  · rename_i h
    cases hp : p16 0 (xs.drop 1) with
    | none => simp
    | some n =>
      have := p16_nonneg (xs.drop 1) 0 (by decide) n hp
      have hl : (xs.drop 1).length = s := by simp; omega
      rw [hl] at this
      simp only
      rcases hs with rfl | rfl
      · have e : (16 : Int) ^ 8 = 4294967296 := by decide
        rw [e] at this; omega
      · have e : (16 : Int) ^ 16 = 18446744073709551616 := by decide
        rw [e] at this; omega
  · simp
theorem pwhole_bd (k : Int) (xs : List Int) : 0 ≤ (pwhole k xs).1 ∧ (pwhole k xs).1 < 18446744073709551616 := by
  unfold pwhole
  split
  · split
    · simp
    · split
      · simp only [uns]; omega
      · simp
  · cases hd : digs xs with
    | false => simp
    | true =>
      have := dval_nonneg hd
      rw [if_neg (by simp)]
      split
      · split
        · exact ⟨this, by show dval 0 xs < _; omega⟩
        · simp
      · split
        · exact ⟨this, by show dval 0 xs < _; omega⟩
        · simp
theorem pbool_bd (xs : List Int) : 0 ≤ (pbool xs).1 ∧ (pbool xs).1 < 18446744073709551616 := by
  unfold pbool
  split
  · simp
  · split <;> simp
theorem gaveP_eq {w w' : World} {g g' : GotV} {e : Ending} (h : GaveP w g e w') (hg : g = g') : GaveP w g' e w' := by subst hg; exact h
theorem parseKW (k : Int) (xs : List Int) (hb : ∀ x ∈ xs, 0 ≤ x ∧ x ≤ 255) (hl : xs.length ≤ 281474976710656) (w : World) (h1 : Sentinel w 2) (h2 : Sentinel w 3) :
    Calls Tryz.prog 18 #[.int .i64 k, .string (strOfNums xs)] w fun e w' => GaveP w (parseV k xs) e w' := by
  unfold parseV
  cases hk : kone k with
  | false => rw [if_pos rfl]; exact parseNo k _ w hk
  | true =>
    rw [if_neg (by simp)]
    by_cases h45 : k = 14 ∨ k = 15
    · rw [if_pos h45]
      exact parseRow k (uqE xs).2 (strOfNums xs) w (uqE xs).1 h45 (fun W _ => unquoteW xs W hb (by omega))
    · rw [if_neg h45]
      unfold pnum
      by_cases hk1 : k = 1
      · rw [if_pos hk1]
        exact parseBool k _ _ (strOfNums xs) w hk1 (pbool_bd xs).1 (pbool_bd xs).2 (fun W _ => parseBoolW xs hb W)
      · rw [if_neg hk1]
        by_cases hk12 : k = 12
        · rw [if_pos hk12]
          exact parseFloat k _ _ (strOfNums xs) w hk12 (pbits_bd _ 8 (.inl rfl) xs).1 (pbits_bd _ 8 (.inl rfl) xs).2 (fun W hW => parseBitsW xs 102 8 (.inl rfl) hb (by omega) W (h1.kept hW))
        · rw [if_neg hk12]
          by_cases hk13 : k = 13
          · rw [if_pos hk13]
            exact parseDouble k _ _ (strOfNums xs) w hk13 (pbits_bd _ 16 (.inr rfl) xs).1 (pbits_bd _ 16 (.inr rfl) xs).2 (fun W hW => parseBitsW xs 100 16 (.inr rfl) hb (by omega) W (h1.kept hW))
          · rw [if_neg hk13]
            exact parseWhole k _ _ (strOfNums xs) w hk (by simpa using hk1) (by simpa using hk12) (by simpa using hk13) (by simp; omega) (by simp; omega) (pwhole_bd k xs).1 (pwhole_bd k xs).2 (fun W hW => parseWholeW k xs hb hl W (h2.kept hW))
end Go.Proofs.YtcenkalhklpajaaGreatDoor
namespace Go.Proofs.YtcenkalhklpajaaGreatDoor
open Go.RowKit Go.Sort
set_option maxRecDepth 1000000
set_option linter.unusedVariables false
set_option maxHeartbeats 8000000

theorem dval_app : ∀ (xs ys : List Int) (a : Int), dval a (xs ++ ys) = dval (dval a xs) ys
  | [], _, _ => rfl
  | c :: r, ys, a => by rw [List.cons_append, dval, dval, dval_app r ys]
theorem dval_snoc {xs : List Int} {k : Nat} (h : k < xs.length) : dval 0 (xs.take (k + 1)) = dval 0 (xs.take k) * 10 + (xs[k]?.getD 0 - 48) := by
  rw [List.take_add_one, dval_app]
  simp [h, dval]
/-- What a caller of Digits is told. -/
def DigTold (xs : List Int) (e : Ending) : Prop := ∃ n ov, e = .returned (.tuple #[.int .u64 n, .bool ov, .bool (digs xs)]) ∧ (0 ≤ n ∧ n < 18446744073709551616) ∧ (digs xs = true → (ov = true ↔ 18446744073709551616 ≤ dval 0 xs) ∧ (ov = false → n = dval 0 xs))
theorem digitsR (xs : List Int) (hb : ∀ x ∈ xs, 0 ≤ x ∧ x ≤ 255) (hl : xs.length ≤ 281474976710656) (w : World) :
    Calls Tryz.prog 57 #[.string (strOfNums xs)] w fun e w' => DigTold xs e ∧ w = w' := by
  have hsz : (strOfNums xs).size = xs.length := strOfNums_size xs
  have HI := hid (fun i h (k : IntKind) W => index_str hb i h k W)
  obtain ⟨n0, hn⟩ : ∃ n0, xs.length = n0 := ⟨_, rfl⟩
  rw [hn] at hsz hl HI
  go_enter Tryz.func57, Tryz.ntmps57
  go_wp2
  go_loop [5, 6, 7] (fun vn vo vi => ∃ (k : Nat) (N : Int) (ov : Bool), k ≤ n0 ∧ vn = .int .u64 N ∧ vo = .bool ov ∧ vi = .int .i64 k ∧ 0 ≤ N ∧ N < 18446744073709551616 ∧ Hid ((xs.take k).all isDig = true) ∧ Hid ((ov = true ↔ 18446744073709551616 ≤ dval 0 (xs.take k)) ∧ (ov = false → N = dval 0 (xs.take k)))) (fun _ _ vi => n0 - (intOf vi).toNat)
  case atStart => exact ⟨0, 0, false, by omega, rfl, rfl, rfl, by omega, by omega, hid rfl, hid ⟨by simp [dval], fun _ => by simp [dval]⟩⟩
  case round =>
    obtain ⟨k, N, ov, hk, rfl, rfl, rfl, hN0, hN1, HK, HV⟩ := hrel
    by_cases hkn : k < n0
    · have hi := fun W => HI.out k hkn .i64 W
      have hx := hb (xs[k]'(by omega)) (List.getElem_mem _)
      have hget : xs[k]?.getD 0 = xs[k]'(by omega) := by simp [show k < xs.length by omega]
      rw [← hget] at hx
      have HT := hid (all_take (xs := xs) (k := k) (by omega))
      have HSN := hid (dval_snoc (xs := xs) (k := k) (by omega))
      have hki : (k : Int) < (n0 : Int) := by omega
      have HBAD : Hid (isDig (xs[k]?.getD 0) = false → digs xs = false) := hid (fun h => by
        unfold digs
        have : xs.all isDig = false := by
          rw [List.all_eq_false]
          refine ⟨xs[k]?.getD 0, ?_, by simp [h]⟩
          rw [hget]; exact List.getElem_mem _
        rw [this]; simp)
      clear hget
      generalize xs[k]?.getD 0 = c at *
      by_cases h1 : c < 48
      · have H := hid (HBAD.out (by unfold isDig; simp; omega))
        clear HBAD HSN HT HV
        go_wp2
        try rw [Exit.noGoto_ret]
        go_ret3
        exact ⟨⟨0, false, (by rw [H.out]; rfl), (by decide), (fun h => by rw [H.out] at h; cases h)⟩, rfl⟩
      · by_cases h2 : 57 < c
        · have H := hid (HBAD.out (by unfold isDig; simp; omega))
          clear HBAD HSN HT HV
          go_wp2
          try rw [Exit.noGoto_ret]
          go_ret3
          exact ⟨⟨0, false, (by rw [H.out]; rfl), (by decide), (fun h => by rw [H.out] at h; cases h)⟩, rfl⟩
        · have H : Hid ((List.take (k + 1) xs).all isDig = true) := hid (by rw [HT.out, HK.out]; show isDig c = true; unfold isDig; simp; omega)
          have hge := dval_ge (xs.take k) 0 (by decide) HK.out
          obtain ⟨D, hD⟩ : ∃ D, dval 0 (xs.take k) = D := ⟨_, rfl⟩
          rw [hD] at HV HSN hge
          clear HBAD HT hD
          by_cases hov : (18446744073709551615 - (c - 48)) / 10 < N
          · have HE : Hid (18446744073709551616 ≤ dval 0 (xs.take (k + 1))) := hid (by
              rw [HSN.out]
              cases ov with
              | true => have := HV.out.1.1 rfl; omega
              | false => have := HV.out.2 rfl; omega)
            have hw := IntKind.wrap_u64 (N * 10 + (c - 48))
            clear HV HSN
            go_wp2
            exact ⟨⟨k + 1, _, true, by omega, rfl, rfl, by go_num, (by first | omega | (rw [IntKind.wrap_u64]; omega)), (by first | omega | (rw [IntKind.wrap_u64]; omega)), hid H.out, hid ⟨⟨(fun _ => HE.out), (fun _ => rfl)⟩, (fun h => by cases h)⟩⟩, by simp [intOf]; omega⟩
          · cases ov with
            | true =>
              have HE : Hid (18446744073709551616 ≤ dval 0 (xs.take (k + 1))) := hid (by rw [HSN.out]; have := HV.out.1.1 rfl; omega)
              clear HV HSN
              go_wp2
              exact ⟨⟨k + 1, _, true, by omega, rfl, rfl, by go_num, (by first | omega | (rw [IntKind.wrap_u64]; omega)), (by first | omega | (rw [IntKind.wrap_u64]; omega)), hid H.out, hid ⟨⟨(fun _ => HE.out), (fun _ => rfl)⟩, (fun h => by cases h)⟩⟩, by simp [intOf]; omega⟩
            | false =>
              have hND := HV.out.2 rfl
              have HE : Hid (N * 10 + (c - 48) = dval 0 (xs.take (k + 1))) := hid (by rw [HSN.out, hND])
              have hlt : N * 10 + (c - 48) < 18446744073709551616 := by omega
              clear HV HSN hND
              go_wp2
              exact ⟨⟨k + 1, N * 10 + (c - 48), false, by omega, by first | rfl | (congr 1; omega), rfl, by go_num, by omega, by omega, hid H.out, hid ⟨⟨(fun h => by cases h), (fun h => by rw [← HE.out] at h; omega)⟩, (fun _ => HE.out)⟩⟩, by simp [intOf]; omega⟩
    · have hkk : k = n0 := by omega
      subst hkk
      have hall : xs.take k = xs := List.take_of_length_le (by omega)
      have H : Hid (decide (0 < k) = digs xs) := hid (by
        have := HK.out
        rw [hall] at this
        unfold digs
        rw [this, Bool.and_true, decide_eq_decide]
        constructor
        · intro h e; subst e; simp at hn; omega
        · intro h; cases xs with
          | nil => exact absurd rfl h
          | cons x r => simp at hn; omega)
      rw [hall] at HV
      clear hall
      go_wp2
      go_ret3
      exact ⟨⟨N, ov, (by rw [← H.out]; rfl), ⟨hN0, hN1⟩, fun _ => HV.out⟩, rfl⟩
theorem pow_2_16 (q : Nat) : (2 : Int) ^ (4 * q) = 16 ^ q := by
  rw [Int.pow_mul]; rfl
theorem hexD_snoc (j q : Nat) (n : Int) : hexD (j + 1) (n / 16 ^ q) = hexD j (n / 16 ^ (q + 1)) ++ [dg (n / 16 ^ q % 16)] := by
  have hp : (0 : Int) < 16 ^ q := Int.pow_pos (by decide)
  rw [hexD, Int.pow_succ, Int.ediv_ediv, if_neg (fun h => by omega), Int.sub_zero]
theorem bitsR (n : Int) (s : Nat) (hs : s = 8 ∨ s = 16) (h0 : 0 ≤ n) (h1 : n < 18446744073709551616) (w : World) :
    Calls Tryz.prog 59 #[.int .u64 n, .int .i64 s] w fun e w' => e = .returned (.string (strOfNums (hexD s n))) ∧ Below w.heap.size w w' := by
  go_enter Tryz.func59, Tryz.ntmps59
  go_wp2
  go_loopw [5, 6] (fun o r wr => ∃ (j m : Nat) (I : Int) (ps : List Int), j ≤ 16 ∧ m ≤ 16 ∧ I = (m : Int) - 1 ∧ r = .int .i64 I ∧ Hid (m + j = s) ∧ Hid (ps.length = j) ∧ Hid (wr.ownsRow w.heap.size 5 1 o j (ps.map (Value.int .u8))) ∧ Hid (ps = hexD j (n / 16 ^ m)) ∧ Hid (Below w.heap.size w wr)) (fun _ r _ => (intOf r + 1).toNat)
  case atStart => exact ⟨0, s, _, [], by omega, by omega, rfl, rfl, hid rfl, hid rfl, hid (World.ownsRow_nil _ _ _ _), hid rfl, hid (Below.refl _ _)⟩
  case round =>
    obtain ⟨j, m, I, ps, hj, hm, hI, rfl, HM, HN, HO, HP, HB⟩ := hrel
    by_cases hz : m = 0
    · have hIm : I = -1 := by omega
      have hjs : j = s := by have := HM.out; omega
      have HE : Hid (ps = hexD s n) := hid (by rw [HP.out, hz, hjs]; simp)
      have hbd : ∀ x ∈ ps, 0 ≤ x ∧ x ≤ 255 := by rw [HP.out]; exact hexD_bd _ _
      obtain ⟨oa, oc, rfl, hrd⟩ := own_reads HO.out hbd
      have hcv := conv hrd
      subst hIm
      clear hrd hbd HO HN HP hI hz hjs HM
      go_wp2
      go_ret
      exact ⟨congrArg (fun l => Ending.returned (.string (strOfNums l))) HE.out, HB.out⟩
    · obtain ⟨q, rfl⟩ : ∃ q, m = q + 1 := ⟨m - 1, by omega⟩
      have hIq : I = (q : Int) := by omega
      subst hIq
      have hq : q ≤ 15 := by omega
      obtain ⟨Y, hY⟩ : ∃ Y, n / 16 ^ q = Y := ⟨_, rfl⟩
      have hY2 : n / 2 ^ (4 * q) = Y := by rw [pow_2_16]; exact hY
      have hp : (0 : Int) < 16 ^ q := Int.pow_pos (by decide)
      have hY0 : 0 ≤ Y := by rw [← hY]; exact Int.ediv_nonneg h0 (by omega)
      have hY1 : Y < 18446744073709551616 := by rw [← hY]; exact Int.lt_of_le_of_lt (Int.ediv_le_self _ h0) h1
      have hA := and15u Y hY0 hY1
      have hw : wrap64 (Y % 16) = Y % 16 := by unfold wrap64; omega
      have HS := hid (hexD_snoc j q n)
      rw [hY] at HS
      have HYE := hid hY
      obtain ⟨v', w3, hr, ho, hg⟩ := append_byte w.heap.size u5 j (ps.map (Value.int .u8)) wr (dg (Y % 16)) HO.out HB.out.size (by omega)
      have HR := hid hr
      have HO2 : Hid (w3.ownsRow w.heap.size 5 1 v' (j + 1) ((ps ++ [dg (Y % 16)]).map (Value.int .u8))) := hid (by rw [List.map_append]; exact ho)
      have HB2 := hid (HB.out.trans (hg.below HB.out.size (fun k hk => (HO.out.lt k hk).1)))
      clear hr ho hg hI hz hY hp
      go_wp2_with (first | (go_at_call 85; refine (digitR (Y % 16) _ (by omega) (by omega)).mono ?_; rintro e w' ⟨rfl, rfl⟩) | (at_builtin; refine wpList_append_ran rfl _ _ 27 27 rfl rfl _ _ v' w3 rfl rfl HR.out ?_))
      exact ⟨⟨j + 1, q, _, ps ++ [dg (Y % 16)], by have := HM.out; omega, by omega, rfl, by go_num, hid (by have := HM.out; omega), hid (by simp [HN.out]), HO2, hid (by rw [HP.out, HYE.out]; exact HS.out.symm), HB2⟩, by simp [intOf]⟩
end Go.Proofs.YtcenkalhklpajaaGreatDoor
namespace Go.Proofs.YtcenkalhklpajaaGreatDoor
open Go.RowKit Go.Sort
set_option maxRecDepth 1000000
set_option linter.unusedVariables false
set_option maxHeartbeats 8000000

/-- A whole number of a kind with an amount: the number, whether it fits. -/
theorem numberOver (k n : Int) (m : Bool) (w : World) : Calls Tryz.prog 58 #[.int .i64 k, .bool m, .int .u64 n, .bool true] w fun e w' => e = .returned (.tuple #[.int .u64 0, .bool false]) ∧ w = w' := by
  go_enter Tryz.func58, Tryz.ntmps58
  go_wp2
  go_ret2
  exact ⟨rfl, rfl⟩
def refNumS (k n : Int) : Int × Bool := if (kneg k || decide (k = 16)) = true ∧ 9223372036854775808 ≤ n then (0, false) else (n, khold k n)
def refNumM (k n : Int) : Int × Bool := if 9223372036854775808 < n then (0, false) else (uns (-n), khold k (uns (-n)))
theorem ret_ub {a c : Int} {b d : Bool} (h1 : a = c) (h2 : b = d) : Ending.returned (.tuple #[.int .u64 a, .bool b]) = .returned (.tuple #[.int .u64 c, .bool d]) := by rw [h1, h2]
theorem numberPlain (k n : Int) (w : World) (h0 : 0 ≤ n) (h1 : n < 18446744073709551616) : Calls Tryz.prog 58 #[.int .i64 k, .bool false, .int .u64 n, .bool false] w fun e w' => e = .returned (.tuple #[.int .u64 (refNumS k n).1, .bool (refNumS k n).2]) ∧ w = w' := by
  have HS := hid (fun W => signedR k W)
  have HH := hid (fun W => holdsR k n W h0 h1)
  unfold refNumS
  generalize (kneg k || decide (k = 16)) = b at *
  cases b with
  | false =>
    rw [if_neg (by simp)]
    go_enter Tryz.func58, Tryz.ntmps58
    go_wp2_with (first | (go_at_call 56; refine (HS.out _).mono ?_; rintro e w' ⟨rfl, rfl⟩) | (go_at_call 82; refine (HH.out _).mono ?_; rintro e w' ⟨rfl, rfl⟩))
    go_ret2
    exact ⟨rfl, rfl⟩
  | true =>
    by_cases hn : 9223372036854775808 ≤ n
    · rw [if_pos ⟨rfl, hn⟩]
      go_enter Tryz.func58, Tryz.ntmps58
      go_wp2_with (first | (go_at_call 56; refine (HS.out _).mono ?_; rintro e w' ⟨rfl, rfl⟩) | (go_at_call 82; refine (HH.out _).mono ?_; rintro e w' ⟨rfl, rfl⟩))
      go_ret2
      exact ⟨rfl, rfl⟩
    · rw [if_neg (fun h => hn h.2)]
      go_enter Tryz.func58, Tryz.ntmps58
      go_wp2_with (first | (go_at_call 56; refine (HS.out _).mono ?_; rintro e w' ⟨rfl, rfl⟩) | (go_at_call 82; refine (HH.out _).mono ?_; rintro e w' ⟨rfl, rfl⟩))
      go_ret2
      exact ⟨rfl, rfl⟩
theorem numberMinus (k n : Int) (w : World) (h0 : 0 ≤ n) (h1 : n < 18446744073709551616) : Calls Tryz.prog 58 #[.int .i64 k, .bool true, .int .u64 n, .bool false] w fun e w' => e = .returned (.tuple #[.int .u64 (refNumM k n).1, .bool (refNumM k n).2]) ∧ w = w' := by
  have hu := uns_conv (-n)
  have hub : 0 ≤ uns (-n) ∧ uns (-n) < 18446744073709551616 := by unfold uns; omega
  have HH := hid (fun W => holdsR k (uns (-n)) W hub.1 hub.2)
  unfold refNumM
  generalize uns (-n) = U at *
  by_cases hn : 9223372036854775808 < n
  · rw [if_pos hn]
    go_enter Tryz.func58, Tryz.ntmps58
    go_wp2
    go_ret2
    exact ⟨rfl, rfl⟩
  · rw [if_neg hn]
    go_enter Tryz.func58, Tryz.ntmps58
    go_wp2_with (go_at_call 82; refine (HH.out _).mono ?_; rintro e w' ⟨rfl, rfl⟩)
    go_ret2
    exact ⟨rfl, rfl⟩
end Go.Proofs.YtcenkalhklpajaaGreatDoor
namespace Go.Proofs.YtcenkalhklpajaaGreatDoor
open Go.RowKit Go.Sort
set_option maxRecDepth 1000000
set_option linter.unusedVariables false
set_option maxHeartbeats 8000000

def bitsG (p : Int × Int) : GotV := if p.2 ≠ 0 then .none p.2 else ⟨p.1, [], 0, 0⟩
theorem bitsPR (k : Int) (sg : Int) (size : Nat) (hk : (k = 12 ∧ sg = 102 ∧ size = 8) ∨ (k = 13 ∧ sg = 100 ∧ size = 16)) (xs : List Int) (hb : ∀ x ∈ xs, 0 ≤ x ∧ x ≤ 255) (hl : xs.length ≤ 281474976710656) (w : World) :
    Calls Tryz.prog 54 #[.int .i64 k, .string (strOfNums xs)] w fun e w' => GaveP w (bitsG (pbits sg size xs)) e w' := by
  have hsz : (strOfNums xs).size = xs.length := strOfNums_size xs
  have HI := hid (fun i h (k : IntKind) W => index_str hb i h k W)
  obtain ⟨n0, hn⟩ : ∃ n0, xs.length = n0 := ⟨_, rfl⟩
  rw [hn] at hsz hl HI
  rcases hk with ⟨rfl, rfl, rfl⟩ | ⟨rfl, rfl, rfl⟩
  · have hbad : n0 ≠ 9 ∨ xs[0]?.getD 0 ≠ 102 → pbits 102 8 xs = (0, 11) := fun h => by
      unfold pbits
      rw [if_neg]
      rintro ⟨h1, h2⟩
      rcases h with h | h
      · omega
      · apply h
        cases xs with
        | nil => simp at h1
        | cons x r => simpa using h1
    by_cases hle : n0 = 9
    · subst hle
      by_cases hh : xs[0]?.getD 0 = 102
      · have hi0 : ∀ W, (Instr.index 9 (.string (strOfNums xs)) (.int .i64 0)).run Tryz.prog W = .ok (.int .u8 102) W := fun W => by rw [← hh]; exact HI.out 0 (by omega) .i64 W
        have HG : Hid (pbits 102 8 xs = (match p16 0 (xs.drop 1) with | some n => (n, 0) | none => (0, 11))) := hid (by
          have hc : xs.head? = some 102 ∧ xs.length = 8 + 1 := by
            refine ⟨?_, by omega⟩
            cases xs with
            | nil => simp at hn
            | cons x r => simpa using hh
          unfold pbits
          rw [if_pos hc]
          cases p16 0 (xs.drop 1) <;> rfl)
        clear hbad hh
        go_enter Tryz.func54, Tryz.ntmps54
        go_wp2
        go_loop [8, 9] (fun vn vi => ∃ (i : Nat) (N : Int), 1 ≤ i ∧ i ≤ 9 ∧ vn = .int .u64 N ∧ vi = .int .i64 i ∧ 0 ≤ N ∧ Hid (N < 16 ^ (i - 1)) ∧ Hid (p16 N (xs.drop i) = p16 0 (xs.drop 1))) (fun _ vi => 9 - (intOf vi).toNat)
        case atStart => exact ⟨1, 0, by omega, by omega, rfl, rfl, by omega, hid (by decide), hid rfl⟩
        case round =>
          obtain ⟨i, N, hi1, hi2, rfl, rfl, hN0, HA, HP⟩ := hrel
          by_cases hin : i < 9
          · have hi := fun W => HI.out i hin .i64 W
            have hcb := hb (xs[i]'(by omega)) (List.getElem_mem _)
            have hget : xs[i]?.getD 0 = xs[i]'(by omega) := by simp [show i < xs.length by omega]
            have hdrop : xs.drop i = xs[i]'(by omega) :: xs.drop (i + 1) := List.drop_eq_getElem_cons (by omega)
            have hpp := HP.out
            rw [hdrop] at hpp
            rw [hget] at hi
            generalize xs[i]'(by omega) = c at hi hcb hpp
            have hii : (i : Int) < 9 := by omega
            have hr := hx_range c
            have HX := hid (fun W => hexR c W hcb.1 hcb.2)
            have HL := hid (pow16_mono (i - 1) 7 (by omega))
            have hN1 : N < 1152921504606846976 := by
              have h1 := HA.out; have h2 := HL.out; have e : (16 : Int) ^ 7 ≤ 1152921504606846976 := by decide
              omega
            have HS : Hid (0 ≤ hx c → N * 16 + hx c < 16 ^ (i + 1 - 1) ∧ p16 (N * 16 + hx c) (xs.drop (i + 1)) = p16 0 (xs.drop 1)) := hid (fun h => by
              refine ⟨?_, by rw [← hpp, p16, if_neg (by omega)]⟩
              rw [show i + 1 - 1 = (i - 1) + 1 by omega, Int.pow_succ]
              have := HA.out
              omega)
            have HB : Hid (hx c < 0 → pbits 102 8 xs = (0, 11)) := hid (fun h => by rw [HG.out, ← hpp, p16, if_pos h])
            clear hget hdrop hpp HA HP HL
            generalize hx c = d at *
            by_cases hd : d < 0
            · have H := hid (HB.out hd)
              clear HB HS
              go_wp2_with (go_at_call 84; refine (HX.out _).mono ?_; rintro e w' ⟨rfl, rfl⟩)
              try rw [Exit.noGoto_ret]
              exact bodyPost_ret (v := .tuple #[.agg #[.int .u64 0, .slice none 0 0, .slice none 0 0], .int .i64 11]) (by simp [results, Tryz.results54, go_sem]) rfl (gaveP_err (by rw [H.out]; rfl) (below_alloc _))
            · have H := hid (HS.out (by omega))
              clear HB HS
              go_wp2_with (go_at_call 84; refine (HX.out _).mono ?_; rintro e w' ⟨rfl, rfl⟩)
              exact ⟨⟨i + 1, N * 16 + d, by omega, by omega, (by first | rfl | (congr 1; omega)), by go_num, by omega, hid H.out.1, hid H.out.2⟩, by simp [intOf]; omega⟩
          · have hii : i = 9 := by omega
            subst hii
            have H : Hid (pbits 102 8 xs = (N, 0)) := hid (by rw [HG.out, ← HP.out, List.drop_eq_nil_of_le (by omega)]; rfl)
            clear HG HP HA
            go_wp2
            exact bodyPost_ret (v := .tuple #[.agg #[.int .u64 N, .slice none 0 0, .slice none 0 0], .int .i64 0]) (by simp [results, Tryz.results54, go_sem]) rfl (gaveP_num (nx := 0) (by rw [H.out]; rfl) (below_alloc _))
      · have H := hid (hbad (.inr hh))
        have hi0 : ∀ W, (Instr.index 9 (.string (strOfNums xs)) (.int .i64 0)).run Tryz.prog W = .ok (.int .u8 (xs[0]?.getD 0)) W := fun W => HI.out 0 (by omega) .i64 W
        have hne : (xs[0]?.getD 0 != 102) = true := by simpa using hh
        generalize xs[0]?.getD 0 = c0 at *
        clear hbad hh
        go_enter Tryz.func54, Tryz.ntmps54
        go_wp2
        exact bodyPost_ret (v := .tuple #[.agg #[.int .u64 0, .slice none 0 0, .slice none 0 0], .int .i64 11]) (by simp [results, Tryz.results54, go_sem]) rfl (gaveP_err (by rw [H.out]; rfl) (below_alloc _))
    · have H := hid (hbad (.inl hle))
      have hne : ((n0 : Int) != 9) = true := by simp; omega
      clear hbad hle
      go_enter Tryz.func54, Tryz.ntmps54
      go_wp2
      exact bodyPost_ret (v := .tuple #[.agg #[.int .u64 0, .slice none 0 0, .slice none 0 0], .int .i64 11]) (by simp [results, Tryz.results54, go_sem]) rfl (gaveP_err (by rw [H.out]; rfl) (below_alloc _))
  · have hbad : n0 ≠ 17 ∨ xs[0]?.getD 0 ≠ 100 → pbits 100 16 xs = (0, 11) := fun h => by
      unfold pbits
      rw [if_neg]
      rintro ⟨h1, h2⟩
      rcases h with h | h
      · omega
      · apply h
        cases xs with
        | nil => simp at h1
        | cons x r => simpa using h1
    by_cases hle : n0 = 17
    · subst hle
      by_cases hh : xs[0]?.getD 0 = 100
      · have hi0 : ∀ W, (Instr.index 9 (.string (strOfNums xs)) (.int .i64 0)).run Tryz.prog W = .ok (.int .u8 100) W := fun W => by rw [← hh]; exact HI.out 0 (by omega) .i64 W
        have HG : Hid (pbits 100 16 xs = (match p16 0 (xs.drop 1) with | some n => (n, 0) | none => (0, 11))) := hid (by
          have hc : xs.head? = some 100 ∧ xs.length = 16 + 1 := by
            refine ⟨?_, by omega⟩
            cases xs with
            | nil => simp at hn
            | cons x r => simpa using hh
          unfold pbits
          rw [if_pos hc]
          cases p16 0 (xs.drop 1) <;> rfl)
        clear hbad hh
        go_enter Tryz.func54, Tryz.ntmps54
        go_wp2
        go_loop [8, 9] (fun vn vi => ∃ (i : Nat) (N : Int), 1 ≤ i ∧ i ≤ 17 ∧ vn = .int .u64 N ∧ vi = .int .i64 i ∧ 0 ≤ N ∧ Hid (N < 16 ^ (i - 1)) ∧ Hid (p16 N (xs.drop i) = p16 0 (xs.drop 1))) (fun _ vi => 17 - (intOf vi).toNat)
        case atStart => exact ⟨1, 0, by omega, by omega, rfl, rfl, by omega, hid (by decide), hid rfl⟩
        case round =>
          obtain ⟨i, N, hi1, hi2, rfl, rfl, hN0, HA, HP⟩ := hrel
          by_cases hin : i < 17
          · have hi := fun W => HI.out i hin .i64 W
            have hcb := hb (xs[i]'(by omega)) (List.getElem_mem _)
            have hget : xs[i]?.getD 0 = xs[i]'(by omega) := by simp [show i < xs.length by omega]
            have hdrop : xs.drop i = xs[i]'(by omega) :: xs.drop (i + 1) := List.drop_eq_getElem_cons (by omega)
            have hpp := HP.out
            rw [hdrop] at hpp
            rw [hget] at hi
            generalize xs[i]'(by omega) = c at hi hcb hpp
            have hii : (i : Int) < 17 := by omega
            have hr := hx_range c
            have HX := hid (fun W => hexR c W hcb.1 hcb.2)
            have HL := hid (pow16_mono (i - 1) 15 (by omega))
            have hN1 : N < 1152921504606846976 := by
              have h1 := HA.out; have h2 := HL.out; have e : (16 : Int) ^ 15 ≤ 1152921504606846976 := by decide
              omega
            have HS : Hid (0 ≤ hx c → N * 16 + hx c < 16 ^ (i + 1 - 1) ∧ p16 (N * 16 + hx c) (xs.drop (i + 1)) = p16 0 (xs.drop 1)) := hid (fun h => by
              refine ⟨?_, by rw [← hpp, p16, if_neg (by omega)]⟩
              rw [show i + 1 - 1 = (i - 1) + 1 by omega, Int.pow_succ]
              have := HA.out
              omega)
            have HB : Hid (hx c < 0 → pbits 100 16 xs = (0, 11)) := hid (fun h => by rw [HG.out, ← hpp, p16, if_pos h])
            clear hget hdrop hpp HA HP HL
            generalize hx c = d at *
            by_cases hd : d < 0
            · have H := hid (HB.out hd)
              clear HB HS
              go_wp2_with (go_at_call 84; refine (HX.out _).mono ?_; rintro e w' ⟨rfl, rfl⟩)
              try rw [Exit.noGoto_ret]
              exact bodyPost_ret (v := .tuple #[.agg #[.int .u64 0, .slice none 0 0, .slice none 0 0], .int .i64 11]) (by simp [results, Tryz.results54, go_sem]) rfl (gaveP_err (by rw [H.out]; rfl) (below_alloc _))
            · have H := hid (HS.out (by omega))
              clear HB HS
              go_wp2_with (go_at_call 84; refine (HX.out _).mono ?_; rintro e w' ⟨rfl, rfl⟩)
              exact ⟨⟨i + 1, N * 16 + d, by omega, by omega, (by first | rfl | (congr 1; omega)), by go_num, by omega, hid H.out.1, hid H.out.2⟩, by simp [intOf]; omega⟩
          · have hii : i = 17 := by omega
            subst hii
            have H : Hid (pbits 100 16 xs = (N, 0)) := hid (by rw [HG.out, ← HP.out, List.drop_eq_nil_of_le (by omega)]; rfl)
            clear HG HP HA
            go_wp2
            exact bodyPost_ret (v := .tuple #[.agg #[.int .u64 N, .slice none 0 0, .slice none 0 0], .int .i64 0]) (by simp [results, Tryz.results54, go_sem]) rfl (gaveP_num (nx := 0) (by rw [H.out]; rfl) (below_alloc _))
      · have H := hid (hbad (.inr hh))
        have hi0 : ∀ W, (Instr.index 9 (.string (strOfNums xs)) (.int .i64 0)).run Tryz.prog W = .ok (.int .u8 (xs[0]?.getD 0)) W := fun W => HI.out 0 (by omega) .i64 W
        have hne : (xs[0]?.getD 0 != 100) = true := by simpa using hh
        generalize xs[0]?.getD 0 = c0 at *
        clear hbad hh
        go_enter Tryz.func54, Tryz.ntmps54
        go_wp2
        exact bodyPost_ret (v := .tuple #[.agg #[.int .u64 0, .slice none 0 0, .slice none 0 0], .int .i64 11]) (by simp [results, Tryz.results54, go_sem]) rfl (gaveP_err (by rw [H.out]; rfl) (below_alloc _))
    · have H := hid (hbad (.inl hle))
      have hne : ((n0 : Int) != 17) = true := by simp; omega
      clear hbad hle
      go_enter Tryz.func54, Tryz.ntmps54
      go_wp2
      exact bodyPost_ret (v := .tuple #[.agg #[.int .u64 0, .slice none 0 0, .slice none 0 0], .int .i64 11]) (by simp [results, Tryz.results54, go_sem]) rfl (gaveP_err (by rw [H.out]; rfl) (below_alloc _))
end Go.Proofs.YtcenkalhklpajaaGreatDoor
