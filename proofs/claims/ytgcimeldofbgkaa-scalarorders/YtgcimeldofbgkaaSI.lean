/-
  Get: the program's walk.
-/
import Derived.Test.YtgcimeldofbgkaaSH
namespace Go.Proofs.Ytgcimeldofbgkaa
open Go.RowKit
set_option maxRecDepth 1000000
set_option maxHeartbeats 2000000

/-- What a caller of Get is told. -/
def Gave (w : World) (g : GotV) (e : Ending) (w' : World) : Prop := ∃ a c, e = .returned (.tuple #[.agg #[.int .u64 g.n, .slice a g.b.length c, .slice none 0 0], .int .i64 g.next, .int .i64 g.err]) ∧ Reads w' a g.b.length c g.b ∧ Below w.heap.size w w'
theorem gave_err {w w' : World} {g : GotV} {er : Int} (hg : g = .none er) (hb : Below w.heap.size w w') : Gave w g (.returned (.tuple #[.agg #[.int .u64 0, .slice none 0 0, .slice none 0 0], .int .i64 0, .int .i64 er])) w' := by subst hg; exact ⟨none, 0, rfl, reads_nil _, hb⟩
theorem gave_num {w w' : World} {g : GotV} {N nx : Int} (hg : g = ⟨N, [], nx, 0⟩) (hb : Below w.heap.size w w') : Gave w g (.returned (.tuple #[.agg #[.int .u64 N, .slice none 0 0, .slice none 0 0], .int .i64 nx, .int .i64 0])) w' := by subst hg; exact ⟨none, 0, rfl, reads_nil _, hb⟩
theorem gave_row {w w' : World} {g : GotV} {ys : List Int} {nx : Int} {a : Option Addr} {c : Nat} (hg : g = ⟨0, ys, nx, 0⟩) (hr : Reads w' a ys.length c ys) (hb : Below w.heap.size w w') : Gave w g (.returned (.tuple #[.agg #[.int .u64 0, .slice a ys.length c, .slice none 0 0], .int .i64 nx, .int .i64 0])) w' := by subst hg; exact ⟨a, c, rfl, hr, hb⟩

theorem own_reads' {w : World} {base n c : Nat} {a : Option Addr} {xs : List Int} (h : w.ownsRow base 5 1 (.slice a n c) n (xs.map (Value.int .u8))) (hb : ∀ x ∈ xs, 0 ≤ x ∧ x ≤ 255) : Reads w a n c xs := by
  obtain ⟨a', c', e, hr⟩ := own_reads h hb
  cases e
  exact hr
/-- Three stores into the value's own block. -/
def set3 (w : World) (b : Nat) (x y z : Value) : World := ((w.setCell ⟨b, 0, none⟩ x).setCell ⟨b, 1, none⟩ y).setCell ⟨b, 2, none⟩ z
theorem below_set3 {w w2 : World} {b : Nat} (h : Below b w w2) (x y z : Value) : Below b w (set3 w2 b x y z) := ((h.setCell (p := ⟨b, 0, none⟩) (Nat.le_refl _) x).setCell (p := ⟨b, 1, none⟩) (Nat.le_refl _) y).setCell (p := ⟨b, 2, none⟩) (Nat.le_refl _) z
theorem own_set3 {w : World} {b base n : Nat} {v : Value} {xs : List Value} (h : w.ownsRow base 5 1 v n xs) (hb : b < base) (x y z : Value) : (set3 w b x y z).ownsRow base 5 1 v n xs :=
  ownsRow_setCell_below (ownsRow_setCell_below (ownsRow_setCell_below h (a := ⟨b, 0, none⟩) hb x) (a := ⟨b, 1, none⟩) hb y) (a := ⟨b, 2, none⟩) hb z
theorem froz {w w2 : World} {x y z : Value} (hb : Below (w.alloc (.cells #[x, y, z] 26)).heap.size (w.alloc (.cells #[x, y, z] 26)) w2) : ∀ o, w2.frozen? ⟨w.heap.size, o, none⟩ = false := fun o => by rw [hb.frozen (p := ⟨w.heap.size, o, none⟩) (by simp), World.frozen?_alloc_at _ _ _ _ rfl]
theorem grew {w w2 : World} {x y z : Value} (hb : Below (w.alloc (.cells #[x, y, z] 26)).heap.size (w.alloc (.cells #[x, y, z] 26)) w2) : w.heap.size < w2.heap.size := by have := hb.size; simp at this; omega

theorem getKindNo (k : Int) (a : Option Addr) (len cap : Nat) (p : Int) (w : World) (hk : kone k = false) :
    Calls Try.prog 20 #[.int .i64 k, .slice a len cap, .int .i64 p] w fun e w' => Gave w (.none 18) e w' := by
  have HS := hid (fun W => singleW k W)
  rw [hk] at HS
  clear hk
  go_enter Try.func20, Try.ntmps20
  go_wp2_with (go_at_call 36; refine (HS.out _).mono ?_; rintro e w' ⟨rfl, rfl⟩)
  exact bodyPost_ret (v := .tuple #[.agg #[.int .u64 0, .slice none 0 0, .slice none 0 0], .int .i64 0, .int .i64 18]) (by simp [results, Try.results20, go_sem]) rfl (gave_err rfl (below_alloc _))

section
variable (k N nx er : Int) (a : Option Addr) (len cap : Nat) (p : Int) (w : World)
theorem getNumErr (hk : kone k = true) (h14 : (k == 14) = false) (h15 : (k == 15) = false) (her : (er == 0) = false)
    (HG : ∀ W : World, Below w.heap.size w W → Calls Try.prog 38 #[.int .i64 k, .slice a len cap, .int .i64 p] W fun e w' => e = .returned (.tuple #[.int .u64 N, .int .i64 nx, .int .i64 er]) ∧ W = w') :
    Calls Try.prog 20 #[.int .i64 k, .slice a len cap, .int .i64 p] w fun e w' => Gave w (.none er) e w' := by
  have HS := hid (fun W => singleW k W)
  rw [hk] at HS
  have HN := hid HG
  have hne : (er != 0) = true := by unfold bne; rw [her]; rfl
  clear hk HG
  go_enter Try.func20, Try.ntmps20
  go_wp2_with (first | (go_at_call 36; refine (HS.out _).mono ?_; rintro e w' ⟨rfl, rfl⟩) | (go_at_call 38; refine (HN.out _ (below_alloc _)).mono ?_; rintro e w' ⟨rfl, rfl⟩))
  exact bodyPost_ret (v := .tuple #[.agg #[.int .u64 0, .slice none 0 0, .slice none 0 0], .int .i64 0, .int .i64 er]) (by simp [results, Try.results20, go_sem]) rfl (gave_err rfl (below_alloc _))

theorem getNumOk (hk : kone k = true) (h14 : (k == 14) = false) (h15 : (k == 15) = false) (hN0 : 0 ≤ N) (hN1 : N < 18446744073709551616)
    (HG : ∀ W : World, Below w.heap.size w W → Calls Try.prog 38 #[.int .i64 k, .slice a len cap, .int .i64 p] W fun e w' => e = .returned (.tuple #[.int .u64 N, .int .i64 nx, .int .i64 0]) ∧ W = w') :
    Calls Try.prog 20 #[.int .i64 k, .slice a len cap, .int .i64 p] w fun e w' => Gave w (if khold k N = true then ⟨N, [], nx, 0⟩ else .none 7) e w' := by
  have HS := hid (fun W => singleW k W)
  rw [hk] at HS
  have HN := hid HG
  have h14' : k ≠ 14 := by simpa using h14
  have h15' : k ≠ 15 := by simpa using h15
  have HF := hid (fun W : World => faultW k N none none 0 0 0 0 W [] hN0 hN1 (reads_nil W) (by omega))
  have hkb : 1 ≤ k ∧ k ≤ 16 := by unfold kone at hk; simpa using hk
  have hvf : vfit k N ([] : List Int).length 0 = khold k N := by rw [show ([] : List Int).length = 0 from rfl, vfit_n h14' h15', nfit_h hkb.1 hkb.2 h14' h15']
  cases hh : khold k N with
  | false =>
    rw [hh] at hvf
    rw [flt_v k N 0 (xs := []) hk hvf] at HF
    clear hk HG h14' h15' hkb hvf hh
    go_enter Try.func20, Try.ntmps20
    go_wp2_with (first | (go_at_call 36; refine (HS.out _).mono ?_; rintro e w' ⟨rfl, rfl⟩) | (go_at_call 38; refine (HN.out _ (below_alloc _)).mono ?_; rintro e w' ⟨rfl, rfl⟩) | (go_at_call 30; refine (HF.out _).mono ?_; rintro e w2 ⟨rfl, hb2⟩; obtain ⟨d0, d1, d2⟩ := vcells hb2; have hfz := froz hb2; have hgr := grew hb2; replace hb2 := hid hb2))
    exact bodyPost_ret (v := .tuple #[.agg #[.int .u64 0, .slice none 0 0, .slice none 0 0], .int .i64 0, .int .i64 7]) (by simp [results, Try.results20, go_sem, d0, d1, d2]) rfl (gave_err rfl (below_set3 (below_trans (below_alloc _) hb2.out) _ _ _))
  | true =>
    rw [hh] at hvf
    rw [flt_0 k N 0 (xs := []) hk hvf (by omega)] at HF
    clear hk HG h14' h15' hkb hvf hh
    go_enter Try.func20, Try.ntmps20
    go_wp2_with (first | (go_at_call 36; refine (HS.out _).mono ?_; rintro e w' ⟨rfl, rfl⟩) | (go_at_call 38; refine (HN.out _ (below_alloc _)).mono ?_; rintro e w' ⟨rfl, rfl⟩) | (go_at_call 30; refine (HF.out _).mono ?_; rintro e w2 ⟨rfl, hb2⟩; obtain ⟨d0, d1, d2⟩ := vcells hb2; have hfz := froz hb2; have hgr := grew hb2; replace hb2 := hid hb2))
    exact bodyPost_ret (v := .tuple #[.agg #[.int .u64 N, .slice none 0 0, .slice none 0 0], .int .i64 nx, .int .i64 0]) (by simp [results, Try.results20, go_sem, d0, d1, d2]) rfl (gave_num rfl (below_set3 (below_trans (below_alloc _) hb2.out) _ _ _))
end
end Go.Proofs.Ytgcimeldofbgkaa
