/-
  A value that comes in, opened; what the reach says of its bytes.
-/
import Derived.Test.YtcenkalhklpajaaGreatDoorCG
import Derived.SizedLaws
import Derived.Deep.Slices
namespace Go.Proofs.YtcenkalhklpajaaGreatDoor
open Go.ChangeShapes Go.WideShapes Go.ChangeAt Go.RowKit Go.Deep
set_option maxRecDepth 1000000

section
variable {H : Type} {enc : TypeId × Value → H} {W : World} {spare : Nat → Bool} {held : Bool}

theorem each_all {P : Program} {ts : List TypeId} {ds : List (DataW H)} (h : (DataW.weightsEach P ts ds).all (· ≤ reachBytes) = true) {j : Nat} {t : TypeId} {d : DataW H} (ht : ts[j]? = some t) (hd : ds[j]? = some d) : (d.weights P t).all (· ≤ reachBytes) = true :=
  List.all_eq_true.2 fun x hx => List.all_eq_true.1 h x (DataW.weights_mem_each ht hd x hx)
theorem bytes5 : Tryz.prog.bytesOf 5 = 1 := by kernel_rfl
/-- A slice of bytes, opened, with the reach. -/
theorem bytes_sized {fuel : Nat} {v : Value} {y : DataW H × List MemPlace} (hf : DataW.trod enc Tryz.prog W 0 spare held fuel 27 [v] = some y) :
    ∃ a len cap xs, v = .slice a len cap ∧ Reads W a len cap xs ∧ len + 1 ≤ Rows.uptoBulk y.1 ∧ ((y.1.weights Tryz.prog 27).all (· ≤ reachBytes) = true → len ≤ 140737488351232) := by
  obtain ⟨a, len, cap, xs, hv, hr, hb⟩ := bytes_open hf
  refine ⟨a, len, cap, xs, hv, hr, hb, fun hw => ?_⟩
  rcases open_ints Tryz.underlying27 Tryz.underlying5 (by kernel_rfl) hf with ⟨hcs, rfl⟩ | ⟨x, l, c, zs, hcs, _, hl, hm, hz, rfl, hcell, hwz⟩
  · rw [hv] at hcs
    simp at hcs
    omega
  · rw [hv] at hcs
    simp at hcs
    obtain ⟨_, rfl, _⟩ := hcs
    have hs := List.all_eq_true.1 hw (((lits (H := H) .u8 (zs.take len)).length + (lits (H := H) .u8 (zs.drop len)).length) * Tryz.prog.bytesOf 5) (by simp [DataW.weights, Tryz.underlying27])
    rw [bytes5] at hs
    simp only [lits, List.length_map, List.length_take, List.length_drop, reachBytes, decide_eq_true_eq] at hs
    have : len ≤ zs.length := by rw [hz]; split <;> omega
    omega
theorem fields33 : ∃ f0 f1 f2, Tryz.prog.underlying 33 = some (.struct #[f0, f1, f2]) ∧ oneCellFields Tryz.prog #[f0, f1, f2] = true ∧ f0.type = 30 ∧ f1.type = 27 ∧ ∃ e, Tryz.prog.underlying f2.type = some (.slice e) :=
  ⟨_, _, _, Tryz.underlying33, by kernel_rfl, by kernel_rfl, by kernel_rfl, _, Tryz.underlying31⟩
theorem Tryz.cells33 : Tryz.prog.cellsOf 33 = 3 := by kernel_rfl
/-- A value's three cells, opened. -/
theorem val_open {fuel : Nat} {c0 c1 c2 : Value} {y : DataW H × List MemPlace} (hf : DataW.trod enc Tryz.prog W 0 spare held fuel 33 [c0, c1, c2] = some y) :
    ∃ n a len cap xs am lm cm, c0 = .int .u64 n ∧ c1 = .slice a len cap ∧ c2 = .slice am lm cm ∧ Reads W a len cap xs ∧ (0 ≤ n ∧ n < 18446744073709551616) ∧ lm ≤ 9223372036854775807 ∧ len + 4 ≤ Rows.uptoBulk y.1 ∧ ((y.1.weights Tryz.prog 33).all (· ≤ reachBytes) = true → len ≤ 140737488351232) := by
  obtain ⟨f0, f1, f2, hs, hone, t0, t1, e, t2⟩ := fields33
  obtain ⟨y0, y1, y2, n, hx, _, h0, h1, h2⟩ := trod_struct3 hs hf
  obtain ⟨o0, k0⟩ := hone_of hone 0 f0 rfl
  obtain ⟨o1, k1⟩ := hone_of hone 1 f1 rfl
  obtain ⟨o2, k2⟩ := hone_of hone 2 f2 rfl
  have g0 : DataW.trod enc Tryz.prog W 0 spare held n 30 [c0] = some y0 := by rw [← t0]; simpa [o0, k0] using h0
  have g1 : DataW.trod enc Tryz.prog W 0 spare held n 27 [c1] = some y1 := by rw [← t1]; simpa [o1, k1] using h1
  have g2 : DataW.trod enc Tryz.prog W 0 spare held n f2.type [c2] = some y2 := by simpa [o2, k2] using h2
  obtain ⟨m0, e0, _, w0⟩ := DataW.trod_int Tryz.underlying30 g0
  obtain ⟨a, len, cap, xs, e1, hr, hb, hsz⟩ := bytes_sized g1
  obtain ⟨am, lm, cm, e2, hlm⟩ : ∃ am lm cm, c2 = .slice am lm cm ∧ lm ≤ 9223372036854775807 := by
    rcases open_slice t2 g2 with ⟨hc, _⟩ | ⟨x, l, c, m, n', D, Pl, hc, _, hl, hm, _⟩
    · simp at hc; exact ⟨none, 0, 0, hc, by omega⟩
    · simp at hc; exact ⟨some x, l, c, hc, by unfold maxLen at hm; omega⟩
  simp at e0
  have hb0 := bounds_u64 w0
  refine ⟨m0, a, len, cap, xs, am, lm, cm, e0, e1, e2, hr, ⟨hb0.1, by omega⟩, hlm, ?_, fun hw => hsz ?_⟩
  · subst hx
    simp only [Rows.uptoBulk, Rows.uptoBulkAll]
    have := bulk_one y0.1
    have := bulk_one y2.1
    omega
  · subst hx
    rw [← t1]
    refine each_all (ts := [f0.type, f1.type, f2.type]) (ds := [y0.1, y1.1, y2.1]) ?_ (j := 1) rfl rfl
    simpa [DataW.weights, hs] using hw
end
end Go.Proofs.YtcenkalhklpajaaGreatDoor
