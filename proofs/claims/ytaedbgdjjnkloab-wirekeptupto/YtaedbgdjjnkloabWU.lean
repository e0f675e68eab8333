/-
  The walk over Join.
-/
import Derived.Test.YtaedbgdjjnkloabWT
namespace Go.Proofs.Ytaedbgdjjnkloab
open Go.RowKit

theorem own_step {w : World} {base : Nat} {v : Value} {acc ps zs : List Int} (h : w.ownsRow base 5 1 v (acc.length + ps.length) (acc.map (Value.int .u8) ++ ps.map (Value.int .u8))) (e : zs = acc ++ ps) :
    w.ownsRow base 5 1 v zs.length (zs.map (Value.int .u8)) := by
  subst e
  simpa using h

set_option maxHeartbeats 400000 in
theorem joinW (a : Option Addr) (len cap : Nat) (es : List Ent) (w : World) (h : ReadsL w a len cap es) (hbulk : bulk es ≤ 70368744177664) :
    Calls Try.prog 6 #[.slice a len cap] w fun e w' => ∃ v, e = .returned (.tuple #[v, .int .i64 (jn es).2]) ∧ w'.ownsRow w.heap.size 5 1 v (jn es).1.length ((jn es).1.map (Value.int .u8)) ∧ Below w.heap.size w w' := by
  have hlm : len ≤ 9223372036854775807 := Nat.le_trans h.le h.max
  have HR := hid h
  have hlen := hid h.length
  clear h
  go_enter Try.func6, Try.ntmps6
  go_wp2
  go_loopw [4, 10] (fun o r wr => ∃ (k : Nat) (acc : List Int), k ≤ len ∧ r = .int .i64 k ∧ acc.length + bulk (es.drop k) ≤ bulk es ∧ wr.ownsRow w.heap.size 5 1 o acc.length (acc.map (Value.int .u8)) ∧ Below w.heap.size w wr ∧ Hid (jn es = jnF (es.drop k) acc)) (fun _ r _ => len - (intOf r).toNat)
  case atStart => exact ⟨0, [], by omega, rfl, by simp, World.ownsRow_nil _ _ _ _, Below.refl _ _, by show _ = _; rfl⟩
  case round =>
    obtain ⟨k, acc, hk, rfl, hacc, ho, hbw, HS⟩ := hrel
    by_cases hlt : k < len
    · obtain ⟨x, hx⟩ : ∃ x, es[k]? = some x := ⟨_, List.getElem?_eq_getElem (by rw [hlen.out]; exact hlt)⟩
      have hd : es.drop k = x :: es.drop (k + 1) := by
        obtain ⟨hk', e⟩ := List.getElem?_eq_some_iff.1 hx
        rw [← e]; exact List.drop_eq_getElem_cons hk'
      have HD := hid hd
      rcases HR.out.cells with ⟨h, _⟩ | ⟨b, off, rfl, hc1⟩
      · omega
      obtain ⟨sa, sl, sc, q0, q1, q2, q3, hr1, hn0, hn1⟩ := hc1 k x hx
      have hkc : ∀ o, wr.cell? ⟨b, o, none⟩ = w.cell? ⟨b, o, none⟩ := fun o => hbw.cell (p := ⟨b, o, none⟩) (World.block_lt_of_cell? _ ⟨b, off + k * 4, none⟩ q0)
      have p0 := (hkc _).trans q0
      have p1 := (hkc _).trans q1
      have p2 := (hkc _).trans q2
      have p3 := (hkc _).trans q3
      have hxl := hr1.length
      have hsl : sl ≤ 9223372036854775807 := Nat.le_trans hr1.le hr1.max
      have hbk : acc.length + (20 + sl + bulk (es.drop (k + 1))) ≤ bulk es := by
        rw [hd] at hacc; simp only [bulk] at hacc; omega
      have HR1 := hid hr1
      have HXL := hid hxl
      have HO := hid ho
      have HBW := hid hbw
      have hsz := hbw.size
      clear hc1 hkc q0 q1 q2 q3 hx hr1 hd hxl ho hbw hacc
      cases he : (ef x.num x.kind x.n sl != 0) with
      | true =>
        go_wp2_with fail
        refine (entryFaultW _ _ _ _ _ _ _ hsl).mono ?_
        rintro e w1 ⟨rfl, hb1⟩
        have HB1 := hid hb1
        clear hb1
        go_wp2
        go_ret2
        have e1 : jn es = ([], ef x.num x.kind x.n sl) := by rw [HS.out, HD.out, jnF_err (by rw [HXL.out]; exact he), HXL.out]
        exact ⟨_, by rw [e1]; rfl, by rw [e1]; exact World.ownsRow_nil _ _ _ _, below_trans (below_trans HBW.out (below_alloc _)) HB1.out⟩
      | false =>
        have he0 : ef x.num x.kind x.n sl = 0 := by simpa using he
        have HE := hid he0
        have HT := hid (ef_ok he0).1
        have HF := hid he
        clear he he0
        go_wp2_with fail
        refine (entryFaultW _ _ _ _ _ _ _ hsl).mono ?_
        rw [HE.out]
        rintro e w1 ⟨rfl, hb1⟩
        have c0 : w1.cell? ⟨wr.heap.size, 0, none⟩ = some (.int .i64 x.num) := by rw [hb1.cell (p := ⟨wr.heap.size, 0, none⟩) (by simp), World.cell?_alloc_at _ _ _ _ rfl]; rfl
        have c1 : w1.cell? ⟨wr.heap.size, 1, none⟩ = some (.int .i64 x.kind) := by rw [hb1.cell (p := ⟨wr.heap.size, 1, none⟩) (by simp), World.cell?_alloc_at _ _ _ _ rfl]; rfl
        have c2 : w1.cell? ⟨wr.heap.size, 2, none⟩ = some (.int .u64 x.n) := by rw [hb1.cell (p := ⟨wr.heap.size, 2, none⟩) (by simp), World.cell?_alloc_at _ _ _ _ rfl]; rfl
        have c3 : w1.cell? ⟨wr.heap.size, 3, none⟩ = some (.slice sa sl sc) := by rw [hb1.cell (p := ⟨wr.heap.size, 3, none⟩) (by simp), World.cell?_alloc_at _ _ _ _ rfl]; rfl
        have hbw1 : Below wr.heap.size wr w1 := below_trans (below_alloc (.cells #[.int .i64 x.num, .int .i64 x.kind, .int .u64 x.n, .slice sa sl sc] 37)) hb1
        have hs1 := hbw1.size
        have HBR := hid hbw1
        clear hbw1 hb1
        go_wp2_with fail
        refine (addEntryW w.heap.size _ acc.length (acc.map (Value.int .u8)) x.num x.kind x.n sa sl sc x.b _ (own_kept HO.out HBR.out) (by omega) (fun w' h => reads_kept HR1.out ((HBW.out.trans (HBR.out.mono hsz)).trans h)) HT.out hn0 hn1 (by omega)).mono ?_
        rintro e w3 ⟨v3, rfl, ho3, hg3⟩
        have hpe := pe_len (num := x.num) (kind := x.kind) (n := x.n) (ys := x.b)
        have hxl2 := HXL.out
        have hb3 : Below w.heap.size w w3 := (HBW.out.trans (HBR.out.mono hsz)).trans (hg3.below (by omega) (fun k hk => (HO.out.lt k hk).1))
        have HG := hid hg3
        clear hg3
        go_wp2
        refine ⟨⟨k + 1, acc ++ pe x.num x.kind x.n x.b, by omega, by go_num, by rw [List.length_append]; omega, own_step ho3 rfl, hb3, ?_⟩, by simp [intOf]; omega⟩
        show _ = _
        rw [HS.out, HD.out, jnF_more (by rw [hxl2]; exact HF.out)]
    · obtain rfl : k = len := by omega
      go_wp2
      go_ret2
      have e1 : jn es = (acc, 0) := by rw [HS.out, List.drop_eq_nil_of_le (by rw [hlen.out]; exact Nat.le_refl _)]; rfl
      exact ⟨_, by rw [e1]; rfl, by rw [e1]; exact ho, hbw⟩
end Go.Proofs.Ytaedbgdjjnkloab
