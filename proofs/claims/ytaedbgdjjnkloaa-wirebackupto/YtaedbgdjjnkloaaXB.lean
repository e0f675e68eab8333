/-
  The walk of the law WireBack.
-/
import Derived.Test.YtaedbgdjjnkloaaWY
import Derived.Test.YtaedbgdjjnkloaaM7
namespace Go.Proofs.Ytaedbgdjjnkloaa
open Go.RowKit

/-- Appending bytes that can be read in W to what was built since W. -/
theorem cat (W : World) (v : Value) (n : Nat) (xs : List Int) (w1 : World) (a : Option Addr) (len cap : Nat) (ys : List Int) (hown : w1.ownsRow W.heap.size 5 1 v n (xs.map (Value.int .u8))) (hb : Below W.heap.size W w1) (hr : Reads W a len cap ys) (hn : n + len ≤ 140737488355328) :
    ∃ v' w', (Builtin.append_ #[22, 22] 22 #[v, .slice a len cap]).run Try.prog w1 = .ok v' w' ∧ w'.ownsRow W.heap.size 5 1 v' (n + len) ((xs ++ ys).map (Value.int .u8)) ∧ Below W.heap.size W w' := by
  obtain ⟨v', w', h1, h2, h3⟩ := append_bytes W.heap.size v n _ w1 a len cap ys hown hb.size (reads_kept hr hb) hn
  refine ⟨v', w', h1, by rw [List.map_append]; exact h2, hb.trans (h3.below hb.size (fun k hk => (hown.lt k hk).1))⟩
theorem own_empty (W : World) : (W.alloc (.cells #[] 5)).ownsRow W.heap.size 5 1 (.slice (some ⟨W.heap.size, 0, none⟩) 0 0) 0 (([] : List Int).map (Value.int .u8)) :=
  World.ownsRow_made W #[] 0 (Nat.le_refl _) (by unfold maxLen; omega) rfl

set_option maxRecDepth 100000 in
set_option maxHeartbeats 8000000 in
theorem backW (n num kind xn : Int) (xa a1 a2 : Option Addr) (xl xc l1 c1 l2 c2 : Nat) (ys ahead behind : List Int) (w : World) (hn0 : 0 ≤ n) (hn1 : n ≤ 18446744073709551615) (hx0 : 0 ≤ xn) (hx1 : xn ≤ 18446744073709551615)
    (hx : Reads w xa xl xc ys) (ha : Reads w a1 l1 c1 ahead) (hbh : Reads w a2 l2 c2 behind) (sx : xl ≤ 1048576) (s1 : l1 ≤ 1048576) (s2 : l2 ≤ 1048576) :
    Calls Try.prog 8 #[.int .u64 n, .agg #[.int .i64 num, .int .i64 kind, .int .u64 xn, .slice xa xl xc], .slice a1 l1 c1, .slice a2 l2 c2] w fun e w' => e = .returned (.bool true) ∧ Below w.heap.size w w' := by
  have hpl := (pv_len n).2
  have hL1 := ha.length
  have hL2 := hbh.length
  have hLx := hx.length
  have hpc := (pv_len (l2 : Int)).2
  have hpcl : (pc behind).length = (pv (l2 : Int)).length + l2 := by rw [pc, List.length_append, hL2]
  have b0 : (w.alloc (.cells #[.int .i64 num, .int .i64 kind, .int .u64 xn, .slice xa xl xc] 45)).cell? ⟨w.heap.size, 0, none⟩ = some (.int .i64 num) := by rw [World.cell?_alloc_at _ _ _ _ rfl]; rfl
  have b1 : (w.alloc (.cells #[.int .i64 num, .int .i64 kind, .int .u64 xn, .slice xa xl xc] 45)).cell? ⟨w.heap.size, 1, none⟩ = some (.int .i64 kind) := by rw [World.cell?_alloc_at _ _ _ _ rfl]; rfl
  have b2 : (w.alloc (.cells #[.int .i64 num, .int .i64 kind, .int .u64 xn, .slice xa xl xc] 45)).cell? ⟨w.heap.size, 2, none⟩ = some (.int .u64 xn) := by rw [World.cell?_alloc_at _ _ _ _ rfl]; rfl
  have b3 : (w.alloc (.cells #[.int .i64 num, .int .i64 kind, .int .u64 xn, .slice xa xl xc] 45)).cell? ⟨w.heap.size, 3, none⟩ = some (.slice xa xl xc) := by rw [World.cell?_alloc_at _ _ _ _ rfl]; rfl
  have hb : Below w.heap.size w (w.alloc (.cells #[.int .i64 num, .int .i64 kind, .int .u64 xn, .slice xa xl xc] 45)) := below_alloc _
  have hz : -9223372036854775808 ≤ wrap64 n ∧ wrap64 n ≤ 9223372036854775807 := by unfold wrap64; omega
  have hzb := zig_bd (wrap64 n) hz.1 hz.2
  have HZ := hid (zag_zig (wrap64 n))
  have HX := hid hx
  have HA := hid ha
  have HBH := hid hbh
  have HL1 := hid hL1
  have HL2 := hid hL2
  have HLX := hid hLx
  have HPC := hid hpcl
  clear hx ha hbh hL1 hL2 hLx hpcl
  go_enter Try.func8, Try.ntmps8
  go_wp2_with fail
  generalize w.alloc (.cells #[.int .i64 num, .int .i64 kind, .int .u64 xn, .slice xa xl xc] 45) = w0 at b0 b1 b2 b3 hb ⊢
  refine (awakeW _).mono ?_
  rintro e w1 ⟨rfl, hbL⟩
  have b0 := cell_kept b0 hbL
  have b1 := cell_kept b1 hbL
  have b2 := cell_kept b2 hbL
  have b3 := cell_kept b3 hbL
  have hb := below_trans hb hbL
  clear hbL
  go_wp2_with fail
  refine (putvWr n _ hn0 (by omega)).mono ?_
  rintro e w2 ⟨pa, pcap, rfl, hp, hbL⟩
  have b0 := cell_kept b0 hbL
  have b1 := cell_kept b1 hbL
  have b2 := cell_kept b2 hbL
  have b3 := cell_kept b3 hbL
  have hb := below_trans hb hbL
  clear hbL
  -- ahead, the varint, behind
  obtain ⟨v3, w3, r3, o3, g3⟩ := cat w2 _ 0 [] _ a1 l1 c1 ahead (own_empty w2) (below_alloc _) (reads_kept HA.out hb) (by omega)
  obtain ⟨v4, w4, r4, o4, g4⟩ := cat w2 v3 _ _ w3 pa _ pcap (pv n) o3 g3 hp (by omega)
  obtain ⟨v5, w5, r5, o5, g5⟩ := cat w2 v4 _ _ w4 a2 l2 c2 behind o4 g4 (reads_kept HBH.out hb) (by omega)
  have R3 := hid r3
  have R4 := hid r4
  have R5 := hid r5
  have HP := hid hp
  have O5 := hid o5
  have G5 := hid g5
  clear r3 r4 r5 o3 o4 o5 g3 g4 g5 hp
  go_wp2_with (first
    | (at_builtin; refine wpList_append_ran rfl (.tmp 23) (.tmp 24) 22 22 rfl rfl _ _ v3 w3 rfl rfl R3.out ?_)
    | (at_builtin; refine wpList_append_ran rfl (.tmp 25) (.tmp 26) 22 22 rfl rfl _ _ v4 w4 rfl rfl R4.out ?_)
    | (at_builtin; refine wpList_append_ran rfl (.tmp 27) (.tmp 28) 22 22 rfl rfl _ _ v5 w5 rfl rfl R5.out ?_)
    | fail)
  have hbL := G5.out
  clear R3 R4 R5 G5
  obtain ⟨ba, bc, rfl, hrb⟩ := own_reads O5.out (by
    intro x hx
    rcases List.mem_append.1 hx with h | h
    · rcases List.mem_append.1 h with h | h
      · rcases List.mem_append.1 h with h | h
        · cases h
        · exact bd_mem HA.out.bd x h
      · exact pv_bd hn0 (by omega) x h
    · exact bd_mem HBH.out.bd x h)
  have b0 := cell_kept b0 hbL
  have b1 := cell_kept b1 hbL
  have b2 := cell_kept b2 hbL
  have b3 := cell_kept b3 hbL
  have hb := below_trans hb hbL
  have hp := reads_kept HP.out hbL
  have hv := getvW ba _ bc l1 _ w5 hrb (by omega)
  rw [show [] ++ ahead ++ pv n ++ behind = ahead ++ (pv n ++ behind) by simp, ← HL1.out, gv_put ahead behind n hn0 (by omega), HL1.out] at hv
  have HV := hid hv
  have HP := hid hp
  clear hv hrb hbL O5 hp
  refine HV.out.mono ?_
  rintro e u ⟨rfl, rfl⟩
  go_wp2_with fail
  refine (sizeW n _ hn0 (by omega)).mono ?_
  rintro e u ⟨rfl, rfl⟩
  go_wp2_with fail
  refine (zigW _ _ hz.1 hz.2).mono ?_
  rintro e u ⟨rfl, rfl⟩
  go_wp2_with fail
  refine (zagW _ _ hzb.1 hzb.2).mono ?_
  rw [HZ.out]
  rintro e u ⟨rfl, rfl⟩
  go_wp2_with fail
  -- a chunk
  refine (putChunkW _ _ _ behind _ (reads_kept HBH.out hb) (by omega)).mono ?_
  rintro e w6 ⟨ca, ccap, rfl, hc, hbL⟩
  have b0 := cell_kept b0 hbL
  have b1 := cell_kept b1 hbL
  have b2 := cell_kept b2 hbL
  have b3 := cell_kept b3 hbL
  have hb := below_trans hb hbL
  clear hbL
  obtain ⟨v7, w7, r7, o7, g7⟩ := cat w6 _ 0 [] _ a1 l1 c1 ahead (own_empty w6) (below_alloc _) (reads_kept HA.out hb) (by omega)
  obtain ⟨v8, w8, r8, o8, g8⟩ := cat w6 v7 _ _ w7 ca _ ccap (pc behind) o7 g7 hc (by have := HPC.out; omega)
  have R7 := hid r7
  have R8 := hid r8
  have O8 := hid o8
  have G8 := hid g8
  clear r7 r8 o7 o8 g7 g8 hc
  go_wp2_with (first
    | (at_builtin; refine wpList_append_ran rfl (.tmp 72) (.tmp 73) 22 22 rfl rfl _ _ v7 w7 rfl rfl R7.out ?_)
    | (at_builtin; refine wpList_append_ran rfl (.tmp 74) (.tmp 75) 22 22 rfl rfl _ _ v8 w8 rfl rfl R8.out ?_)
    | fail)
  have hbL := G8.out
  clear R7 R8 G8
  obtain ⟨da, dc, rfl, hrd⟩ := own_reads O8.out (by
    intro x hx
    rcases List.mem_append.1 hx with h | h
    · rcases List.mem_append.1 h with h | h
      · cases h
      · exact bd_mem HA.out.bd x h
    · rcases List.mem_append.1 h with h | h
      · exact pv_bd (by omega) (by have := HL2.out; omega) x h
      · exact bd_mem HBH.out.bd x h)
  have b0 := cell_kept b0 hbL
  have b1 := cell_kept b1 hbL
  have b2 := cell_kept b2 hbL
  have b3 := cell_kept b3 hbL
  have hb := below_trans hb hbL
  have hv := getChunkWr da _ dc l1 _ w8 hrd (by omega) (by have := HPC.out; omega)
  rw [show [] ++ ahead ++ pc behind = ahead ++ (pc behind ++ []) by simp, ← HL1.out, gc_put ahead [] behind (by have := HL2.out; omega), HL1.out] at hv
  have HV := hid hv
  clear hv hrd hbL O8
  refine HV.out.mono ?_
  rintro e w9 ⟨ea, ec, rfl, he, hbL⟩
  have b0 := cell_kept b0 hbL
  have b1 := cell_kept b1 hbL
  have b2 := cell_kept b2 hbL
  have b3 := cell_kept b3 hbL
  have hb := below_trans hb hbL
  clear hbL
  go_wp2_with fail
  refine (sameYes _ _ _ _ _ _ _ _ he (reads_kept HBH.out hb)).mono ?_
  rintro e u ⟨rfl, rfl⟩
  clear he
  go_wp2_with fail
  have hxl : xl ≤ 9223372036854775807 := by omega
  by_cases hE : ef num kind xn xl = 0
  · have HE := hid hE
    have hpe := pe_len (num := num) (kind := kind) (n := xn) (ys := ys)
    have hpe' : (pe num kind xn ys).length ≤ 20 + xl := by have := HLX.out; omega
    clear hE hpe
    refine (putEntryYes _ _ _ _ _ _ ys _ (reads_kept HX.out hb) HE.out hx0 (by omega) (by omega)).mono ?_
    rintro e w10 ⟨qv, rfl, ho, hbL⟩
    obtain ⟨qa, qc, rfl, hq⟩ := own_reads ho (pe_bd (ef_ok HE.out).1 hx0 (by omega) (bd_mem HX.out.bd) (by have := HLX.out; omega))
    have b0 := cell_kept b0 hbL
    have b1 := cell_kept b1 hbL
    have b2 := cell_kept b2 hbL
    have b3 := cell_kept b3 hbL
    have hb := below_trans hb hbL
    clear hbL ho
    obtain ⟨v3, w3, r3, o3, g3⟩ := cat w10 _ 0 [] _ a1 l1 c1 ahead (own_empty w10) (below_alloc _) (reads_kept HA.out hb) (by omega)
    obtain ⟨v4, w4, r4, o4, g4⟩ := cat w10 v3 _ _ w3 qa _ qc (pe num kind xn ys) o3 g3 hq (by omega)
    obtain ⟨v5, w5, r5, o5, g5⟩ := cat w10 v4 _ _ w4 a2 l2 c2 behind o4 g4 (reads_kept HBH.out hb) (by omega)
    have R3 := hid r3
    have R4 := hid r4
    have R5 := hid r5
    have O5 := hid o5
    have G5 := hid g5
    clear r3 r4 r5 o3 o4 o5 g3 g4 g5 hq
    go_wp2_with (first
      | (at_builtin; refine wpList_append_ran rfl (.tmp 109) (.tmp 110) 22 22 rfl rfl _ _ v3 w3 rfl rfl R3.out ?_)
      | (at_builtin; refine wpList_append_ran rfl (.tmp 111) (.tmp 112) 22 22 rfl rfl _ _ v4 w4 rfl rfl R4.out ?_)
      | (at_builtin; refine wpList_append_ran rfl (.tmp 113) (.tmp 114) 22 22 rfl rfl _ _ v5 w5 rfl rfl R5.out ?_)
      | fail)
    have hbL := G5.out
    clear R3 R4 R5 G5
    obtain ⟨ba, bc, rfl, hrb⟩ := own_reads O5.out (by
      intro x hx
      rcases List.mem_append.1 hx with h | h
      · rcases List.mem_append.1 h with h | h
        · rcases List.mem_append.1 h with h | h
          · cases h
          · exact bd_mem HA.out.bd x h
        · exact pe_bd (ef_ok HE.out).1 hx0 (by omega) (bd_mem HX.out.bd) (by have := HLX.out; omega) x h
      · exact bd_mem HBH.out.bd x h)
    have b0 := cell_kept b0 hbL
    have b1 := cell_kept b1 hbL
    have b2 := cell_kept b2 hbL
    have b3 := cell_kept b3 hbL
    have hb := below_trans hb hbL
    have hv := getEntryW ba _ bc l1 _ w5 hrb (by omega) (by omega)
    rw [show [] ++ ahead ++ pe num kind xn ys ++ behind = ahead ++ (pe num kind xn ys ++ behind) by simp, ← HL1.out, ge_put ahead behind num kind xn ys (by rw [HLX.out]; exact HE.out) hx0 (by omega) (by have := HLX.out; omega), HL1.out] at hv
    dsimp only at hv
    have HV := hid hv
    clear hv hrb hbL O5
    refine HV.out.mono ?_
    rintro e w6 ⟨yv, rfl, ho, hbL⟩
    obtain ⟨ya, yc, rfl, hy⟩ := own_reads ho (bd_mem HX.out.bd)
    have b0 := cell_kept b0 hbL
    have b1 := cell_kept b1 hbL
    have b2 := cell_kept b2 hbL
    have b3 := cell_kept b3 hbL
    have hb := below_trans hb hbL
    clear hbL ho
    have hbL : Below w6.heap.size w6 (w6.alloc (.cells #[.int .i64 num, .int .i64 kind, .int .u64 xn, .slice ya ys.length yc] 45)) := below_alloc _
    have hy := reads_kept hy hbL
    have hb2 := below_trans hb hbL
    have hx2 := reads_kept HX.out hb2
    have b0 := cell_kept b0 hbL
    have b1 := cell_kept b1 hbL
    have b2 := cell_kept b2 hbL
    have b3 := cell_kept b3 hbL
    have HS := hid (sameEntW num kind xn ys xa ya xl xc ys.length yc _ hx2 hy)
    clear hbL hy hx2
    go_wp2_with fail
    refine HS.out.mono ?_
    rintro e w7 ⟨rfl, hbL⟩
    go_wp2
    go_ret
    exact ⟨by simp, below_trans hb2 hbL⟩
  · have hne : (ef num kind xn xl != 0) = true := by simp [hE]
    have HE := hid hE
    clear hE
    refine (putEntryNo _ _ _ _ _ _ _ hxl HE.out).mono ?_
    rintro e w10 ⟨rfl, hbL⟩
    have hb := below_trans hb hbL
    clear hbL
    go_wp2
    go_ret
    exact ⟨rfl, hb⟩
end Go.Proofs.Ytaedbgdjjnkloaa
