/-
  The reader of the program parse: fields.
  The reader of the program parse: fields.
  The reader of the program parse: a map's field.
  The reader of the program parse: a map's field.
  The reader of the program parse: a map's field.
  A declaration that the program builds, in a block of its own.
-/
import Derived.Test.YtidimdbnnnpplaaGreatDoorCPKb
import Derived.Deep.CutRange
import Derived.Deep.RegionHeld2
namespace Go.Proofs.YtidimdbnnnpplaaGreatDoor
open Go.RowKit
set_option maxRecDepth 1000000
set_option linter.unusedVariables false
set_option linter.unusedSimpArgs false
set_option maxHeartbeats 8000000
section
variable (w0 : World) (b off cap : Nat) (ms : List Mw) (p : Nat) (w : World) (i : Nat)
theorem oneW (n : Int) (hml : ms.length ≤ 70000) (h : PR w0 b off cap ms p w i) : Calls Tryz.prog 141 #[.pointer (some ⟨p, 0, none⟩), .int .i64 n] w fun e w' => Keep (· ≠ p) w w' ∧ ((∃ j g, Hid ((oneM n (stA ms i)).2 = stA ms j) ∧ Hid (g = (oneM n (stA ms i)).1) ∧ e = .returned (.agg #[.string (strOfNums g.name), .string (strOfNums g.ty), .string (strOfNums g.key), .int .u64 g.num, .int .i64 g.label, .int .i64 g.packed, .int .i64 g.oneof, .int .i64 g.at1.1, .int .i64 g.at1.2, .int .i64 g.nat1.1, .int .i64 g.nat1.2, .int .i64 g.tat.1, .int .i64 g.tat.2, .int .i64 g.mat.1, .int .i64 g.mat.2]) ∧ Hid (PR w0 b off cap ms p w' j)) ∨ Fell (oneM n (stA ms i)).2 e) := by
  have HML := hid hml
  clear hml
  rw [fA_one]
  dsimp only
  have hk0 : Hid (Keep (· ≠ p) w w) := hid (Keep.refl _ _)
  have hpl : p < w.heap.size := h.blk.lt
  have HR0 := hid h
  clear h
  go_enter Tryz.func141, Tryz.ntmps141
  go_wp2_with fail
  refine (typedW w0 b off cap ms p _ i (fZ 4 n [] (0, 0)) HML.out (by have := HR0.out; exact prBy)).mono ?_
  rintro e w1 ⟨hK1, (⟨j1, g1, he1, hg1, rfl, HR1⟩ | ⟨hcd, rfl⟩)⟩
  case inr =>
    have hk1 : Hid (Keep (· ≠ p) w w1) := hid (Keep.trans (by have := hk0.out; exact kpBy) hK1)
    clear hK1
    go_wp2
    exact ⟨rfl, by have := hk1.out; exact kpBy, .inr (by rw [show eatM (fA (fZ 4 n [] (0, 0)) (stA ms i)).2 [59] = (typM (stA ms i)).2.2 by unfold fA; simp only [nam_bad hcd, eat_bad hcd]]; exact ⟨hcd, rfl⟩)⟩
  have Br : Blk w1 (w.heap.size) 143 #[.string ⟨#[]⟩, .string ⟨#[]⟩, .string ⟨#[]⟩, .int .u64 0, .int .i64 0, .int .i64 0, .int .i64 0, .int .i64 0, .int .i64 0, .int .i64 0, .int .i64 0, .int .i64 0, .int .i64 0, .int .i64 0, .int .i64 0] := Blk.keep ((Blk.newAt (by simp)).is (by first | rfl | simp)) hK1 (show w.heap.size ≠ p by omega)
  have hs1 := hK1.size
  try simp at hs1
  have xr := Br.cellF
  have yr := Br.frz
  have zr : w.heap.size < w1.heap.size := by omega
  have hp1 : p < w1.heap.size := by omega
  have hq1 : w.heap.size ≤ w1.heap.size := by omega
  have hk1 : Hid (Keep (· ≠ p) w w1) := hid (Keep.trans (by have := hk0.out; exact kpBy) hK1)
  clear hK1
  go_wp2_with fail
  refine (namedW w0 b off cap ms p _ j1 g1 (by have := HR1.out; exact prBy)).mono ?_
  rintro e w2 ⟨hK2, (⟨j2, g2, he2, hg2, rfl, ho2, HR2⟩ | ⟨hcd, rfl⟩)⟩
  case inr =>
    have hk2 : Hid (Keep (· ≠ p) w w2) := hid (Keep.trans (by have := hk1.out; exact kpBy) hK2)
    clear hK2
    go_wp2
    exact ⟨rfl, by have := hk2.out; exact kpBy, .inr (by rw [show eatM (fA (fZ 4 n [] (0, 0)) (stA ms i)).2 [59] = (namM (stA ms j1)).2.2 by unfold fA; rw [he1.out]; simp only [eat_bad hcd]]; exact ⟨hcd, rfl⟩)⟩
  replace Br : Blk w2 (w.heap.size) 143 #[.string ⟨#[]⟩, .string ⟨#[]⟩, .string ⟨#[]⟩, .int .u64 0, .int .i64 0, .int .i64 0, .int .i64 0, .int .i64 0, .int .i64 0, .int .i64 0, .int .i64 0, .int .i64 0, .int .i64 0, .int .i64 0, .int .i64 0] := Blk.keep ((Br.kept (below_alloc _)).is (by first | rfl | simp)) hK2 (show w.heap.size ≠ p by omega)
  have Bf : Blk w2 (w1.heap.size) 143 #[.string (strOfNums g1.name), .string (strOfNums g1.ty), .string (strOfNums g1.key), .int .u64 g1.num, .int .i64 g1.label, .int .i64 g1.packed, .int .i64 g1.oneof, .int .i64 g1.at1.1, .int .i64 g1.at1.2, .int .i64 g1.nat1.1, .int .i64 g1.nat1.2, .int .i64 g1.tat.1, .int .i64 g1.tat.2, .int .i64 g1.mat.1, .int .i64 g1.mat.2] := Blk.keep ((Blk.newAt (by simp)).is (by first | rfl | simp)) hK2 (show w1.heap.size ≠ p by omega)
  clear xr yr
  have hs2 := hK2.size
  try simp at hs2
  have xr := Br.cellF
  have yr := Br.frz
  replace zr : w.heap.size < w2.heap.size := by omega
  have xf := Bf.cellF
  have yf := Bf.frz
  have zf : w1.heap.size < w2.heap.size := by omega
  have hp2 : p < w2.heap.size := by omega
  have hq2 : w.heap.size ≤ w2.heap.size := by omega
  have hk2 : Hid (Keep (· ≠ p) w w2) := hid (Keep.trans (by have := hk1.out; exact kpBy) hK2)
  clear hK2
  have HFA : Hid (fA (fZ 4 n [] (0, 0)) (stA ms i) = (g2, stA ms j2)) := hid (by unfold fA; rw [he1.out, he2.out, hg2.out, hg1.out])
  go_wp2_with fail
  refine (skipW w0 b off cap ms p _ j2 ⟨#[59]⟩ [59] rfl plain_sc (by have := HR2.out; exact prBy)).mono ?_
  rintro e w3 ⟨hK3, (⟨j5, ua, uc, he5, rfl, HR3⟩ | ⟨hcd, rfl⟩)⟩
  case inr =>
    have hk3 : Hid (Keep (· ≠ p) w w3) := hid (Keep.trans (by have := hk2.out; exact kpBy) hK3)
    clear hK3
    go_wp2
    exact ⟨rfl, by have := hk3.out; exact kpBy, .inr (by rw [HFA.out]; exact ⟨hcd, rfl⟩)⟩
  replace Br : Blk w3 (w.heap.size) 143 #[.string ⟨#[]⟩, .string ⟨#[]⟩, .string ⟨#[]⟩, .int .u64 0, .int .i64 0, .int .i64 0, .int .i64 0, .int .i64 0, .int .i64 0, .int .i64 0, .int .i64 0, .int .i64 0, .int .i64 0, .int .i64 0, .int .i64 0] := Blk.keep ((blkoth15 Br (show w.heap.size ≠ w1.heap.size by omega)).is (by first | rfl | simp)) hK3 (show w.heap.size ≠ p by omega)
  replace Bf : Blk w3 (w1.heap.size) 143 #[.string (strOfNums g2.name), .string (strOfNums g2.ty), .string (strOfNums g2.key), .int .u64 g2.num, .int .i64 g2.label, .int .i64 g2.packed, .int .i64 g2.oneof, .int .i64 g2.at1.1, .int .i64 g2.at1.2, .int .i64 g2.nat1.1, .int .i64 g2.nat1.2, .int .i64 g2.tat.1, .int .i64 g2.tat.2, .int .i64 g2.mat.1, .int .i64 g2.mat.2] := Blk.keep ((blkall15 Bf).is (by first | rfl | simp)) hK3 (show w1.heap.size ≠ p by omega)
  clear xr yr xf yf
  have hs3 := hK3.size
  try simp at hs3
  have xr := Br.cellF
  have yr := Br.frz
  replace zr : w.heap.size < w3.heap.size := by omega
  have xf := Bf.cellF
  have yf := Bf.frz
  replace zf : w1.heap.size < w3.heap.size := by omega
  have hp3 : p < w3.heap.size := by omega
  have hq3 : w.heap.size ≤ w3.heap.size := by omega
  have hk3 : Hid (Keep (· ≠ p) w w3) := hid (Keep.trans (by have := hk2.out; exact kpBy) hK3)
  clear hK3
  go_wp2
  exact bodyPost_ret (v := .agg #[.string (strOfNums g2.name), .string (strOfNums g2.ty), .string (strOfNums g2.key), .int .u64 g2.num, .int .i64 g2.label, .int .i64 g2.packed, .int .i64 g2.oneof, .int .i64 g2.at1.1, .int .i64 g2.at1.2, .int .i64 g2.nat1.1, .int .i64 g2.nat1.2, .int .i64 g2.tat.1, .int .i64 g2.tat.2, .int .i64 g2.mat.1, .int .i64 g2.mat.2]) (by simp [results, Tryz.results141, go_sem, xf, zf, xr, zr]) rfl ⟨by have := hk3.out; exact kpBy, .inl ⟨j5, g2, hid (by rw [HFA.out]; exact he5.out), hid (by rw [HFA.out]), rfl, hid (by have := HR3.out; exact prBy)⟩⟩
end
section
variable (w0 : World) (b off cap : Nat) (ms : List Mw) (p : Nat) (w : World) (i : Nat)
theorem markedW (X : ByteArray) (x : List Int) (hX : X = strOfNums x) (hx : plainW x) (label : Int) (hi : isM (stA ms i) x = true) (hml : ms.length ≤ 70000) (h : PR w0 b off cap ms p w i) : Calls Tryz.prog 120 #[.pointer (some ⟨p, 0, none⟩), .string X, .int .i64 label] w fun e w' => Keep (· ≠ p) w w' ∧ ((∃ j g, Hid ((fB (fZ label 0 [] (atM (hdM (stA ms i)))) (nxM (stA ms i))).2 = stA ms j) ∧ Hid (g = (fB (fZ label 0 [] (atM (hdM (stA ms i)))) (nxM (stA ms i))).1) ∧ e = .returned (.agg #[.string (strOfNums g.name), .string (strOfNums g.ty), .string (strOfNums g.key), .int .u64 g.num, .int .i64 g.label, .int .i64 g.packed, .int .i64 g.oneof, .int .i64 g.at1.1, .int .i64 g.at1.2, .int .i64 g.nat1.1, .int .i64 g.nat1.2, .int .i64 g.tat.1, .int .i64 g.tat.2, .int .i64 g.mat.1, .int .i64 g.mat.2]) ∧ Hid (PR w0 b off cap ms p w' j)) ∨ Fell (fB (fZ label 0 [] (atM (hdM (stA ms i)))) (nxM (stA ms i))).2 e) := by
  have HML := hid hml
  have HE : Hid (eatM (stA ms i) x = nxM (stA ms i)) := hid (by unfold eatM; rw [if_pos (show (stA ms i).cd = 0 from rfl), if_pos hi])
  have HSK := hid (fun W g => skipW w0 b off cap ms p W i X x hX hx g)
  clear hml hX hx hi
  have hk0 : Hid (Keep (· ≠ p) w w) := hid (Keep.refl _ _)
  have hpl : p < w.heap.size := h.blk.lt
  have HR0 := hid h
  clear h
  go_enter Tryz.func120, Tryz.ntmps120
  go_wp2_with fail
  refine (HSK.out _ (by have := HR0.out; exact prBy)).mono ?_
  rintro e w1 ⟨hK1, (⟨j1, ua, uc, he1, rfl, HR1⟩ | ⟨hcd, rfl⟩)⟩
  case inr =>
    have hk1 : Hid (Keep (· ≠ p) w w1) := hid (Keep.trans (by have := hk0.out; exact kpBy) hK1)
    clear hK1
    go_wp2
    exact ⟨rfl, by have := hk1.out; exact kpBy, .inr (by rw [HE.out] at hcd; exact absurd rfl hcd)⟩
  have Br : Blk w1 (w.heap.size) 143 #[.string ⟨#[]⟩, .string ⟨#[]⟩, .string ⟨#[]⟩, .int .u64 0, .int .i64 0, .int .i64 0, .int .i64 0, .int .i64 0, .int .i64 0, .int .i64 0, .int .i64 0, .int .i64 0, .int .i64 0, .int .i64 0, .int .i64 0] := Blk.keep ((Blk.newAt (by simp)).is (by first | rfl | simp)) hK1 (show w.heap.size ≠ p by omega)
  have hs1 := hK1.size
  try simp at hs1
  have xr := Br.cellF
  have yr := Br.frz
  have zr : w.heap.size < w1.heap.size := by omega
  have hp1 : p < w1.heap.size := by omega
  have hq1 : w.heap.size ≤ w1.heap.size := by omega
  have hk1 : Hid (Keep (· ≠ p) w w1) := hid (Keep.trans (by have := hk0.out; exact kpBy) hK1)
  clear hK1
  have HN : Hid (nxM (stA ms i) = stA ms j1) := hid (by rw [← HE.out]; exact he1.out)
  go_wp2_with fail
  refine (placeOfW _ (hdM (stA ms i)) ua uc).mono ?_
  rintro e w2 ⟨rfl, hb2⟩
  have hK2 := Keep.ofBelow (f := (· ≠ p)) hb2
  have HR2 : Hid (PR w0 b off cap ms p w2 (j1)) := hid (PR.kept (by have := HR1.out; exact prBy) hb2)
  clear hb2
  replace Br : Blk w2 (w.heap.size) 143 #[.string ⟨#[]⟩, .string ⟨#[]⟩, .string ⟨#[]⟩, .int .u64 0, .int .i64 0, .int .i64 0, .int .i64 0, .int .i64 0, .int .i64 0, .int .i64 0, .int .i64 0, .int .i64 0, .int .i64 0, .int .i64 0, .int .i64 0] := Blk.keep ((Br.kept (below_alloc _)).is (by first | rfl | simp)) hK2 (show w.heap.size ≠ p by omega)
  have Bm : Blk w2 (w1.heap.size) 159 #[.int .i64 (hdM (stA ms i)).kind, .string (strOfNums (hdM (stA ms i)).s), .int .u64 (hdM (stA ms i)).n, .slice ua (hdM (stA ms i)).b.length uc, .int .i64 (hdM (stA ms i)).line, .int .i64 (hdM (stA ms i)).col] := Blk.keep ((Blk.newAt (by simp)).is (by first | rfl | simp)) hK2 (show w1.heap.size ≠ p by omega)
  clear xr yr
  have hs2 := hK2.size
  try simp at hs2
  have xr := Br.cellF
  have yr := Br.frz
  replace zr : w.heap.size < w2.heap.size := by omega
  have xm := Bm.cellF
  have ym := Bm.frz
  have zm : w1.heap.size < w2.heap.size := by omega
  have hp2 : p < w2.heap.size := by omega
  have hq2 : w.heap.size ≤ w2.heap.size := by omega
  have hk2 : Hid (Keep (· ≠ p) w w2) := hid (Keep.trans (by have := hk1.out; exact kpBy) hK2)
  clear hK2
  go_wp2_with fail
  refine (fieldW w0 b off cap ms p _ j1 (fZ label 0 [] (atM (hdM (stA ms i)))) HML.out (by have := HR2.out; exact prBy)).mono ?_
  rintro e w3 ⟨hK3, (⟨j3, g3, he3, hg3, rfl, HR3⟩ | ⟨hcd, rfl⟩)⟩
  case inr =>
    have hk3 : Hid (Keep (· ≠ p) w w3) := hid (Keep.trans (by have := hk2.out; exact kpBy) hK3)
    clear hK3
    go_wp2
    exact ⟨rfl, by have := hk3.out; exact kpBy, .inr (by rw [HN.out]; exact ⟨hcd, rfl⟩)⟩
  replace Br : Blk w3 (w.heap.size) 143 #[.string ⟨#[]⟩, .string ⟨#[]⟩, .string ⟨#[]⟩, .int .u64 0, .int .i64 0, .int .i64 0, .int .i64 0, .int .i64 0, .int .i64 0, .int .i64 0, .int .i64 0, .int .i64 0, .int .i64 0, .int .i64 0, .int .i64 0] := Blk.keep (Br.is (by first | rfl | simp)) hK3 (show w.heap.size ≠ p by omega)
  replace Bm : Blk w3 (w1.heap.size) 159 #[.int .i64 (hdM (stA ms i)).kind, .string (strOfNums (hdM (stA ms i)).s), .int .u64 (hdM (stA ms i)).n, .slice ua (hdM (stA ms i)).b.length uc, .int .i64 (hdM (stA ms i)).line, .int .i64 (hdM (stA ms i)).col] := Blk.keep (Bm.is (by first | rfl | simp)) hK3 (show w1.heap.size ≠ p by omega)
  clear xr yr xm ym
  have hs3 := hK3.size
  try simp at hs3
  have xr := Br.cellF
  have yr := Br.frz
  replace zr : w.heap.size < w3.heap.size := by omega
  have xm := Bm.cellF
  have ym := Bm.frz
  replace zm : w1.heap.size < w3.heap.size := by omega
  have hp3 : p < w3.heap.size := by omega
  have hq3 : w.heap.size ≤ w3.heap.size := by omega
  have hk3 : Hid (Keep (· ≠ p) w w3) := hid (Keep.trans (by have := hk2.out; exact kpBy) hK3)
  clear hK3
  go_wp2
  exact bodyPost_ret (v := .agg #[.string (strOfNums g3.name), .string (strOfNums g3.ty), .string (strOfNums g3.key), .int .u64 g3.num, .int .i64 g3.label, .int .i64 g3.packed, .int .i64 g3.oneof, .int .i64 g3.at1.1, .int .i64 g3.at1.2, .int .i64 g3.nat1.1, .int .i64 g3.nat1.2, .int .i64 g3.tat.1, .int .i64 g3.tat.2, .int .i64 g3.mat.1, .int .i64 g3.mat.2]) (by simp [results, Tryz.results120, go_sem, xr, zr]) rfl ⟨by have := hk3.out; exact kpBy, .inl ⟨j3, g3, hid (by rw [HN.out]; exact he3.out), hid (by rw [HN.out]; exact hg3.out), rfl, hid (by have := HR3.out; exact prBy)⟩⟩
end
section
variable (w0 : World) (b off cap : Nat) (ms : List Mw) (p : Nat) (w : World) (i : Nat)
theorem mapped_ok (hT : (prB (stA ms i)).2.2.cd = 0) (hml : ms.length ≤ 70000) (h : PR w0 b off cap ms p w i) : Calls Tryz.prog 121 #[.pointer (some ⟨p, 0, none⟩)] w fun e w' => Keep (· ≠ p) w w' ∧ ((∃ j g, Hid ((prsM (stA ms i)).2 = stA ms j) ∧ Hid (g = (prsM (stA ms i)).1) ∧ e = .returned (.agg #[.string (strOfNums g.name), .string (strOfNums g.ty), .string (strOfNums g.key), .int .u64 g.num, .int .i64 g.label, .int .i64 g.packed, .int .i64 g.oneof, .int .i64 g.at1.1, .int .i64 g.at1.2, .int .i64 g.nat1.1, .int .i64 g.nat1.2, .int .i64 g.tat.1, .int .i64 g.tat.2, .int .i64 g.mat.1, .int .i64 g.mat.2]) ∧ Hid (PR w0 b off cap ms p w' j)) ∨ Fell (prsM (stA ms i)).2 e) := by
  have HML := hid hml
  have HX := hid (prs_is (stA ms i))
  have HT := hid hT
  clear hT
  clear hml
  have hk0 : Hid (Keep (· ≠ p) w w) := hid (Keep.refl _ _)
  have hpl : p < w.heap.size := h.blk.lt
  have HR0 := hid h
  clear h
  go_enter Tryz.func121, Tryz.ntmps121
  go_wp2_with fail
  refine (skipW w0 b off cap ms p _ i ⟨#[109, 97, 112]⟩ wMap rfl plain_map (by have := HR0.out; exact prBy)).mono ?_
  rintro e w1 ⟨hK1, (⟨j1, ua, uc, he1, rfl, HR1⟩ | ⟨hcd, rfl⟩)⟩
  case inr =>
    have hk1 : Hid (Keep (· ≠ p) w w1) := hid (Keep.trans (by have := hk0.out; exact kpBy) hK1)
    clear hK1
    go_wp2
    exact ⟨rfl, by have := hk1.out; exact kpBy, .inr (by rw [show (prsM (stA ms i)).2 = eatM (stA ms i) wMap by unfold prsM prC prB prA; simp only [eat_bad hcd, take_bad hcd, typ_bad hcd, nam_bad hcd]]; exact ⟨hcd, rfl⟩)⟩
  have Br : Blk w1 (w.heap.size) 143 #[.string ⟨#[]⟩, .string ⟨#[]⟩, .string ⟨#[]⟩, .int .u64 0, .int .i64 0, .int .i64 0, .int .i64 0, .int .i64 0, .int .i64 0, .int .i64 0, .int .i64 0, .int .i64 0, .int .i64 0, .int .i64 0, .int .i64 0] := Blk.keep ((Blk.newAt (by simp)).is (by first | rfl | simp)) hK1 (show w.heap.size ≠ p by omega)
  have hs1 := hK1.size
  try simp at hs1
  have xr := Br.cellF
  have yr := Br.frz
  have zr : w.heap.size < w1.heap.size := by omega
  have hp1 : p < w1.heap.size := by omega
  have hq1 : w.heap.size ≤ w1.heap.size := by omega
  have hk1 : Hid (Keep (· ≠ p) w w1) := hid (Keep.trans (by have := hk0.out; exact kpBy) hK1)
  clear hK1
  go_wp2_with fail
  refine (skipW w0 b off cap ms p _ j1 ⟨#[60]⟩ [60] rfl plain_lt (by have := HR1.out; exact prBy)).mono ?_
  rintro e w2 ⟨hK2, (⟨j2, ua2, uc2, he2, rfl, HR2⟩ | ⟨hcd, rfl⟩)⟩
  case inr =>
    have hk2 : Hid (Keep (· ≠ p) w w2) := hid (Keep.trans (by have := hk1.out; exact kpBy) hK2)
    clear hK2
    go_wp2
    exact ⟨rfl, by have := hk2.out; exact kpBy, .inr (by rw [show (prsM (stA ms i)).2 = eatM (stA ms j1) [60] by unfold prsM prC prB prA; rw [he1.out]; simp only [eat_bad hcd, take_bad hcd, typ_bad hcd, nam_bad hcd]]; exact ⟨hcd, rfl⟩)⟩
  replace Br : Blk w2 (w.heap.size) 143 #[.string ⟨#[]⟩, .string ⟨#[]⟩, .string ⟨#[]⟩, .int .u64 0, .int .i64 0, .int .i64 0, .int .i64 0, .int .i64 0, .int .i64 0, .int .i64 0, .int .i64 0, .int .i64 0, .int .i64 0, .int .i64 0, .int .i64 0] := Blk.keep (Br.is (by first | rfl | simp)) hK2 (show w.heap.size ≠ p by omega)
  clear xr yr
  have hs2 := hK2.size
  try simp at hs2
  have xr := Br.cellF
  have yr := Br.frz
  replace zr : w.heap.size < w2.heap.size := by omega
  have hp2 : p < w2.heap.size := by omega
  have hq2 : w.heap.size ≤ w2.heap.size := by omega
  have hk2 : Hid (Keep (· ≠ p) w w2) := hid (Keep.trans (by have := hk1.out; exact kpBy) hK2)
  clear hK2
  go_wp2_with fail
  refine (takeW w0 b off cap ms p _ j2 1 (by decide) (by have := HR2.out; exact prBy)).mono ?_
  rintro e w3 ⟨hK3, (⟨j3, m1, sa, sc, he3, hm1, rfl, hr1, ho1, HR3⟩ | ⟨hcd, rfl⟩)⟩
  case inr =>
    have hk3 : Hid (Keep (· ≠ p) w w3) := hid (Keep.trans (by have := hk2.out; exact kpBy) hK3)
    clear hK3
    go_wp2
    exact ⟨rfl, by have := hk3.out; exact kpBy, .inr (by rw [show (prsM (stA ms i)).2 = (takeM (stA ms j2) 1).2 by unfold prsM prC prB prA; rw [he1.out, he2.out]; simp only [eat_bad hcd, take_bad hcd, typ_bad hcd, nam_bad hcd]]; exact ⟨hcd, rfl⟩)⟩
  replace Br : Blk w3 (w.heap.size) 143 #[.string ⟨#[]⟩, .string ⟨#[]⟩, .string ⟨#[]⟩, .int .u64 0, .int .i64 0, .int .i64 0, .int .i64 0, .int .i64 0, .int .i64 0, .int .i64 0, .int .i64 0, .int .i64 0, .int .i64 0, .int .i64 0, .int .i64 0] := Blk.keep (Br.is (by first | rfl | simp)) hK3 (show w.heap.size ≠ p by omega)
  clear xr yr
  have hs3 := hK3.size
  try simp at hs3
  have xr := Br.cellF
  have yr := Br.frz
  replace zr : w.heap.size < w3.heap.size := by omega
  have hp3 : p < w3.heap.size := by omega
  have hq3 : w.heap.size ≤ w3.heap.size := by omega
  have hk3 : Hid (Keep (· ≠ p) w w3) := hid (Keep.trans (by have := hk2.out; exact kpBy) hK3)
  clear hK3
  have HPA : Hid (prA (stA ms i) = (m1, stA ms j3)) := hid (by unfold prA; rw [he1.out, he2.out, hm1.out, ← he3.out])
  go_wp2_with fail
  refine (skipW w0 b off cap ms p _ j3 ⟨#[44]⟩ [44] rfl plain_comma (by have := HR3.out; exact prBy)).mono ?_
  rintro e w4 ⟨hK4, (⟨j4, ua4, uc4, he4, rfl, HR4⟩ | ⟨hcd, rfl⟩)⟩
  case inr =>
    have hk4 : Hid (Keep (· ≠ p) w w4) := hid (Keep.trans (by have := hk3.out; exact kpBy) hK4)
    clear hK4
    go_wp2
    exact ⟨rfl, by have := hk4.out; exact kpBy, .inr (by rw [show (prsM (stA ms i)).2 = eatM (stA ms j3) [44] by unfold prsM prC prB; rw [HPA.out]; simp only [eat_bad hcd, typ_bad hcd, nam_bad hcd]]; exact ⟨hcd, rfl⟩)⟩
  replace Br : Blk w4 (w.heap.size) 143 #[.string ⟨#[]⟩, .string ⟨#[]⟩, .string ⟨#[]⟩, .int .u64 0, .int .i64 0, .int .i64 0, .int .i64 0, .int .i64 0, .int .i64 0, .int .i64 0, .int .i64 0, .int .i64 0, .int .i64 0, .int .i64 0, .int .i64 0] := Blk.keep ((Br.kept (below_alloc _)).is (by first | rfl | simp)) hK4 (show w.heap.size ≠ p by omega)
  have Bm : Blk w4 (w3.heap.size) 159 #[.int .i64 m1.kind, .string (strOfNums m1.s), .int .u64 m1.n, .slice sa m1.b.length sc, .int .i64 m1.line, .int .i64 m1.col] := Blk.keep ((Blk.newAt (by simp)).is (by first | rfl | simp)) hK4 (show w3.heap.size ≠ p by omega)
  clear xr yr
  have hs4 := hK4.size
  try simp at hs4
  have xr := Br.cellF
  have yr := Br.frz
  replace zr : w.heap.size < w4.heap.size := by omega
  have xm := Bm.cellF
  have ym := Bm.frz
  have zm : w3.heap.size < w4.heap.size := by omega
  have hp4 : p < w4.heap.size := by omega
  have hq4 : w.heap.size ≤ w4.heap.size := by omega
  have hk4 : Hid (Keep (· ≠ p) w w4) := hid (Keep.trans (by have := hk3.out; exact kpBy) hK4)
  clear hK4
  go_upto_region 5 with fail
  go_cut [4] from 13 to 19 (fun s4 wc => ∃ Q j6 g6, s4 = .pointer (some ⟨Q, 0, none⟩) ∧ Hid ((typM (stA ms j4)).2.2 = stA ms j6) ∧ Hid (g6 = { (fZ 5 0 m1.s (atM m1)) with ty := (typM (stA ms j4)).1, tat := (typM (stA ms j4)).2.1 }) ∧ Hid (PR w0 b off cap ms p wc j6) ∧ Hid (Keep (· ≠ p) w wc) ∧ Hid (w.heap.size < Q ∧ Q < wc.heap.size) ∧ Hid (Blk wc Q 143 #[.string (strOfNums g6.name), .string (strOfNums g6.ty), .string (strOfNums g6.key), .int .u64 g6.num, .int .i64 g6.label, .int .i64 g6.packed, .int .i64 g6.oneof, .int .i64 g6.at1.1, .int .i64 g6.at1.2, .int .i64 g6.nat1.1, .int .i64 g6.nat1.2, .int .i64 g6.tat.1, .int .i64 g6.tat.2, .int .i64 g6.mat.1, .int .i64 g6.mat.2]) ∧ Hid (Blk wc (w.heap.size) 143 #[.string ⟨#[]⟩, .string ⟨#[]⟩, .string ⟨#[]⟩, .int .u64 0, .int .i64 0, .int .i64 0, .int .i64 0, .int .i64 0, .int .i64 0, .int .i64 0, .int .i64 0, .int .i64 0, .int .i64 0, .int .i64 0, .int .i64 0]))
  case first =>
    have HTc : Hid ((typM (stA ms j4)).2.2.cd = 0) := hid (by have := HT.out; unfold prB at this; rw [HPA.out] at this; simp only [] at this; rw [he4.out] at this; exact this)
    go_region_held3 (fun W => W.cell? ⟨w3.heap.size, 0, none⟩ = some (.int .i64 m1.kind) ∧ W.cell? ⟨w3.heap.size, 1, none⟩ = some (.string (strOfNums m1.s)) ∧ W.cell? ⟨w3.heap.size, 2, none⟩ = some (.int .u64 m1.n) ∧ W.cell? ⟨w3.heap.size, 3, none⟩ = some (.slice sa m1.b.length sc) ∧ W.cell? ⟨w3.heap.size, 4, none⟩ = some (.int .i64 m1.line) ∧ W.cell? ⟨w3.heap.size, 5, none⟩ = some (.int .i64 m1.col)) (first | with_reducible exact blkc6 (blkoth15 Ym.out (show w3.heap.size ≠ w4.heap.size by omega)) | with_reducible exact blkc6 (blkoth15 Ym.out (show w3.heap.size ≠ w5.heap.size by omega)) | with_reducible exact blkc6 (Ym.out.kept (below_alloc _)) | with_reducible exact blkc6 Ym.out | with_reducible exact blkc6 (Vm.out.kept (below_alloc _)) | with_reducible exact blkc6 Vm.out | with_reducible exact blkc6 ((Bm.kept (below_drew1 _)).kept (below_alloc _)) | with_reducible exact blkc6 ((Bm.kept (below_alloc _)).kept (below_drew1 _)) | with_reducible exact blkc6 (Bm.kept (below_drew1 _))) (first | (go_at_call 100; refine (placeOfW _ m1 sa sc).mono ?_; rintro e w5 ⟨rfl, hb5⟩; have Vr : Hid (Blk w5 w.heap.size 143 #[.string ⟨#[]⟩, .string ⟨#[]⟩, .string ⟨#[]⟩, .int .u64 0, .int .i64 0, .int .i64 0, .int .i64 0, .int .i64 0, .int .i64 0, .int .i64 0, .int .i64 0, .int .i64 0, .int .i64 0, .int .i64 0, .int .i64 0]) := hid (Blk.kept (by first | exact Br.kept (below_drew1 _) | exact (Br.kept (below_alloc _)).kept (below_drew1 _) | exact (Br.kept (below_drew1 _)).kept (below_alloc _)) hb5); have Vm : Hid (Blk w5 w3.heap.size 159 #[.int .i64 m1.kind, .string (strOfNums m1.s), .int .u64 m1.n, .slice sa m1.b.length sc, .int .i64 m1.line, .int .i64 m1.col]) := hid (Blk.kept (by first | exact Bm.kept (below_drew1 _) | exact (Bm.kept (below_alloc _)).kept (below_drew1 _) | exact (Bm.kept (below_drew1 _)).kept (below_alloc _)) hb5); have HR5 : Hid (PR w0 b off cap ms p w5 j4) := hid (PR.kept (by have := HR4.out; exact prBy) hb5); have hk5 : Hid (Keep (· ≠ p) w w5) := hid (Keep.trans (by have := hk4.out; exact kpBy) (Keep.ofBelow hb5)); (try have Vf : Hid (Blk w5 w4.heap.size 143 #[.string ⟨#[]⟩, .string ⟨#[]⟩, .string ⟨#[]⟩, .int .u64 0, .int .i64 0, .int .i64 0, .int .i64 0, .int .i64 0, .int .i64 0, .int .i64 0, .int .i64 0, .int .i64 0, .int .i64 0, .int .i64 0, .int .i64 0]) := hid (Blk.kept (by first | exact (Blk.newAt (w := w4) rfl).kept (below_drew1 _) | exact Blk.newAt (w := w4.drew) rfl) hb5)); have hs5 := hb5.size; (try simp at hs5); have vxm := Vm.out.cellF; have zm5 : w3.heap.size < w5.heap.size := (by omega); clear hb5) | (go_at_call 143; refine (typedW w0 b off cap ms p _ j4 (fZ 5 0 m1.s (atM m1)) HML.out (by have := HR5.out; exact prBy)).mono ?_; rintro e w6 ⟨hK6, (⟨j6, g6, he6, hg6, rfl, HR6⟩ | ⟨hcd, rfl⟩)⟩; rotate_left; (exact absurd HTc.out hcd); have Ym : Hid (Blk w6 w3.heap.size 159 #[.int .i64 m1.kind, .string (strOfNums m1.s), .int .u64 m1.n, .slice sa m1.b.length sc, .int .i64 m1.line, .int .i64 m1.col]) := hid (Blk.keep (by first | exact Vm.out | exact Vm.out.kept (below_alloc _)) hK6 (show w3.heap.size ≠ p by omega)); have Xr : Hid (Blk w6 w.heap.size 143 #[.string ⟨#[]⟩, .string ⟨#[]⟩, .string ⟨#[]⟩, .int .u64 0, .int .i64 0, .int .i64 0, .int .i64 0, .int .i64 0, .int .i64 0, .int .i64 0, .int .i64 0, .int .i64 0, .int .i64 0, .int .i64 0, .int .i64 0]) := hid (Blk.keep (by first | exact Vr.out | exact Vr.out.kept (below_alloc _)) hK6 (show w.heap.size ≠ p by omega)); (try have Xf : Hid (Blk w6 w4.heap.size 143 #[.string ⟨#[]⟩, .string ⟨#[]⟩, .string ⟨#[]⟩, .int .u64 0, .int .i64 0, .int .i64 0, .int .i64 0, .int .i64 0, .int .i64 0, .int .i64 0, .int .i64 0, .int .i64 0, .int .i64 0, .int .i64 0, .int .i64 0]) := hid (Blk.keep Vf.out hK6 (show w4.heap.size ≠ p by omega))); (try have Xg : Hid (Blk w6 w5.heap.size 143 #[.string ⟨#[]⟩, .string ⟨#[]⟩, .string ⟨#[]⟩, .int .u64 0, .int .i64 0, .int .i64 0, .int .i64 0, .int .i64 0, .int .i64 0, .int .i64 0, .int .i64 0, .int .i64 0, .int .i64 0, .int .i64 0, .int .i64 0]) := hid (Blk.keep (Blk.newAt (w := w5) rfl) hK6 (show w5.heap.size ≠ p by omega))); (try have xf := Xf.out.cellF); (try have yf := Xf.out.frz); (try have xg := Xg.out.cellF); (try have yg := Xg.out.frz); have hk6 : Hid (Keep (· ≠ p) w w6) := hid (Keep.trans (by have := hk5.out; exact kpBy) hK6); have hs6 := hK6.size; (try simp at hs6); clear hK6))
    all_goals (go_wp2_with fail; go_meet; first | (have hq := Xf; exact ⟨w4.heap.size, j6, g6, rfl, he6, hg6, hid (by have := HR6.out; exact prBy), hid (by have := hk6.out; exact kpBy), hid ⟨by omega, by first | (simp; done) | (simp; omega) | omega⟩, hid (blkall15 Xf.out), hid (blkoth15 Xr.out (show w.heap.size ≠ w4.heap.size by omega))⟩) | (have hq := Xg; exact ⟨w5.heap.size, j6, g6, rfl, he6, hg6, hid (by have := HR6.out; exact prBy), hid (by have := hk6.out; exact kpBy), hid ⟨by omega, by first | (simp; done) | (simp; omega) | omega⟩, hid (blkall15 Xg.out), hid (blkoth15 Xr.out (show w.heap.size ≠ w5.heap.size by omega))⟩) | (exact ⟨w6.heap.size, j6, g6, rfl, he6, hg6, hid (by have := HR6.out; exact prBy), hid (by have := hk6.out; exact kpBy), hid ⟨by omega, by first | (simp; done) | (simp; omega) | omega⟩, hid (Blk.newAt rfl), hid (Xr.out.kept (below_alloc _))⟩))
  case rest =>
    obtain ⟨Q, j6, g6, rfl, he6, hg6, HR0, hk0, hQ, BF, BR⟩ := hcut
    have hQ1 := hQ.out.1
    have hQ2 := hQ.out.2
    clear Br xr yr zr Bm xm ym zm
    have Br := BR.out
    have Bf := BF.out
    have xr := Br.cellF
    have yr := Br.frz
    have zr : w.heap.size < wc.heap.size := by omega
    have xf := Bf.cellF
    have yf := Bf.frz
    have zf : Q < wc.heap.size := by omega
    have HPB : Hid (prB (stA ms i) = (g6.ty, g6.tat, stA ms j6)) := hid (by unfold prB; rw [HPA.out]; simp only []; rw [he4.out, hg6.out, ← he6.out])
    go_wp2_with fail
    refine (skipW w0 b off cap ms p _ j6 ⟨#[62]⟩ [62] rfl plain_gt (by have := HR0.out; exact prBy)).mono ?_
    rintro e v1 ⟨hK1, (⟨j7, ua7, uc7, he7, rfl, HR1⟩ | ⟨hcd, rfl⟩)⟩
    case inr =>
      have hk1 : Hid (Keep (· ≠ p) w v1) := hid (Keep.trans (by have := hk0.out; exact kpBy) hK1)
      clear hK1
      go_wp2
      exact ⟨rfl, by have := hk1.out; exact kpBy, .inr (by rw [show (prsM (stA ms i)).2 = eatM (stA ms j6) [62] by unfold prsM prC; rw [HPB.out]; simp only [eat_bad hcd, nam_bad hcd]]; exact ⟨hcd, rfl⟩)⟩
    replace Br : Blk v1 (w.heap.size) 143 #[.string ⟨#[]⟩, .string ⟨#[]⟩, .string ⟨#[]⟩, .int .u64 0, .int .i64 0, .int .i64 0, .int .i64 0, .int .i64 0, .int .i64 0, .int .i64 0, .int .i64 0, .int .i64 0, .int .i64 0, .int .i64 0, .int .i64 0] := Blk.keep (Br.is (by first | rfl | simp)) hK1 (show w.heap.size ≠ p by omega)
    replace Bf : Blk v1 (Q) 143 #[.string (strOfNums g6.name), .string (strOfNums g6.ty), .string (strOfNums g6.key), .int .u64 g6.num, .int .i64 g6.label, .int .i64 g6.packed, .int .i64 g6.oneof, .int .i64 g6.at1.1, .int .i64 g6.at1.2, .int .i64 g6.nat1.1, .int .i64 g6.nat1.2, .int .i64 g6.tat.1, .int .i64 g6.tat.2, .int .i64 g6.mat.1, .int .i64 g6.mat.2] := Blk.keep (Bf.is (by first | rfl | simp)) hK1 (show Q ≠ p by omega)
    clear xr yr xf yf
    have hs1 := hK1.size
    try simp at hs1
    have xr := Br.cellF
    have yr := Br.frz
    replace zr : w.heap.size < v1.heap.size := by omega
    have xf := Bf.cellF
    have yf := Bf.frz
    replace zf : Q < v1.heap.size := by omega
    have hp1 : p < v1.heap.size := by omega
    have hq1 : w.heap.size ≤ v1.heap.size := by omega
    have hk1 : Hid (Keep (· ≠ p) w v1) := hid (Keep.trans (by have := hk0.out; exact kpBy) hK1)
    clear hK1
    go_wp2_with fail
    refine (namedW w0 b off cap ms p _ j7 g6 (by have := HR1.out; exact prBy)).mono ?_
    rintro e v2 ⟨hK2, (⟨j8, g8, he8, hg8, rfl, ho8, HR2⟩ | ⟨hcd, rfl⟩)⟩
    case inr =>
      have hk2 : Hid (Keep (· ≠ p) w v2) := hid (Keep.trans (by have := hk1.out; exact kpBy) hK2)
      clear hK2
      go_wp2
      exact ⟨rfl, by have := hk2.out; exact kpBy, .inr (by rw [show (prsM (stA ms i)).2 = (namM (stA ms j7)).2.2 by unfold prsM prC; rw [HPB.out]; simp only []; rw [he7.out]; simp only [eat_bad hcd]]; exact ⟨hcd, rfl⟩)⟩
    replace Br : Blk v2 (w.heap.size) 143 #[.string ⟨#[]⟩, .string ⟨#[]⟩, .string ⟨#[]⟩, .int .u64 0, .int .i64 0, .int .i64 0, .int .i64 0, .int .i64 0, .int .i64 0, .int .i64 0, .int .i64 0, .int .i64 0, .int .i64 0, .int .i64 0, .int .i64 0] := Blk.keep (Br.is (by first | rfl | simp)) hK2 (show w.heap.size ≠ p by omega)
    replace Bf : Blk v2 (Q) 143 #[.string (strOfNums g6.name), .string (strOfNums g6.ty), .string (strOfNums g6.key), .int .u64 g6.num, .int .i64 g6.label, .int .i64 g6.packed, .int .i64 g6.oneof, .int .i64 g6.at1.1, .int .i64 g6.at1.2, .int .i64 g6.nat1.1, .int .i64 g6.nat1.2, .int .i64 g6.tat.1, .int .i64 g6.tat.2, .int .i64 g6.mat.1, .int .i64 g6.mat.2] := Blk.keep (Bf.is (by first | rfl | simp)) hK2 (show Q ≠ p by omega)
    clear xr yr xf yf
    have hs2 := hK2.size
    try simp at hs2
    have xr := Br.cellF
    have yr := Br.frz
    replace zr : w.heap.size < v2.heap.size := by omega
    have xf := Bf.cellF
    have yf := Bf.frz
    replace zf : Q < v2.heap.size := by omega
    have hp2 : p < v2.heap.size := by omega
    have hq2 : w.heap.size ≤ v2.heap.size := by omega
    have hk2 : Hid (Keep (· ≠ p) w v2) := hid (Keep.trans (by have := hk1.out; exact kpBy) hK2)
    clear hK2
    go_wp2_with fail
    refine (skipW w0 b off cap ms p _ j8 ⟨#[59]⟩ [59] rfl plain_sc (by have := HR2.out; exact prBy)).mono ?_
    rintro e v3 ⟨hK3, (⟨j9, ua9, uc9, he9, rfl, HR3⟩ | ⟨hcd, rfl⟩)⟩
    case inr =>
      have hk3 : Hid (Keep (· ≠ p) w v3) := hid (Keep.trans (by have := hk2.out; exact kpBy) hK3)
      clear hK3
      go_wp2
      exact ⟨rfl, by have := hk3.out; exact kpBy, .inr (by rw [show (prsM (stA ms i)).2 = eatM (stA ms j8) [59] by unfold prsM prC; rw [HPB.out]; simp only []; rw [he7.out, he8.out]]; exact ⟨hcd, rfl⟩)⟩
    replace Br : Blk v3 (w.heap.size) 143 #[.string ⟨#[]⟩, .string ⟨#[]⟩, .string ⟨#[]⟩, .int .u64 0, .int .i64 0, .int .i64 0, .int .i64 0, .int .i64 0, .int .i64 0, .int .i64 0, .int .i64 0, .int .i64 0, .int .i64 0, .int .i64 0, .int .i64 0] := Blk.keep ((blkoth15 Br (show w.heap.size ≠ Q by omega)).is (by first | rfl | simp)) hK3 (show w.heap.size ≠ p by omega)
    replace Bf : Blk v3 (Q) 143 #[.string (strOfNums g8.name), .string (strOfNums g8.ty), .string (strOfNums g8.key), .int .u64 g8.num, .int .i64 g8.label, .int .i64 g8.packed, .int .i64 g8.oneof, .int .i64 g8.at1.1, .int .i64 g8.at1.2, .int .i64 g8.nat1.1, .int .i64 g8.nat1.2, .int .i64 g8.tat.1, .int .i64 g8.tat.2, .int .i64 g8.mat.1, .int .i64 g8.mat.2] := Blk.keep ((blkall15 Bf).is (by first | rfl | simp)) hK3 (show Q ≠ p by omega)
    clear xr yr xf yf
    have hs3 := hK3.size
    try simp at hs3
    have xr := Br.cellF
    have yr := Br.frz
    replace zr : w.heap.size < v3.heap.size := by omega
    have xf := Bf.cellF
    have yf := Bf.frz
    replace zf : Q < v3.heap.size := by omega
    have hp3 : p < v3.heap.size := by omega
    have hq3 : w.heap.size ≤ v3.heap.size := by omega
    have hk3 : Hid (Keep (· ≠ p) w v3) := hid (Keep.trans (by have := hk2.out; exact kpBy) hK3)
    clear hK3
    go_wp2
    exact bodyPost_ret (v := .agg #[.string (strOfNums g8.name), .string (strOfNums g8.ty), .string (strOfNums g8.key), .int .u64 g8.num, .int .i64 g8.label, .int .i64 g8.packed, .int .i64 g8.oneof, .int .i64 g8.at1.1, .int .i64 g8.at1.2, .int .i64 g8.nat1.1, .int .i64 g8.nat1.2, .int .i64 g8.tat.1, .int .i64 g8.tat.2, .int .i64 g8.mat.1, .int .i64 g8.mat.2]) (by simp [results, Tryz.results121, go_sem, xf, zf, xr, zr]) rfl ⟨by have := hk3.out; exact kpBy, .inl ⟨j9, g8, hid (by unfold prsM prC; rw [HPB.out]; simp only []; rw [he7.out, he8.out]; exact he9.out), hid (by rw [HX.out, HPA.out, hg8.out]; unfold prC; rw [HPB.out]; simp only []; rw [he7.out, hg6.out]; rfl), rfl, hid (by have := HR3.out; exact prBy)⟩⟩
end
section
variable (w0 : World) (b off cap : Nat) (ms : List Mw) (p : Nat) (w : World) (i : Nat)
theorem mapped_bad (hT : (prB (stA ms i)).2.2.cd ≠ 0) (hml : ms.length ≤ 70000) (h : PR w0 b off cap ms p w i) : Calls Tryz.prog 121 #[.pointer (some ⟨p, 0, none⟩)] w fun e w' => Keep (· ≠ p) w w' ∧ ((∃ j g, Hid ((prsM (stA ms i)).2 = stA ms j) ∧ Hid (g = (prsM (stA ms i)).1) ∧ e = .returned (.agg #[.string (strOfNums g.name), .string (strOfNums g.ty), .string (strOfNums g.key), .int .u64 g.num, .int .i64 g.label, .int .i64 g.packed, .int .i64 g.oneof, .int .i64 g.at1.1, .int .i64 g.at1.2, .int .i64 g.nat1.1, .int .i64 g.nat1.2, .int .i64 g.tat.1, .int .i64 g.tat.2, .int .i64 g.mat.1, .int .i64 g.mat.2]) ∧ Hid (PR w0 b off cap ms p w' j)) ∨ Fell (prsM (stA ms i)).2 e) := by
  have HML := hid hml
  have HX := hid (prs_is (stA ms i))
  have HT := hid hT
  clear hT
  clear hml
  have hk0 : Hid (Keep (· ≠ p) w w) := hid (Keep.refl _ _)
  have hpl : p < w.heap.size := h.blk.lt
  have HR0 := hid h
  clear h
  go_enter Tryz.func121, Tryz.ntmps121
  go_wp2_with fail
  refine (skipW w0 b off cap ms p _ i ⟨#[109, 97, 112]⟩ wMap rfl plain_map (by have := HR0.out; exact prBy)).mono ?_
  rintro e w1 ⟨hK1, (⟨j1, ua, uc, he1, rfl, HR1⟩ | ⟨hcd, rfl⟩)⟩
  case inr =>
    have hk1 : Hid (Keep (· ≠ p) w w1) := hid (Keep.trans (by have := hk0.out; exact kpBy) hK1)
    clear hK1
    go_wp2
    exact ⟨rfl, by have := hk1.out; exact kpBy, .inr (by rw [show (prsM (stA ms i)).2 = eatM (stA ms i) wMap by unfold prsM prC prB prA; simp only [eat_bad hcd, take_bad hcd, typ_bad hcd, nam_bad hcd]]; exact ⟨hcd, rfl⟩)⟩
  have Br : Blk w1 (w.heap.size) 143 #[.string ⟨#[]⟩, .string ⟨#[]⟩, .string ⟨#[]⟩, .int .u64 0, .int .i64 0, .int .i64 0, .int .i64 0, .int .i64 0, .int .i64 0, .int .i64 0, .int .i64 0, .int .i64 0, .int .i64 0, .int .i64 0, .int .i64 0] := Blk.keep ((Blk.newAt (by simp)).is (by first | rfl | simp)) hK1 (show w.heap.size ≠ p by omega)
  have hs1 := hK1.size
  try simp at hs1
  have xr := Br.cellF
  have yr := Br.frz
  have zr : w.heap.size < w1.heap.size := by omega
  have hp1 : p < w1.heap.size := by omega
  have hq1 : w.heap.size ≤ w1.heap.size := by omega
  have hk1 : Hid (Keep (· ≠ p) w w1) := hid (Keep.trans (by have := hk0.out; exact kpBy) hK1)
  clear hK1
  go_wp2_with fail
  refine (skipW w0 b off cap ms p _ j1 ⟨#[60]⟩ [60] rfl plain_lt (by have := HR1.out; exact prBy)).mono ?_
  rintro e w2 ⟨hK2, (⟨j2, ua2, uc2, he2, rfl, HR2⟩ | ⟨hcd, rfl⟩)⟩
  case inr =>
    have hk2 : Hid (Keep (· ≠ p) w w2) := hid (Keep.trans (by have := hk1.out; exact kpBy) hK2)
    clear hK2
    go_wp2
    exact ⟨rfl, by have := hk2.out; exact kpBy, .inr (by rw [show (prsM (stA ms i)).2 = eatM (stA ms j1) [60] by unfold prsM prC prB prA; rw [he1.out]; simp only [eat_bad hcd, take_bad hcd, typ_bad hcd, nam_bad hcd]]; exact ⟨hcd, rfl⟩)⟩
  replace Br : Blk w2 (w.heap.size) 143 #[.string ⟨#[]⟩, .string ⟨#[]⟩, .string ⟨#[]⟩, .int .u64 0, .int .i64 0, .int .i64 0, .int .i64 0, .int .i64 0, .int .i64 0, .int .i64 0, .int .i64 0, .int .i64 0, .int .i64 0, .int .i64 0, .int .i64 0] := Blk.keep (Br.is (by first | rfl | simp)) hK2 (show w.heap.size ≠ p by omega)
  clear xr yr
  have hs2 := hK2.size
  try simp at hs2
  have xr := Br.cellF
  have yr := Br.frz
  replace zr : w.heap.size < w2.heap.size := by omega
  have hp2 : p < w2.heap.size := by omega
  have hq2 : w.heap.size ≤ w2.heap.size := by omega
  have hk2 : Hid (Keep (· ≠ p) w w2) := hid (Keep.trans (by have := hk1.out; exact kpBy) hK2)
  clear hK2
  go_wp2_with fail
  refine (takeW w0 b off cap ms p _ j2 1 (by decide) (by have := HR2.out; exact prBy)).mono ?_
  rintro e w3 ⟨hK3, (⟨j3, m1, sa, sc, he3, hm1, rfl, hr1, ho1, HR3⟩ | ⟨hcd, rfl⟩)⟩
  case inr =>
    have hk3 : Hid (Keep (· ≠ p) w w3) := hid (Keep.trans (by have := hk2.out; exact kpBy) hK3)
    clear hK3
    go_wp2
    exact ⟨rfl, by have := hk3.out; exact kpBy, .inr (by rw [show (prsM (stA ms i)).2 = (takeM (stA ms j2) 1).2 by unfold prsM prC prB prA; rw [he1.out, he2.out]; simp only [eat_bad hcd, take_bad hcd, typ_bad hcd, nam_bad hcd]]; exact ⟨hcd, rfl⟩)⟩
  replace Br : Blk w3 (w.heap.size) 143 #[.string ⟨#[]⟩, .string ⟨#[]⟩, .string ⟨#[]⟩, .int .u64 0, .int .i64 0, .int .i64 0, .int .i64 0, .int .i64 0, .int .i64 0, .int .i64 0, .int .i64 0, .int .i64 0, .int .i64 0, .int .i64 0, .int .i64 0] := Blk.keep (Br.is (by first | rfl | simp)) hK3 (show w.heap.size ≠ p by omega)
  clear xr yr
  have hs3 := hK3.size
  try simp at hs3
  have xr := Br.cellF
  have yr := Br.frz
  replace zr : w.heap.size < w3.heap.size := by omega
  have hp3 : p < w3.heap.size := by omega
  have hq3 : w.heap.size ≤ w3.heap.size := by omega
  have hk3 : Hid (Keep (· ≠ p) w w3) := hid (Keep.trans (by have := hk2.out; exact kpBy) hK3)
  clear hK3
  have HPA : Hid (prA (stA ms i) = (m1, stA ms j3)) := hid (by unfold prA; rw [he1.out, he2.out, hm1.out, ← he3.out])
  go_wp2_with fail
  refine (skipW w0 b off cap ms p _ j3 ⟨#[44]⟩ [44] rfl plain_comma (by have := HR3.out; exact prBy)).mono ?_
  rintro e w4 ⟨hK4, (⟨j4, ua4, uc4, he4, rfl, HR4⟩ | ⟨hcd, rfl⟩)⟩
  case inr =>
    have hk4 : Hid (Keep (· ≠ p) w w4) := hid (Keep.trans (by have := hk3.out; exact kpBy) hK4)
    clear hK4
    go_wp2
    exact ⟨rfl, by have := hk4.out; exact kpBy, .inr (by rw [show (prsM (stA ms i)).2 = eatM (stA ms j3) [44] by unfold prsM prC prB; rw [HPA.out]; simp only [eat_bad hcd, typ_bad hcd, nam_bad hcd]]; exact ⟨hcd, rfl⟩)⟩
  replace Br : Blk w4 (w.heap.size) 143 #[.string ⟨#[]⟩, .string ⟨#[]⟩, .string ⟨#[]⟩, .int .u64 0, .int .i64 0, .int .i64 0, .int .i64 0, .int .i64 0, .int .i64 0, .int .i64 0, .int .i64 0, .int .i64 0, .int .i64 0, .int .i64 0, .int .i64 0] := Blk.keep ((Br.kept (below_alloc _)).is (by first | rfl | simp)) hK4 (show w.heap.size ≠ p by omega)
  have Bm : Blk w4 (w3.heap.size) 159 #[.int .i64 m1.kind, .string (strOfNums m1.s), .int .u64 m1.n, .slice sa m1.b.length sc, .int .i64 m1.line, .int .i64 m1.col] := Blk.keep ((Blk.newAt (by simp)).is (by first | rfl | simp)) hK4 (show w3.heap.size ≠ p by omega)
  clear xr yr
  have hs4 := hK4.size
  try simp at hs4
  have xr := Br.cellF
  have yr := Br.frz
  replace zr : w.heap.size < w4.heap.size := by omega
  have xm := Bm.cellF
  have ym := Bm.frz
  have zm : w3.heap.size < w4.heap.size := by omega
  have hp4 : p < w4.heap.size := by omega
  have hq4 : w.heap.size ≤ w4.heap.size := by omega
  have hk4 : Hid (Keep (· ≠ p) w w4) := hid (Keep.trans (by have := hk3.out; exact kpBy) hK4)
  clear hK4
  go_wp2_with fail
  have HTc : Hid ((typM (stA ms j4)).2.2.cd ≠ 0) := hid (by have := HT.out; unfold prB at this; rw [HPA.out] at this; simp only [] at this; rw [he4.out] at this; exact this)
  go_region_held2 (fun W => W.cell? ⟨w3.heap.size, 0, none⟩ = some (.int .i64 m1.kind) ∧ W.cell? ⟨w3.heap.size, 1, none⟩ = some (.string (strOfNums m1.s)) ∧ W.cell? ⟨w3.heap.size, 2, none⟩ = some (.int .u64 m1.n) ∧ W.cell? ⟨w3.heap.size, 3, none⟩ = some (.slice sa m1.b.length sc) ∧ W.cell? ⟨w3.heap.size, 4, none⟩ = some (.int .i64 m1.line) ∧ W.cell? ⟨w3.heap.size, 5, none⟩ = some (.int .i64 m1.col)) (first | (have hB := hbad; exact hB.out.elim) | with_reducible exact blkc6 (Vm.out.kept (below_alloc _)) | with_reducible exact blkc6 Vm.out | with_reducible exact blkc6 ((Bm.kept (below_drew1 _)).kept (below_alloc _)) | with_reducible exact blkc6 ((Bm.kept (below_alloc _)).kept (below_drew1 _)) | with_reducible exact blkc6 (Bm.kept (below_drew1 _))) (first | (go_at_call 100; refine (placeOfW _ m1 sa sc).mono ?_; rintro e w5 ⟨rfl, hb5⟩; have Vm : Hid (Blk w5 w3.heap.size 159 #[.int .i64 m1.kind, .string (strOfNums m1.s), .int .u64 m1.n, .slice sa m1.b.length sc, .int .i64 m1.line, .int .i64 m1.col]) := hid (Blk.kept (by first | exact Bm.kept (below_drew1 _) | exact (Bm.kept (below_alloc _)).kept (below_drew1 _) | exact (Bm.kept (below_drew1 _)).kept (below_alloc _)) hb5); have HR5 : Hid (PR w0 b off cap ms p w5 j4) := hid (PR.kept (by have := HR4.out; exact prBy) hb5); have hk5 : Hid (Keep (· ≠ p) w w5) := hid (Keep.trans (by have := hk4.out; exact kpBy) (Keep.ofBelow hb5)); have vxm := Vm.out.cellF; have zm5 : w3.heap.size < w5.heap.size := Vm.out.lt; clear hb5) | (go_at_call 143; refine (typedW w0 b off cap ms p _ j4 (fZ 5 0 m1.s (atM m1)) HML.out (by have := HR5.out; exact prBy)).mono ?_; rintro e w6 ⟨hK6, (⟨j6, g6, he6, hg6, rfl, HR6⟩ | ⟨hcd, rfl⟩)⟩; rotate_left; (have hk6 : Hid (Keep (· ≠ p) w w6) := hid (Keep.trans (by have := hk5.out; exact kpBy) hK6)); (exact ⟨rfl, by have := hk6.out; exact kpBy, .inr (by rw [show (prsM (stA ms i)).2 = (typM (stA ms j4)).2.2 by unfold prsM prC prB; rw [HPA.out]; simp only [he4.out, eat_bad hcd, nam_bad hcd]]; exact ⟨hcd, rfl⟩)⟩); have hbad : Hid False := hid (absurd (show (typM (stA ms j4)).2.2.cd = 0 by rw [he6.out]; rfl) HTc.out); have u1 : ∀ a, w6.cell? a = some (.int .i64 0) := hbad.out.elim; have u2 : ∀ a, w6.frozen? a = false := hbad.out.elim; clear hK6))
  all_goals exact hbad.out.elim
end
section
variable (w0 : World) (b off cap : Nat) (ms : List Mw) (p : Nat) (w : World) (i : Nat)
theorem mappedW (hml : ms.length ≤ 70000) (h : PR w0 b off cap ms p w i) : Calls Tryz.prog 121 #[.pointer (some ⟨p, 0, none⟩)] w fun e w' => Keep (· ≠ p) w w' ∧ ((∃ j g, Hid ((prsM (stA ms i)).2 = stA ms j) ∧ Hid (g = (prsM (stA ms i)).1) ∧ e = .returned (.agg #[.string (strOfNums g.name), .string (strOfNums g.ty), .string (strOfNums g.key), .int .u64 g.num, .int .i64 g.label, .int .i64 g.packed, .int .i64 g.oneof, .int .i64 g.at1.1, .int .i64 g.at1.2, .int .i64 g.nat1.1, .int .i64 g.nat1.2, .int .i64 g.tat.1, .int .i64 g.tat.2, .int .i64 g.mat.1, .int .i64 g.mat.2]) ∧ Hid (PR w0 b off cap ms p w' j)) ∨ Fell (prsM (stA ms i)).2 e) := by
  by_cases hT : (prB (stA ms i)).2.2.cd = 0
  · exact mapped_ok w0 b off cap ms p w i hT hml h
  · exact mapped_bad w0 b off cap ms p w i hT hml h
end
def zR : Value := .agg #[.int .u64 0, .int .u64 0, .int .i64 0, .int .i64 0]
def zO : Value := .agg #[.string ⟨#[]⟩, .int .i64 0, .int .i64 0]
def zF : Value := .agg #[.string ⟨#[]⟩, .string ⟨#[]⟩, .string ⟨#[]⟩, .int .u64 0, .int .i64 0, .int .i64 0, .int .i64 0, .int .i64 0, .int .i64 0, .int .i64 0, .int .i64 0, .int .i64 0, .int .i64 0, .int .i64 0, .int .i64 0]
theorem Tryz.infoR : (Tryz.prog.info? 150).map (fun i => (i.zero, i.size, i.bytes)) = some (some zR, 4, 32) := by kernel_rfl
theorem Tryz.infoO : (Tryz.prog.info? 146).map (fun i => (i.zero, i.size, i.bytes)) = some (some zO, 3, 32) := by kernel_rfl
theorem Tryz.infoF : (Tryz.prog.info? 143).map (fun i => (i.zero, i.size, i.bytes)) = some (some zF, 15, 144) := by kernel_rfl
theorem appendR (base : Nat) (v : Value) (l : List MR) (y : MR) (w : World) (h : w.ownsRow base 150 4 v l.length (l.flatMap cR)) (hb : base ≤ w.heap.size) (hn : l.length ≤ 400000) :
    ∃ a c w', (Builtin.append_ #[99, 99] 99 #[v, .slice (some ⟨w.heap.size, 0, none⟩) 1 1]).run Tryz.prog (w.alloc (.cells #[.int .u64 y.low, .int .u64 y.high, .int .i64 y.at1.1, .int .i64 y.at1.2] 150)) = .ok (.slice a (l.length + 1) c) w' ∧
      w'.ownsRow base 150 4 (.slice a (l.length + 1) c) (l ++ [y]).length ((l ++ [y]).flatMap cR) ∧ Grow w w' v (.slice a (l.length + 1) c) := by
  obtain ⟨v', w', h1, h2, h3⟩ := append_st 150 99 4 32 zR Tryz.underlying99 Tryz.infoR rfl (by decide) (by decide) base v l.length (l.flatMap cR) w #[.int .u64 y.low, .int .u64 y.high, .int .i64 y.at1.1, .int .i64 y.at1.2] rfl (fun u hu => by simp at hu; rcases hu with rfl | rfl | rfl | rfl <;> rfl) h hb hn
  obtain ⟨a, c, rfl⟩ := own_shape h2
  exact ⟨a, c, w', h1, by rw [List.flatMap_append, List.length_append]; exact h2, h3⟩
theorem appendO (base : Nat) (v : Value) (l : List MO) (y : MO) (w : World) (h : w.ownsRow base 146 3 v l.length (l.flatMap cO)) (hb : base ≤ w.heap.size) (hn : l.length ≤ 400000) :
    ∃ a c w', (Builtin.append_ #[98, 98] 98 #[v, .slice (some ⟨w.heap.size, 0, none⟩) 1 1]).run Tryz.prog (w.alloc (.cells #[.string (strOfNums y.name), .int .i64 y.at1.1, .int .i64 y.at1.2] 146)) = .ok (.slice a (l.length + 1) c) w' ∧
      w'.ownsRow base 146 3 (.slice a (l.length + 1) c) (l ++ [y]).length ((l ++ [y]).flatMap cO) ∧ Grow w w' v (.slice a (l.length + 1) c) := by
  obtain ⟨v', w', h1, h2, h3⟩ := append_st 146 98 3 32 zO Tryz.underlying98 Tryz.infoO rfl (by decide) (by decide) base v l.length (l.flatMap cO) w #[.string (strOfNums y.name), .int .i64 y.at1.1, .int .i64 y.at1.2] rfl (fun u hu => by simp at hu; rcases hu with rfl | rfl | rfl <;> rfl) h hb hn
  obtain ⟨a, c, rfl⟩ := own_shape h2
  exact ⟨a, c, w', h1, by rw [List.flatMap_append, List.length_append]; exact h2, h3⟩
theorem appendF (base : Nat) (v : Value) (l : List MF) (y : MF) (w : World) (h : w.ownsRow base 143 15 v l.length (l.flatMap cF)) (hb : base ≤ w.heap.size) (hn : l.length ≤ 400000) :
    ∃ a c w', (Builtin.append_ #[97, 97] 97 #[v, .slice (some ⟨w.heap.size, 0, none⟩) 1 1]).run Tryz.prog (w.alloc (.cells #[.string (strOfNums y.name), .string (strOfNums y.ty), .string (strOfNums y.key), .int .u64 y.num, .int .i64 y.label, .int .i64 y.packed, .int .i64 y.oneof, .int .i64 y.at1.1, .int .i64 y.at1.2, .int .i64 y.nat1.1, .int .i64 y.nat1.2, .int .i64 y.tat.1, .int .i64 y.tat.2, .int .i64 y.mat.1, .int .i64 y.mat.2] 143)) = .ok (.slice a (l.length + 1) c) w' ∧
      w'.ownsRow base 143 15 (.slice a (l.length + 1) c) (l ++ [y]).length ((l ++ [y]).flatMap cF) ∧ Grow w w' v (.slice a (l.length + 1) c) := by
  obtain ⟨v', w', h1, h2, h3⟩ := append_st 143 97 15 144 zF Tryz.underlying97 Tryz.infoF rfl (by decide) (by decide) base v l.length (l.flatMap cF) w #[.string (strOfNums y.name), .string (strOfNums y.ty), .string (strOfNums y.key), .int .u64 y.num, .int .i64 y.label, .int .i64 y.packed, .int .i64 y.oneof, .int .i64 y.at1.1, .int .i64 y.at1.2, .int .i64 y.nat1.1, .int .i64 y.nat1.2, .int .i64 y.tat.1, .int .i64 y.tat.2, .int .i64 y.mat.1, .int .i64 y.mat.2] rfl (fun u hu => by simp at hu; rcases hu with rfl | rfl | rfl | rfl | rfl | rfl | rfl | rfl | rfl | rfl | rfl | rfl | rfl | rfl | rfl <;> rfl) h hb hn
  obtain ⟨a, c, rfl⟩ := own_shape h2
  exact ⟨a, c, w', h1, by rw [List.flatMap_append, List.length_append]; exact h2, h3⟩
/-- While the program builds a declaration: the reader, the declaration's block, its lists. -/
structure DI (w0 : World) (b off cap : Nat) (ms : List Mw) (p : Nat) (w : World) (base pd n : Nat) (wr : World) (j : Nat) (x : DV) : Prop where
  pr : PR w0 b off cap ms p wr j
  fr : Keep (fun k => k ≠ p ∧ k < base) w wr
  blk : Blk wr pd 102 #[.bool x.d.enum, .string (strOfNums x.d.name), .int .i64 x.d.at1.1, .int .i64 x.d.at1.2, x.f, x.o, x.dd, x.r, x.s]
  own : OwnD wr base n 143 146 102 150 154 (· = pd) x
  lo : p < base
  up : base ≤ pd
section
variable {w0 : World} {b off cap : Nat} {ms : List Mw} {p : Nat} {w : World} {base pd n : Nat} {wr w' : World} {j k : Nat} {x : DV}
theorem DI.reader (h : DI w0 b off cap ms p w base pd n wr j x) (K : Keep (· ≠ p) wr w') (R : PR w0 b off cap ms p w' k) : DI w0 b off cap ms p w base pd n w' k x :=
  ⟨R, h.fr.trans (K.weak (fun q hq => hq.1)), h.blk.keep K (by have := h.lo; have := h.up; omega), h.own.keep K (fun q hq _ (e : q = p) => by have := h.lo; omega), h.lo, h.up⟩
theorem DI.kept (h : DI w0 b off cap ms p w base pd n wr j x) (g : Below wr.heap.size wr w') : DI w0 b off cap ms p w base pd n w' j x := h.reader (Keep.ofBelow g) (h.pr.kept g)
theorem DI.frame (h : DI w0 b off cap ms p w base pd n wr j x) (K : Keep (· ≠ p) wr w') : Keep (fun k => k ≠ p ∧ k < base) w w' := h.fr.trans (K.weak (fun q hq => hq.1))
theorem DI.base_le (h : DI w0 b off cap ms p w base pd n wr j x) : base ≤ wr.heap.size := Nat.le_trans h.up (Nat.le_of_lt h.blk.lt)
theorem DI.addR (h : DI w0 b off cap ms p w base pd n wr j x) {v' : Value} {l : List MR} (g : Grow wr w' x.r v') (ho : w'.ownsRow base 150 4 v' l.length (l.flatMap cR)) :
    DI w0 b off cap ms p w base pd n (w'.setCell ⟨pd, 7, none⟩ v') j ⟨{ x.d with res := l }, x.f, x.o, x.dd, v', x.s⟩ := by
  have hb : Blk w' pd 102 #[.bool x.d.enum, .string (strOfNums x.d.name), .int .i64 x.d.at1.1, .int .i64 x.d.at1.2, x.f, x.o, x.dd, x.r, x.s] := h.blk.keep (Keep.ofGrow (f := fun q => x.r.ownBlock ≠ some q) g (fun _ hk => hk)) (fun hk => h.own.me pd (.inr (.inr (.inr (.inl hk)))) rfl)
  have ho' := h.own.addR (by decide) (by decide) (by decide) (by decide) g ho
  have hpr := grow_pr g h.own.r h.lo h.pr
  refine ⟨hpr.set (by have := h.lo; have := h.up; show p < pd; omega) _, ?_, (hb.set 7 _).is (by simp), ho'.keep (f := (· ≠ pd)) (Keep.setCell _ _ _ (by simp)) (fun q _ hq => hq), h.lo, h.up⟩
  exact (h.fr.trans ((grow_keep g h.own.r h.lo).weak (fun q hq => hq.2))).trans (Keep.setCell _ _ _ (fun hq => by have := hq.2; have := h.up; simp at *; omega))
theorem DI.addO (h : DI w0 b off cap ms p w base pd n wr j x) {v' : Value} {l : List MO} (g : Grow wr w' x.o v') (ho : w'.ownsRow base 146 3 v' l.length (l.flatMap cO)) :
    DI w0 b off cap ms p w base pd n (w'.setCell ⟨pd, 5, none⟩ v') j ⟨{ x.d with oneofs := l }, x.f, v', x.dd, x.r, x.s⟩ := by
  have hb : Blk w' pd 102 #[.bool x.d.enum, .string (strOfNums x.d.name), .int .i64 x.d.at1.1, .int .i64 x.d.at1.2, x.f, x.o, x.dd, x.r, x.s] := h.blk.keep (Keep.ofGrow (f := fun q => x.o.ownBlock ≠ some q) g (fun _ hk => hk)) (fun hk => h.own.me pd (.inr (.inl hk)) rfl)
  have ho' := h.own.addO (by decide) (by decide) (by decide) (by decide) g ho
  have hpr := grow_pr g h.own.o h.lo h.pr
  refine ⟨hpr.set (by have := h.lo; have := h.up; show p < pd; omega) _, ?_, (hb.set 5 _).is (by simp), ho'.keep (f := (· ≠ pd)) (Keep.setCell _ _ _ (by simp)) (fun q _ hq => hq), h.lo, h.up⟩
  exact (h.fr.trans ((grow_keep g h.own.o h.lo).weak (fun q hq => hq.2))).trans (Keep.setCell _ _ _ (fun hq => by have := hq.2; have := h.up; simp at *; omega))
theorem DI.addF (h : DI w0 b off cap ms p w base pd n wr j x) {v' : Value} {l : List MF} (g : Grow wr w' x.f v') (ho : w'.ownsRow base 143 15 v' l.length (l.flatMap cF)) :
    DI w0 b off cap ms p w base pd n (w'.setCell ⟨pd, 4, none⟩ v') j ⟨{ x.d with fields := l }, v', x.o, x.dd, x.r, x.s⟩ := by
  have hb : Blk w' pd 102 #[.bool x.d.enum, .string (strOfNums x.d.name), .int .i64 x.d.at1.1, .int .i64 x.d.at1.2, x.f, x.o, x.dd, x.r, x.s] := h.blk.keep (Keep.ofGrow (f := fun q => x.f.ownBlock ≠ some q) g (fun _ hk => hk)) (fun hk => h.own.me pd (.inl hk) rfl)
  have ho' := h.own.addF (by decide) (by decide) (by decide) (by decide) g ho
  have hpr := grow_pr g h.own.f h.lo h.pr
  refine ⟨hpr.set (by have := h.lo; have := h.up; show p < pd; omega) _, ?_, (hb.set 4 _).is (by simp), ho'.keep (f := (· ≠ pd)) (Keep.setCell _ _ _ (by simp)) (fun q _ hq => hq), h.lo, h.up⟩
  exact (h.fr.trans ((grow_keep g h.own.f h.lo).weak (fun q hq => hq.2))).trans (Keep.setCell _ _ _ (fun hq => by have := hq.2; have := h.up; simp at *; omega))
end
theorem rngL_go {l : List MR} {s : PS} (h : isM s [44] = true) : rngL (l, s) = rngL (l ++ [(rngM (eatM s [44])).1], (rngM (eatM s [44])).2) := by
  unfold rngL
  exact whM_go (p := fun x : List MR × PS => x.2) (x := (l, s)) rng_dec h
theorem rngL_stop {l : List MR} {s : PS} (h : isM s [44] = false) : rngL (l, s) = (l, s) := by
  unfold rngL
  exact whM_stop h
end Go.Proofs.YtidimdbnnnpplaaGreatDoor
