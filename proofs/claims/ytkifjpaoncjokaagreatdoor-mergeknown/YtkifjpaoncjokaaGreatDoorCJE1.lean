/-
  MergeKnown, its last statement.
  MergeKnown, from its second statement on.
  MergeKnown: chapter 10's examples.
-/
import Derived.Test.YtkifjpaoncjokaaGreatDoorCGU
import Derived.Test.YtkifjpaoncjokaaGreatDoorCTY
import Derived.Test.YtkifjpaoncjokaaGreatDoorCAA
namespace Go.Proofs.YtkifjpaoncjokaaGreatDoor
open Go.RowKit
set_option maxRecDepth 1000000
set_option linter.unusedVariables false
set_option linter.unusedSimpArgs false
set_option maxHeartbeats 40000000
theorem mk16W (w : World) (wE : World) (a4 c4 a5 c5 : Option Addr) (b4 d4 b5 d5 pk pd pb pq pc : Nat) (HB : Hid (Below w.heap.size w wE)) (HK : Hid (MsgE wE AnyZ 2 [.slice a4 1 b4, .slice c4 0 d4] kpM)) (HD : Hid (MsgE wE AnyZ 2 [.slice a5 2 b5, .slice c5 0 d5] drM)) (Bk : Hid (Blk wE pk 29 #[.slice a4 1 b4, .slice c4 0 d4])) (Bd : Hid (Blk wE pd 29 #[.slice a5 2 b5, .slice c5 0 d5])) (HPT : Hid (PtA wE pb pq)) (v1 v2 u3 u5 v7 v8 v10 u14 u15 u16 u17 u18 u19 u20 u21 u22 u23 u24 u25 u26 u27 u28 u29 u30 u31 u32 u33 u34 u35 u36 u37 u38 u39 u40 u41 u42 u43 u44 u45 u46 u47 u48 u49 u50 u51 u52 u53 u54 u55 u56 u57 u58 u59 u60 u61 u62 u63 u64 u65 u66 u67 u68 u69 u70 u71 u72 u73 u74 u75 u76 u77 u78 u79 u80 u81 u82 u83 u84 u85 u86 u87 u88 u89 u90 u91 u92 u93 u94 u95 u96 u97 u98 u99 u100 u101 u102 u103 u104 u105 u106 u107 u108 u109 u110 u111 u112 u113 u114 u115 u116 u117 u118 u119 u120 u121 u122 u123 u124 u125 u126 u127 u128 u129 u130 u131 u132 u133 u134 u135 u136 u137 u138 u139 u140 u141 u142 u143 u144 u145 u146 u147 u148 u149 u150 u151 u152 u153 u154 u155 u156 u157 u158 u159 u160 u161 u162 u163 u164 u165 u166 u167 u168 u169 u170 u171 u172 u173 u174 u175 u176 u177 u178 u179 u180 u181 u182 u183 u184 u185 u186 u187 u188 u189 u190 u191 u192 u193 u194 u195 u196 u197 u198 u199 u200 u201 u202 u203 u204 u205 : Value) : Code.wp Tryz.prog mk16 (bodyPost Tryz.prog Tryz.f3 fun e w' => e = .returned (.bool true) ∧ Below w.heap.size w w') ⟨#[.bool false, v1, v2, u3, .int .i64 0, u5, .int .i64 0, v7, v8, .int .i64 0, v10, .pointer (some ⟨pk, 0, none⟩), .pointer (some ⟨pd, 0, none⟩), .slice (some ⟨pb, pq, none⟩) 3 pc, u14, u15, u16, u17, u18, u19, u20, u21, u22, u23, u24, u25, u26, u27, u28, u29, u30, u31, u32, u33, u34, u35, u36, u37, u38, u39, u40, u41, u42, u43, u44, u45, u46, u47, u48, u49, u50, u51, u52, u53, u54, u55, u56, u57, u58, u59, u60, u61, u62, u63, u64, u65, u66, u67, u68, u69, u70, u71, u72, u73, u74, u75, u76, u77, u78, u79, u80, u81, u82, u83, u84, u85, u86, u87, u88, u89, u90, u91, u92, u93, u94, u95, u96, u97, u98, u99, u100, u101, u102, u103, u104, u105, u106, u107, u108, u109, u110, u111, u112, u113, u114, u115, u116, u117, u118, u119, u120, u121, u122, u123, u124, u125, u126, u127, u128, u129, u130, u131, u132, u133, u134, u135, u136, u137, u138, u139, u140, u141, u142, u143, u144, u145, u146, u147, u148, u149, u150, u151, u152, u153, u154, u155, u156, u157, u158, u159, u160, u161, u162, u163, u164, u165, u166, u167, u168, u169, u170, u171, u172, u173, u174, u175, u176, u177, u178, u179, u180, u181, u182, u183, u184, u185, u186, u187, u188, u189, u190, u191, u192, u193, u194, u195, u196, u197, u198, u199, u200, u201, u202, u203, u204, u205], []⟩ wE := by
  conv => arg 2; whnf
  have HW : Hid (Below wE.heap.size wE wE) := hid (Below.refl _ _)
  have HSF : Hid (∀ W, Below wE.heap.size wE W → W.cell? ⟨pk, 0, none⟩ = some (.slice a4 1 b4) ∧ W.cell? ⟨pk, 1, none⟩ = some (.slice c4 0 d4) ∧ W.cell? ⟨pd, 0, none⟩ = some (.slice a5 2 b5) ∧ W.cell? ⟨pd, 1, none⟩ = some (.slice c5 0 d5) ∧ W.cell? ⟨pb, pq, none⟩ = some (.string ⟨#[120]⟩) ∧ W.cell? ⟨pb, pq + 1, none⟩ = some (.string ⟨#[108]⟩) ∧ W.cell? ⟨pb, pq + 2, none⟩ = some (.string ⟨#[109, 46, 120]⟩)) := hid (fun W hW => ⟨(Bk.out.kept hW).cell 0 _ rfl, (Bk.out.kept hW).cell 1 _ rfl, (Bd.out.kept hW).cell 0 _ rfl, (Bd.out.kept hW).cell 1 _ rfl, (HPT.out.kept hW).1, (HPT.out.kept hW).2.1, (HPT.out.kept hW).2.2⟩)
  go_upto_region 16 with fail
  go_region_held3 (fun W => W.cell? ⟨pk, 0, none⟩ = some (.slice a4 1 b4) ∧ W.cell? ⟨pk, 1, none⟩ = some (.slice c4 0 d4) ∧ W.cell? ⟨pd, 0, none⟩ = some (.slice a5 2 b5) ∧ W.cell? ⟨pd, 1, none⟩ = some (.slice c5 0 d5) ∧ W.cell? ⟨pb, pq, none⟩ = some (.string ⟨#[120]⟩) ∧ W.cell? ⟨pb, pq + 1, none⟩ = some (.string ⟨#[108]⟩) ∧ W.cell? ⟨pb, pq + 2, none⟩ = some (.string ⟨#[109, 46, 120]⟩)) (exact HSF.out _ (by have := HW.out; exact blBy)) (first | (have fl := N4; clear fl; go_at_call 18; refine (toldS _ 2 _ _ _ _ drM (HD.out.kept (by have := HW.out; exact blBy)) (N4.out.kept (by exact blBy))).mono ?_; rintro e t11 ⟨rfl, hbx⟩; replace HW := hid (below_trans HW.out (below_trans (by exact blBy) hbx)); clear hbx N4) | (have fl := G5; clear fl; go_at_call 6; refine (msgS2 _ 1 _ _ _ _ _ _ (nL 1 [1]) (arM 3 (CM.mk [nL 2 [3]] [])) _ (G3.out.kept (by exact blBy)) (G5.out.kept (by exact blBy)) (by first | (with_reducible refine Blk.newAt ?_; first | rfl | simp) | (with_reducible refine Blk.kept (Blk.newAt ?_) (below_drew1 _); first | rfl | simp) | (with_reducible refine Blk.kept (Blk.newAt ?_) (below_alloc _); first | rfl | simp) | (with_reducible refine Blk.kept (Blk.kept (Blk.newAt ?_) (below_alloc _)) (below_drew1 _); first | rfl | simp))).mono ?_; rintro e t10 ⟨rfl, hm60, hbx⟩; have N4 : Hid (MsgE t10 AnyZ 2 _ drM) := hid hm60; replace HW := hid (below_trans HW.out (below_trans (by exact blBy) hbx)); clear hm60 hbx G3 G5) | (have fl := N3; clear fl; go_at_call 11; refine (inS _ 1 _ _ (CM.mk [nL 2 [3]] []) (N3.out.kept (by exact blBy))).mono ?_; rintro e t9 ⟨ka59, va59, kc59, vc59, rfl, hf59, hbx⟩; replace G3 := hid (G3.out.kept (below_trans (by exact blBy) hbx)); have G5 := hid hf59; replace HW := hid (below_trans HW.out (below_trans (by exact blBy) hbx)); clear hf59 hbx N3) | (have fl := G4; clear fl; go_at_call 6; refine (msgS1 _ 0 _ _ _ (nL 2 [3]) _ (G4.out.kept (by exact blBy)) (by first | (with_reducible refine Blk.newAt ?_; first | rfl | simp) | (with_reducible refine Blk.kept (Blk.newAt ?_) (below_drew1 _); first | rfl | simp) | (with_reducible refine Blk.kept (Blk.newAt ?_) (below_alloc _); first | rfl | simp) | (with_reducible refine Blk.kept (Blk.kept (Blk.newAt ?_) (below_alloc _)) (below_drew1 _); first | rfl | simp))).mono ?_; rintro e t8 ⟨rfl, hm58, hbx⟩; replace G3 := hid (G3.out.kept (below_trans (by exact blBy) hbx)); have N3 := hid hm58; replace HW := hid (below_trans HW.out (below_trans (by exact blBy) hbx)); clear hm58 hbx G4) | (have fl := G3; clear fl; go_at_call 7; refine (nS _ 0 2 3 (by omega) (by omega) _ (by first | (have fl := BP; clear fl; exact BP.out.kept (by exact blBy)) | (first | (with_reducible refine Blk.newAt ?_; first | rfl | simp) | (with_reducible refine Blk.kept (Blk.newAt ?_) (below_drew1 _); first | rfl | simp)))).mono ?_; rintro e t7 ⟨ka57, va57, kc57, vc57, rfl, hf57, hbx⟩; replace G3 := hid (G3.out.kept (below_trans (by exact blBy) hbx)); have G4 := hid hf57; replace HW := hid (below_trans HW.out (below_trans (by exact blBy) hbx)); clear hf57 hbx ) | (have fl := T1; clear fl; go_at_call 7; refine (nS _ 1 1 1 (by omega) (by omega) _ (by first | (with_reducible refine Blk.newAt ?_; first | rfl | simp) | (with_reducible refine Blk.kept (Blk.newAt ?_) (below_drew1 _); first | rfl | simp) | (with_reducible refine Blk.kept (Blk.newAt ?_) (below_alloc _); first | rfl | simp) | (with_reducible refine Blk.kept (Blk.kept (Blk.newAt ?_) (below_alloc _)) (below_drew1 _); first | rfl | simp))).mono ?_; rintro e t6 ⟨ka56, va56, kc56, vc56, rfl, hf56, hbx⟩; (first | (have BP : Hid (Blk t6 (t5.heap.size) 3 #[.int .i64 3]) := hid (Blk.kept (by (first | (with_reducible refine Blk.kept (Blk.newAt ?_) (below_alloc _); first | rfl | simp) | (with_reducible refine Blk.kept (Blk.kept (Blk.newAt ?_) (below_alloc _)) (below_drew1 _); first | rfl | simp))) hbx)) | (have BP : Hid (Blk t6 (t5.heap.size + 1) 3 #[.int .i64 3]) := hid (Blk.kept (by (first | (with_reducible refine Blk.newAt ?_; first | rfl | simp) | (with_reducible refine Blk.kept (Blk.newAt ?_) (below_drew1 _); first | rfl | simp))) hbx)) | skip); have G3 := hid hf56; replace HW := hid (below_trans HW.out (below_trans (by exact blBy) hbx)); clear hf56 hbx T1) | (have fl := N2; clear fl; go_at_call 18; refine (toldS _ 2 _ _ _ _ kpM (HK.out.kept (by have := HW.out; exact blBy)) (N2.out.kept (by exact blBy))).mono ?_; rintro e t5 ⟨rfl, hbx⟩; have T1 : Hid True := hid trivial; replace HW := hid (below_trans HW.out (below_trans (by exact blBy) hbx)); clear hbx N2) | (have fl := G2; clear fl; go_at_call 6; refine (msgS1 _ 1 _ _ _ (arM 3 (CM.mk [nL 1 [2]] [])) _ (G2.out.kept (by exact blBy)) (by first | (with_reducible refine Blk.newAt ?_; first | rfl | simp) | (with_reducible refine Blk.kept (Blk.newAt ?_) (below_drew1 _); first | rfl | simp) | (with_reducible refine Blk.kept (Blk.newAt ?_) (below_alloc _); first | rfl | simp) | (with_reducible refine Blk.kept (Blk.kept (Blk.newAt ?_) (below_alloc _)) (below_drew1 _); first | rfl | simp))).mono ?_; rintro e t4 ⟨rfl, hm54, hbx⟩; have N2 : Hid (MsgE t4 AnyZ 2 _ kpM) := hid hm54; replace HW := hid (below_trans HW.out (below_trans (by exact blBy) hbx)); clear hm54 hbx G2) | (have fl := N1; clear fl; go_at_call 11; refine (inS _ 1 _ _ (CM.mk [nL 1 [2]] []) (N1.out.kept (by exact blBy))).mono ?_; rintro e t3 ⟨ka53, va53, kc53, vc53, rfl, hf53, hbx⟩; have G2 := hid hf53; replace HW := hid (below_trans HW.out (below_trans (by exact blBy) hbx)); clear hf53 hbx N1) | (have fl := G1; clear fl; go_at_call 6; refine (msgS1 _ 0 _ _ _ (nL 1 [2]) _ (G1.out.kept (by exact blBy)) (by first | (with_reducible refine Blk.newAt ?_; first | rfl | simp) | (with_reducible refine Blk.kept (Blk.newAt ?_) (below_drew1 _); first | rfl | simp) | (with_reducible refine Blk.kept (Blk.newAt ?_) (below_alloc _); first | rfl | simp) | (with_reducible refine Blk.kept (Blk.kept (Blk.newAt ?_) (below_alloc _)) (below_drew1 _); first | rfl | simp))).mono ?_; rintro e t2 ⟨rfl, hm52, hbx⟩; have N1 := hid hm52; replace HW := hid (below_trans HW.out (below_trans (by exact blBy) hbx)); clear hm52 hbx G1) | (go_at_call 7; refine (nS _ 0 1 2 (by omega) (by omega) _ (by first | (with_reducible refine Blk.newAt ?_; first | rfl | simp) | (with_reducible refine Blk.kept (Blk.newAt ?_) (below_drew1 _); first | rfl | simp) | (with_reducible refine Blk.kept (Blk.newAt ?_) (below_alloc _); first | rfl | simp) | (with_reducible refine Blk.kept (Blk.kept (Blk.newAt ?_) (below_alloc _)) (below_drew1 _); first | rfl | simp))).mono ?_; rintro e t1 ⟨ka51, va51, kc51, vc51, rfl, hf51, hbx⟩; have G1 := hid hf51; replace HW := hid (below_trans HW.out (below_trans (by exact blBy) hbx)); clear hf51 hbx ))
  all_goals
    have HBF : Hid (Below w.heap.size w t11) := hid (bl_then HB.out HW.out)
    go_wp2
    exact bodyPost_ret (v := .bool true) (by simp [results, Tryz.results3, go_sem]) rfl ⟨rfl, by have := HBF.out; exact blBy⟩
end Go.Proofs.YtkifjpaoncjokaaGreatDoor
namespace Go.Proofs.YtkifjpaoncjokaaGreatDoor
open Go.RowKit
set_option maxRecDepth 1000000
set_option linter.unusedVariables false
set_option linter.unusedSimpArgs false
set_option maxHeartbeats 40000000
theorem mk8W (w : World) (mx : Int) (ta : Option Addr) (tn pt q1 po : Nat) (wA : World) (Q : Nat) (a1 c1 : Option Addr) (b1 d1 : Nat) (HM : Hid (w.cell? ⟨0, 0, none⟩ = some (.int .i64 mx))) (HB : Hid (Below w.heap.size w wA)) (HS : Hid (SmA wA ta tn 2 mx)) (HM1 : Hid (MsgE wA AnyZ (0 + 1) [.slice (some ⟨q1, 0, none⟩) 1 1, .slice none 0 0] (CM.mk [nL 1 [1]] []))) (Bt : Hid (Blk wA pt 24 #[.slice ta tn 2])) (Bo : Hid (Blk wA po 29 #[.slice (some ⟨q1, 0, none⟩) 1 1, .slice none 0 0])) (Bq : Hid (Blk wA Q 33 #[.int .i64 1, .slice a1 0 b1, .slice c1 1 d1])) (HV : Hid (FmF 1 wA AnyZ [.int .i64 1, .slice a1 0 b1, .slice c1 1 d1] (nL 1 [1]))) (u3 u5 u14 u15 u16 u17 u18 u19 u20 u21 u22 u23 u24 u25 u26 u27 u28 u29 u30 u31 u32 u33 u34 u35 u36 u37 u38 u39 u40 u41 u42 u43 u44 u45 u46 u47 u48 u49 u50 u51 u52 u53 u54 u55 u56 u57 u58 u59 u60 u61 u62 u63 u64 u65 u66 u67 u68 u69 u70 u71 u72 u73 u74 u75 u76 u77 u78 u79 u80 u81 u82 u83 u84 u85 u86 u87 u88 u89 u90 u91 u92 u93 u94 u95 u96 u97 u98 u99 u100 u101 u102 u103 u104 u105 u106 u107 u108 u109 u110 u111 u112 u113 u114 u115 u116 u117 u118 u119 u120 u121 u122 u123 u124 u125 u126 u127 u128 u129 u130 u131 u132 u133 u134 u135 u136 u137 u138 u139 u140 u141 u142 u143 u144 u145 u146 u147 u148 u149 u150 u151 u152 u153 u154 u155 u156 u157 u158 u159 u160 u161 u162 u163 u164 u165 u166 u167 u168 u169 u170 u171 u172 u173 u174 u175 u176 u177 u178 u179 u180 u181 u182 u183 u184 u185 u186 u187 u188 u189 u190 u191 u192 u193 u194 u195 u196 u197 u198 u199 u200 u201 u202 u203 u204 u205 : Value) : Code.wp Tryz.prog mk8 (bodyPost Tryz.prog Tryz.f3 fun e w' => e = .returned (.bool true) ∧ Below w.heap.size w w') ⟨#[.bool false, .pointer (some ⟨pt, 0, none⟩), .pointer (some ⟨po, 0, none⟩), u3, .int .i64 0, u5, .int .i64 20, .pointer (some ⟨Q, 0, none⟩), undef, undef, undef, undef, undef, undef, u14, u15, u16, u17, u18, u19, u20, u21, u22, u23, u24, u25, u26, u27, u28, u29, u30, u31, u32, u33, u34, u35, u36, u37, u38, u39, u40, u41, u42, u43, u44, u45, u46, u47, u48, u49, u50, u51, u52, u53, u54, u55, u56, u57, u58, u59, u60, u61, u62, u63, u64, u65, u66, u67, u68, u69, u70, u71, u72, u73, u74, u75, u76, u77, u78, u79, u80, u81, u82, u83, u84, u85, u86, u87, u88, u89, u90, u91, u92, u93, u94, u95, u96, u97, u98, u99, u100, u101, u102, u103, u104, u105, u106, u107, u108, u109, u110, u111, u112, u113, u114, u115, u116, u117, u118, u119, u120, u121, u122, u123, u124, u125, u126, u127, u128, u129, u130, u131, u132, u133, u134, u135, u136, u137, u138, u139, u140, u141, u142, u143, u144, u145, u146, u147, u148, u149, u150, u151, u152, u153, u154, u155, u156, u157, u158, u159, u160, u161, u162, u163, u164, u165, u166, u167, u168, u169, u170, u171, u172, u173, u174, u175, u176, u177, u178, u179, u180, u181, u182, u183, u184, u185, u186, u187, u188, u189, u190, u191, u192, u193, u194, u195, u196, u197, u198, u199, u200, u201, u202, u203, u204, u205], []⟩ wA := by
  conv => arg 2; whnf
  have xt := Bt.out.cellF
  have zt := Bt.out.lt
  have xo := Bo.out.cellF
  have zo := Bo.out.lt
  have xq := Bq.out.cellF
  have zq := Bq.out.lt
  go_wp2_with fail
  refine (valO1 _ _ _ mx (HS.out.kept (by exact blBy)) _ _ (HM1.out.kept (by exact blBy))).mono ?_
  rintro e w20 ⟨a2, c2, b2, d2, rfl, hbx⟩
  clear xt zt xo zo xq zq
  replace HB : Hid (Below w.heap.size w w20) := hid (bl_then (by have := HB.out; exact blBy) hbx)
  replace HS := hid (HS.out.kept (below_trans (by exact blBy) hbx))
  replace HM1 := hid (HM1.out.kept (below_trans (by exact blBy) hbx))
  replace HV := hid (HV.out.kept (below_trans (by exact blBy) hbx))
  replace Bt := hid (Bt.out.kept (below_trans (by exact blBy) hbx))
  replace Bo := hid (Bo.out.kept (below_trans (by exact blBy) hbx))
  replace Bq := hid (Bq.out.kept (below_trans (by exact blBy) hbx))
  clear hbx 
  have xt := Bt.out.cellF
  have zt := Bt.out.lt
  have xo := Bo.out.cellF
  have zo := Bo.out.lt
  have xq := Bq.out.cellF
  have zq := Bq.out.lt
  go_wp2_with fail
  refine (valX1 _ _ _ mx (HS.out.kept (by exact blBy)) _ _ (HM1.out.kept (by exact blBy))).mono ?_
  rintro e w21 ⟨a3, c3, b3, d3, rfl, hbx⟩
  clear xt zt xo zo xq zq
  replace HB : Hid (Below w.heap.size w w21) := hid (bl_then (by have := HB.out; exact blBy) hbx)
  replace HS := hid (HS.out.kept (below_trans (by exact blBy) hbx))
  replace HM1 := hid (HM1.out.kept (below_trans (by exact blBy) hbx))
  replace HV := hid (HV.out.kept (below_trans (by exact blBy) hbx))
  replace Bt := hid (Bt.out.kept (below_trans (by exact blBy) hbx))
  replace Bo := hid (Bo.out.kept (below_trans (by exact blBy) hbx))
  replace Bq := hid (Bq.out.kept (below_trans (by exact blBy) hbx))
  clear hbx 
  have xt := Bt.out.cellF
  have zt := Bt.out.lt
  have xo := Bo.out.cellF
  have zo := Bo.out.lt
  have xq := Bq.out.cellF
  have zq := Bq.out.lt
  go_upto_region 10 with fail
  have HW : Hid (Below w21.heap.size w21 w21) := hid (Below.refl _ _)
  have HSF : Hid (∀ W, Below w21.heap.size w21 W → W.cell? ⟨Q, 0, none⟩ = some (.int .i64 1) ∧ W.cell? ⟨Q, 1, none⟩ = some (.slice a1 0 b1) ∧ W.cell? ⟨Q, 2, none⟩ = some (.slice c1 1 d1)) := hid (fun W hW => ⟨(Bq.out.kept hW).cell 0 _ rfl, (Bq.out.kept hW).cell 1 _ rfl, (Bq.out.kept hW).cell 2 _ rfl⟩)
  clear xt zt xo zo xq zq
  go_region_held3 (fun W => W.cell? ⟨Q, 0, none⟩ = some (.int .i64 1) ∧ W.cell? ⟨Q, 1, none⟩ = some (.slice a1 0 b1) ∧ W.cell? ⟨Q, 2, none⟩ = some (.slice c1 1 d1)) (exact HSF.out _ (by have := HW.out; exact blBy)) (first | (go_at_call 7; refine (nS _ 1 1 1 (by omega) (by omega) _ (by first | exact Blk.new _ _ _ | exact Blk.newAt (by simp) | exact (Blk.new _ _ _).kept (below_alloc _) | exact (Blk.newAt (by simp)).kept (below_alloc _))).mono ?_; rintro e s1 ⟨ka8, va8, kc8, vc8, rfl, hf8, hbx⟩; have HF8 := hid hf8; replace HW := hid (below_trans HW.out (below_trans (by exact blBy) hbx)); clear hf8 hbx) | (go_at_call 14; refine (sameS _ 1 _ _ _ _ _ _ (nL 1 [1]) (HV.out.kept (by have := HW.out; exact blBy)) (HF8.out.kept (by exact blBy))).mono ?_; rintro e s2 ⟨rfl, hbx⟩; replace HW := hid (below_trans HW.out (below_trans (by exact blBy) hbx)); clear hbx))
  replace HB : Hid (Below w.heap.size w s2) := hid (bl_then HB.out HW.out)
  replace HS := hid (HS.out.kept HW.out)
  replace HM1 := hid (HM1.out.kept HW.out)
  replace HV := hid (HV.out.kept HW.out)
  replace Bt := hid (Bt.out.kept HW.out)
  replace Bo := hid (Bo.out.kept HW.out)
  replace Bq := hid (Bq.out.kept HW.out)
  clear HW HSF HF8 HM1 HV Bq Bo
  have xt := Bt.out.cellF
  have zt := Bt.out.lt
  go_wp2_with fail
  refine (nS _ 1 1 1 (by omega) (by omega) _ (by first | exact Blk.new _ _ _ | exact Blk.newAt (by simp) | exact (Blk.new _ _ _).kept (below_alloc _) | exact (Blk.newAt (by simp)).kept (below_alloc _))).mono ?_
  rintro e w41 ⟨ka31, va31, kc31, vc31, rfl, hf31, hbx⟩
  clear xt zt
  replace HB : Hid (Below w.heap.size w w41) := hid (bl_then (by have := HB.out; exact blBy) hbx)
  replace HS := hid (HS.out.kept (below_trans (by exact blBy) hbx))
  replace Bt := hid (Bt.out.kept (below_trans (by exact blBy) hbx))
  have HF1 := hid hf31
  clear hbx hf31
  have xt := Bt.out.cellF
  have zt := Bt.out.lt
  go_wp2_with fail
  refine (nS _ 0 1 2 (by omega) (by omega) _ (by first | exact Blk.new _ _ _ | exact Blk.newAt (by simp) | exact (Blk.new _ _ _).kept (below_alloc _) | exact (Blk.newAt (by simp)).kept (below_alloc _))).mono ?_
  rintro e w42 ⟨ka32, va32, kc32, vc32, rfl, hf32, hbx⟩
  clear xt zt
  replace HB : Hid (Below w.heap.size w w42) := hid (bl_then (by have := HB.out; exact blBy) hbx)
  replace HS := hid (HS.out.kept (below_trans (by exact blBy) hbx))
  replace HF1 := hid (HF1.out.kept (below_trans (by exact blBy) hbx))
  replace Bt := hid (Bt.out.kept (below_trans (by exact blBy) hbx))
  have HF2 := hid hf32
  clear hbx hf32
  have xt := Bt.out.cellF
  have zt := Bt.out.lt
  go_wp2_with fail
  refine (nS _ 0 2 3 (by omega) (by omega) _ (by first | exact Blk.new _ _ _ | exact Blk.newAt (by simp) | exact (Blk.new _ _ _).kept (below_alloc _) | exact (Blk.newAt (by simp)).kept (below_alloc _))).mono ?_
  rintro e w43 ⟨ka33, va33, kc33, vc33, rfl, hf33, hbx⟩
  clear xt zt
  replace HB : Hid (Below w.heap.size w w43) := hid (bl_then (by have := HB.out; exact blBy) hbx)
  replace HS := hid (HS.out.kept (below_trans (by exact blBy) hbx))
  replace HF1 := hid (HF1.out.kept (below_trans (by exact blBy) hbx))
  replace HF2 := hid (HF2.out.kept (below_trans (by exact blBy) hbx))
  replace Bt := hid (Bt.out.kept (below_trans (by exact blBy) hbx))
  have HF3 := hid hf33
  clear hbx hf33
  have xt := Bt.out.cellF
  have zt := Bt.out.lt
  go_wp2_with fail
  refine (msgS2 _ 0 _ _ _ _ _ _ _ _ _ (HF2.out.kept (by exact blBy)) (HF3.out.kept (by exact blBy)) (by first | exact Blk.new _ _ _ | exact Blk.newAt (by simp) | exact (Blk.new _ _ _).kept (below_alloc _) | exact (Blk.newAt (by simp)).kept (below_alloc _))).mono ?_
  rintro e w44 ⟨rfl, hm33, hbx⟩
  clear xt zt
  replace HB : Hid (Below w.heap.size w w44) := hid (bl_then (by have := HB.out; exact blBy) hbx)
  replace HS := hid (HS.out.kept (below_trans (by exact blBy) hbx))
  replace HF1 := hid (HF1.out.kept (below_trans (by exact blBy) hbx))
  replace HF2 := hid (HF2.out.kept (below_trans (by exact blBy) hbx))
  replace HF3 := hid (HF3.out.kept (below_trans (by exact blBy) hbx))
  replace Bt := hid (Bt.out.kept (below_trans (by exact blBy) hbx))
  have HM3 := hid hm33
  clear hbx hm33
  generalize w43.heap.size = q13 at *
  have xt := Bt.out.cellF
  have zt := Bt.out.lt
  clear HF2 HF3
  go_wp2_with fail
  refine (inS _ 1 (.slice (some ⟨q13, 0, none⟩) 2 2) (.slice none 0 0) _ (HM3.out.kept (by exact blBy))).mono ?_
  rintro e w45 ⟨ka34, va34, kc34, vc34, rfl, hf34, hbx⟩
  clear xt zt
  replace HB : Hid (Below w.heap.size w w45) := hid (bl_then (by have := HB.out; exact blBy) hbx)
  replace HS := hid (HS.out.kept (below_trans (by exact blBy) hbx))
  replace HF1 := hid (HF1.out.kept (below_trans (by exact blBy) hbx))
  replace HM3 := hid (HM3.out.kept (below_trans (by exact blBy) hbx))
  replace Bt := hid (Bt.out.kept (below_trans (by exact blBy) hbx))
  have HF4 := hid hf34
  clear hbx hf34
  have xt := Bt.out.cellF
  have zt := Bt.out.lt
  clear HM3
  go_wp2_with fail
  refine (msgS2 _ 1 _ _ _ _ _ _ _ _ _ (HF1.out.kept (by exact blBy)) (HF4.out.kept (by exact blBy)) (by first | exact Blk.new _ _ _ | exact Blk.newAt (by simp) | exact (Blk.new _ _ _).kept (below_alloc _) | exact (Blk.newAt (by simp)).kept (below_alloc _))).mono ?_
  rintro e w46 ⟨rfl, hm34, hbx⟩
  clear xt zt
  replace HB : Hid (Below w.heap.size w w46) := hid (bl_then (by have := HB.out; exact blBy) hbx)
  replace HS := hid (HS.out.kept (below_trans (by exact blBy) hbx))
  replace HF1 := hid (HF1.out.kept (below_trans (by exact blBy) hbx))
  replace HF4 := hid (HF4.out.kept (below_trans (by exact blBy) hbx))
  replace Bt := hid (Bt.out.kept (below_trans (by exact blBy) hbx))
  have HM0 := hid hm34
  clear hbx hm34
  generalize w45.heap.size = q14 at *
  have xt := Bt.out.cellF
  have zt := Bt.out.lt
  clear HF1 HF4
  go_wp2_with fail
  refine (keepK1 _ _ _ mx (HS.out.kept (by exact blBy)) _ _ (HM0.out.kept (by exact blBy)) _ (by first | exact Blk.new _ _ _ | exact Blk.newAt (by simp) | exact (Blk.new _ _ _).kept (below_alloc _) | exact (Blk.newAt (by simp)).kept (below_alloc _))).mono ?_
  rintro e w47 ⟨a4, c4, b4, d4, rfl, hk4, hbx⟩
  clear xt zt
  replace HB : Hid (Below w.heap.size w w47) := hid (bl_then (by have := HB.out; exact blBy) hbx)
  replace HS := hid (HS.out.kept (below_trans (by exact blBy) hbx))
  replace HM0 := hid (HM0.out.kept (below_trans (by exact blBy) hbx))
  replace Bt := hid (Bt.out.kept (below_trans (by exact blBy) hbx))
  have HK := hid hk4
  have Bm : Hid (Blk w47 (w46.heap.size) 29 #[.slice (some ⟨q14, 0, none⟩) 2 2, .slice none 0 0]) := hid (Blk.kept (by first | exact Blk.new _ _ _ | exact Blk.newAt (by simp) | exact (Blk.new _ _ _).kept (below_alloc _) | exact (Blk.newAt (by simp)).kept (below_alloc _)) hbx)
  clear hbx hk4
  generalize w46.heap.size = pm at *
  have xt := Bt.out.cellF
  have zt := Bt.out.lt
  have xm := Bm.out.cellF
  have zm := Bm.out.lt
  go_wp2_with fail
  refine (dropD1 _ _ _ mx (HS.out.kept (by exact blBy)) _ _ (HM0.out.kept (by exact blBy)) _ (by first | exact Blk.new _ _ _ | exact Blk.newAt (by simp) | exact (Blk.new _ _ _).kept (below_alloc _) | exact (Blk.newAt (by simp)).kept (below_alloc _))).mono ?_
  rintro e w48 ⟨a5, c5, b5, d5, rfl, hd5, hbx⟩
  clear xt zt xm zm
  replace HB : Hid (Below w.heap.size w w48) := hid (bl_then (by have := HB.out; exact blBy) hbx)
  replace HS := hid (HS.out.kept (below_trans (by exact blBy) hbx))
  replace HM0 := hid (HM0.out.kept (below_trans (by exact blBy) hbx))
  replace HK := hid (HK.out.kept (below_trans (by exact blBy) hbx))
  replace Bt := hid (Bt.out.kept (below_trans (by exact blBy) hbx))
  replace Bm := hid (Bm.out.kept (below_trans (by exact blBy) hbx))
  have HD := hid hd5
  have Bk : Hid (Blk w48 (w47.heap.size) 29 #[.slice a4 1 b4, .slice c4 0 d4]) := hid (Blk.kept (by first | exact Blk.new _ _ _ | exact Blk.newAt (by simp) | exact (Blk.new _ _ _).kept (below_alloc _) | exact (Blk.newAt (by simp)).kept (below_alloc _)) hbx)
  clear hbx hd5
  generalize w47.heap.size = pk at *
  have xt := Bt.out.cellF
  have zt := Bt.out.lt
  have xm := Bm.out.cellF
  have zm := Bm.out.lt
  have xk := Bk.out.cellF
  have zk := Bk.out.lt
  go_upto_region 15 with fail
  clear xt zt xm zm xk zk
  clear HM0 Bm
  have Bd : Hid (Blk (w48.alloc (.cells #[.slice a5 2 b5, .slice c5 0 d5] 29)) w48.heap.size 29 #[.slice a5 2 b5, .slice c5 0 d5]) := hid (Blk.new _ _ _)
  replace HB : Hid (Below w.heap.size w (w48.alloc (.cells #[.slice a5 2 b5, .slice c5 0 d5] 29))) := hid (bl_alloc HB.out _)
  have HX : Hid (Below w48.heap.size w48 (w48.alloc (.cells #[.slice a5 2 b5, .slice c5 0 d5] 29))) := hid (below_alloc _)
  replace HS := hid (HS.out.kept HX.out)
  replace HK := hid (HK.out.kept HX.out)
  replace HD := hid (HD.out.kept HX.out)
  replace Bt := hid (Bt.out.kept HX.out)
  replace Bk := hid (Bk.out.kept HX.out)
  clear HX
  generalize w48.alloc (.cells #[.slice a5 2 b5, .slice c5 0 d5] 29) = wD at *
  generalize w48.heap.size = pd at *
  have HW : Hid (Below wD.heap.size wD wD) := hid (Below.refl _ _)
  have HSF : Hid (∀ W, Below wD.heap.size wD W → W.cell? ⟨pt, 0, none⟩ = some (.slice ta tn 2)) := hid (fun W hW => (Bt.out.kept hW).cell 0 _ rfl)
  go_cut [9, 13] from 14 to 154 (fun s9 s13 wc => ∃ (pb pq pc : Nat), s9 = .int .i64 0 ∧ s13 = .slice (some ⟨pb, pq, none⟩) 3 pc ∧ Hid (PtA wc pb pq) ∧ Hid (Below wD.heap.size wD wc))
  case first =>
    go_region_held3 (fun W => W.cell? ⟨pt, 0, none⟩ = some (.slice ta tn 2)) (exact HSF.out _ (by have := HW.out; exact blBy)) (first | (have fl := HMP; clear fl; go_at_call 17; refine (pathP1 _ _ _ mx (HS.out.kept (by have := HW.out; exact blBy)) _ _ (HMP.out.kept (by exact blBy))).mono ?_; rintro e v7 ⟨pb, pq, pc, rfl, hp7, hbx⟩; have HPT := hid hp7; replace HW := hid (below_trans HW.out (below_trans (by exact blBy) hbx)); clear hp7 hbx) | (have fl := HF13; clear fl; go_at_call 6; refine (msgS3 _ 1 _ _ _ _ _ _ _ _ _ (nL 1 [1]) (nL 2 []) (arM 3 (CM.mk [nL 1 [2]] [])) _ (HF10.out.kept (by exact blBy)) (HF11.out.kept (by exact blBy)) (HF13.out.kept (by exact blBy)) (by first | (with_reducible refine Blk.newAt ?_; first | rfl | simp) | (with_reducible refine Blk.kept (Blk.newAt ?_) (below_drew1 _); first | rfl | simp) | (with_reducible refine Blk.kept (Blk.newAt ?_) (below_alloc _); first | rfl | simp) | (with_reducible refine Blk.kept (Blk.kept (Blk.newAt ?_) (below_alloc _)) (below_drew1 _); first | rfl | simp))).mono ?_; rintro e v6 ⟨rfl, hm16, hbx⟩; have HMP : Hid (MsgE v6 AnyZ 2 _ pM10) := hid hm16; replace HW := hid (below_trans HW.out (below_trans (by exact blBy) hbx)); clear hm16 hbx HF10 HF11 HF13) | (have fl := HM12; clear fl; go_at_call 11; refine (inS _ 1 _ _ (CM.mk [nL 1 [2]] []) (HM12.out.kept (by exact blBy))).mono ?_; rintro e v5 ⟨ka43, va43, kc43, vc43, rfl, hf43, hbx⟩; replace HF10 := hid (HF10.out.kept (below_trans (by exact blBy) hbx)); replace HF11 := hid (HF11.out.kept (below_trans (by exact blBy) hbx)); have HF13 := hid hf43; replace HW := hid (below_trans HW.out (below_trans (by exact blBy) hbx)); clear hf43 hbx HM12) | (have fl := HF12; clear fl; go_at_call 6; refine (msgS1 _ 0 _ _ _ (nL 1 [2]) _ (HF12.out.kept (by exact blBy)) (by first | (with_reducible refine Blk.newAt ?_; first | rfl | simp) | (with_reducible refine Blk.kept (Blk.newAt ?_) (below_drew1 _); first | rfl | simp) | (with_reducible refine Blk.kept (Blk.newAt ?_) (below_alloc _); first | rfl | simp) | (with_reducible refine Blk.kept (Blk.kept (Blk.newAt ?_) (below_alloc _)) (below_drew1 _); first | rfl | simp))).mono ?_; rintro e v4 ⟨rfl, hm42, hbx⟩; replace HF10 := hid (HF10.out.kept (below_trans (by exact blBy) hbx)); replace HF11 := hid (HF11.out.kept (below_trans (by exact blBy) hbx)); have HM12 := hid hm42; replace HW := hid (below_trans HW.out (below_trans (by exact blBy) hbx)); clear hm42 hbx HF12) | (have fl := HF11; clear fl; go_at_call 7; refine (nS _ 0 1 2 (by omega) (by omega) _ (by first | (have fl := BP; clear fl; exact BP.out.kept (by exact blBy)) | (first | (with_reducible refine Blk.newAt ?_; first | rfl | simp) | (with_reducible refine Blk.kept (Blk.newAt ?_) (below_drew1 _); first | rfl | simp)))).mono ?_; rintro e v3 ⟨ka42, va42, kc42, vc42, rfl, hf42, hbx⟩; replace HF10 := hid (HF10.out.kept (below_trans (by exact blBy) hbx)); replace HF11 := hid (HF11.out.kept (below_trans (by exact blBy) hbx)); have HF12 := hid hf42; replace HW := hid (below_trans HW.out (below_trans (by exact blBy) hbx)); clear hf42 hbx ) | (have fl := HF10; clear fl; go_at_call 7; refine (nS0 _ 1 2 (by omega)).mono ?_; rintro e v2 ⟨ka41, va41, kc41, vc41, rfl, hf41, hbx⟩; replace HF10 := hid (HF10.out.kept (below_trans (by exact blBy) hbx)); (first | (have fl := BP; clear fl; replace BP := hid (BP.out.kept (below_trans (by exact blBy) hbx))) | (have BP : Hid (Blk v2 (v1.heap.size) 3 #[.int .i64 2]) := hid (Blk.kept (by (first | (with_reducible refine Blk.newAt ?_; first | rfl | simp) | (with_reducible refine Blk.kept (Blk.newAt ?_) (below_drew1 _); first | rfl | simp))) hbx)) | skip); have HF11 := hid hf41; replace HW := hid (below_trans HW.out (below_trans (by exact blBy) hbx)); clear hf41 hbx) | (go_at_call 7; refine (nS _ 1 1 1 (by omega) (by omega) _ (by first | (with_reducible refine Blk.newAt ?_; first | rfl | simp) | (with_reducible refine Blk.kept (Blk.newAt ?_) (below_drew1 _); first | rfl | simp) | (with_reducible refine Blk.kept (Blk.newAt ?_) (below_alloc _); first | rfl | simp) | (with_reducible refine Blk.kept (Blk.kept (Blk.newAt ?_) (below_alloc _)) (below_drew1 _); first | rfl | simp))).mono ?_; rintro e v1 ⟨ka40, va40, kc40, vc40, rfl, hf40, hbx⟩; (first | (have BP : Hid (Blk v1 (wD.heap.size) 3 #[.int .i64 2]) := hid (Blk.kept (by (first | (with_reducible refine Blk.kept (Blk.newAt ?_) (below_alloc _); first | rfl | simp) | (with_reducible refine Blk.kept (Blk.kept (Blk.newAt ?_) (below_alloc _)) (below_drew1 _); first | rfl | simp))) hbx)) | (have BP : Hid (Blk v1 (wD.heap.size + 1) 3 #[.int .i64 2]) := hid (Blk.kept (by (first | (with_reducible refine Blk.newAt ?_; first | rfl | simp) | (with_reducible refine Blk.kept (Blk.newAt ?_) (below_drew1 _); first | rfl | simp))) hbx)) | skip); have HF10 := hid hf40; replace HW := hid (below_trans HW.out (below_trans (by exact blBy) hbx)); clear hf40 hbx ))
    all_goals go_wp2_with fail
    all_goals go_meet
    all_goals exact ⟨pb, pq, pc, rfl, rfl, HPT, HW⟩
  case rest =>
    rename_i aX
    obtain ⟨pb, pq, pc, rfl, rfl, HPT, HWc⟩ := hcut
    replace HB : Hid (Below w.heap.size w wc) := hid (bl_then HB.out HWc.out)
    replace HS := hid (HS.out.kept HWc.out)
    replace HK := hid (HK.out.kept HWc.out)
    replace HD := hid (HD.out.kept HWc.out)
    replace Bt := hid (Bt.out.kept HWc.out)
    replace Bk := hid (Bk.out.kept HWc.out)
    replace Bd := hid (Bd.out.kept HWc.out)
    clear HWc HSF HW
    exact aX _ _ (mk16W w wc a4 c4 a5 c5 b4 d4 b5 d5 pk pd pb pq pc HB HK HD Bk Bd HPT _ _ _ _ _ _ _ _ _ _ _ _ _ _ _ _ _ _ _ _ _ _ _ _ _ _ _ _ _ _ _ _ _ _ _ _ _ _ _ _ _ _ _ _ _ _ _ _ _ _ _ _ _ _ _ _ _ _ _ _ _ _ _ _ _ _ _ _ _ _ _ _ _ _ _ _ _ _ _ _ _ _ _ _ _ _ _ _ _ _ _ _ _ _ _ _ _ _ _ _ _ _ _ _ _ _ _ _ _ _ _ _ _ _ _ _ _ _ _ _ _ _ _ _ _ _ _ _ _ _ _ _ _ _ _ _ _ _ _ _ _ _ _ _ _ _ _ _ _ _ _ _ _ _ _ _ _ _ _ _ _ _ _ _ _ _ _ _ _ _ _ _ _ _ _ _ _ _ _ _ _ _ _ _ _ _ _ _ _ _ _ _ _ _ _ _ _ _ _)
end Go.Proofs.YtkifjpaoncjokaaGreatDoor
namespace Go.Proofs.YtkifjpaoncjokaaGreatDoor
open Go.RowKit
set_option maxRecDepth 1000000
set_option linter.unusedVariables false
set_option linter.unusedSimpArgs false
set_option maxHeartbeats 40000000
theorem mergeKnownW (w : World) (mx : Int) (hm0 : w.cell? ⟨0, 0, none⟩ = some (.int .i64 mx)) : Calls Tryz.prog 3 #[] w fun e w' => e = .returned (.bool true) ∧ Below w.heap.size w w' := by
  have HM := hid hm0
  have HB : Hid (Below w.heap.size w w) := hid (Below.refl _ _)
  clear hm0
  go_enter Tryz.func3, Tryz.ntmps3
  go_wp2_with fail
  refine (simpleS _ mx (cell_below HM.out (by have := HB.out; exact blBy))).mono ?_
  rintro e w1 ⟨ta, tn, rfl, hs, hbx⟩
  replace HB : Hid (Below w.heap.size w w1) := hid (bl_then (by have := HB.out; exact blBy) hbx)
  have HS := hid hs
  clear hbx hs
  go_wp2_with fail
  refine (nS _ 0 1 1 (by omega) (by omega) _ (by first | exact Blk.new _ _ _ | exact Blk.newAt (by simp) | exact (Blk.new _ _ _).kept (below_alloc _) | exact (Blk.newAt (by simp)).kept (below_alloc _))).mono ?_
  rintro e w2 ⟨ka1, va1, kc1, vc1, rfl, hf1, hbx⟩
  replace HB : Hid (Below w.heap.size w w2) := hid (bl_then (by have := HB.out; exact blBy) hbx)
  replace HS := hid (HS.out.kept (below_trans (by exact blBy) hbx))
  have HF1 := hid hf1
  have Bt : Hid (Blk w2 (w1.heap.size) 24 #[.slice ta tn 2]) := hid (Blk.kept (by first | exact Blk.new _ _ _ | exact Blk.newAt (by simp) | exact (Blk.new _ _ _).kept (below_alloc _) | exact (Blk.newAt (by simp)).kept (below_alloc _)) hbx)
  clear hbx hf1
  generalize w1.heap.size = pt at *
  have xt := Bt.out.cellF
  have zt := Bt.out.lt
  go_wp2_with fail
  refine (msgS1 _ 0 _ _ _ _ _ (HF1.out.kept (by exact blBy)) (by first | exact Blk.new _ _ _ | exact Blk.newAt (by simp) | exact (Blk.new _ _ _).kept (below_alloc _) | exact (Blk.newAt (by simp)).kept (below_alloc _))).mono ?_
  rintro e w3 ⟨rfl, hm1, hbx⟩
  clear xt zt
  replace HB : Hid (Below w.heap.size w w3) := hid (bl_then (by have := HB.out; exact blBy) hbx)
  replace HS := hid (HS.out.kept (below_trans (by exact blBy) hbx))
  replace HF1 := hid (HF1.out.kept (below_trans (by exact blBy) hbx))
  replace Bt := hid (Bt.out.kept (below_trans (by exact blBy) hbx))
  have HM1 := hid hm1
  clear hbx hm1
  generalize w2.heap.size = q1 at *
  have xt := Bt.out.cellF
  have zt := Bt.out.lt
  clear HF1
  go_wp2_with fail
  refine (defS3 _ _ _ 2 mx (HS.out.kept (by exact blBy))).mono ?_
  rintro e w4 ⟨ba, bc, dp, dq, mc, xa, ya, xc, yc, rfl, hd, hbx⟩
  clear xt zt
  replace HB : Hid (Below w.heap.size w w4) := hid (bl_then (by have := HB.out; exact blBy) hbx)
  replace HS := hid (HS.out.kept (below_trans (by exact blBy) hbx))
  replace HM1 := hid (HM1.out.kept (below_trans (by exact blBy) hbx))
  replace Bt := hid (Bt.out.kept (below_trans (by exact blBy) hbx))
  have HD := hid hd
  have Bo : Hid (Blk w4 (w3.heap.size) 29 #[.slice (some ⟨q1, 0, none⟩) 1 1, .slice none 0 0]) := hid (Blk.kept (by first | exact Blk.new _ _ _ | exact Blk.newAt (by simp) | exact (Blk.new _ _ _).kept (below_alloc _) | exact (Blk.newAt (by simp)).kept (below_alloc _)) hbx)
  clear hbx hd
  generalize w3.heap.size = po at *
  have xt := Bt.out.cellF
  have zt := Bt.out.lt
  have xo := Bo.out.cellF
  have zo := Bo.out.lt
  go_wp2_with fail
  refine (defS9 _ _ _ 2 mx (HS.out.kept (by exact blBy))).mono ?_
  rintro e w5 ⟨n9, b9, m9, bl9, bc9, ml9, mc9, rfl, hbx⟩
  clear xt zt xo zo
  replace HB : Hid (Below w.heap.size w w5) := hid (bl_then (by have := HB.out; exact blBy) hbx)
  replace HS := hid (HS.out.kept (below_trans (by exact blBy) hbx))
  replace HM1 := hid (HM1.out.kept (below_trans (by exact blBy) hbx))
  replace HD := hid (HD.out.kept (below_trans (by exact blBy) hbx))
  replace Bt := hid (Bt.out.kept (below_trans (by exact blBy) hbx))
  replace Bo := hid (Bo.out.kept (below_trans (by exact blBy) hbx))
  have Bv : Hid (Blk w5 (w4.heap.size) 39 #[.int .u64 0, .slice ba 0 bc, .slice (some ⟨dp, dq, none⟩) 1 mc]) := hid (Blk.kept (by first | exact Blk.new _ _ _ | exact Blk.newAt (by simp) | exact (Blk.new _ _ _).kept (below_alloc _) | exact (Blk.newAt (by simp)).kept (below_alloc _)) hbx)
  clear hbx 
  generalize w4.heap.size = pv at *
  have xt := Bt.out.cellF
  have zt := Bt.out.lt
  have xo := Bo.out.cellF
  have zo := Bo.out.lt
  have xv := Bv.out.cellF
  have zv := Bv.out.lt
  go_wp2_with fail
  refine (awake10 _ mx (cell_below HM.out (by have := HB.out; exact blBy))).mono ?_
  rintro e w6 ⟨rfl, hbx⟩
  clear xt zt xo zo xv zv
  replace HB : Hid (Below w.heap.size w w6) := hid (bl_then (by have := HB.out; exact blBy) hbx)
  replace HS := hid (HS.out.kept (below_trans (by exact blBy) hbx))
  replace HM1 := hid (HM1.out.kept (below_trans (by exact blBy) hbx))
  replace HD := hid (HD.out.kept (below_trans (by exact blBy) hbx))
  replace Bt := hid (Bt.out.kept (below_trans (by exact blBy) hbx))
  replace Bo := hid (Bo.out.kept (below_trans (by exact blBy) hbx))
  replace Bv := hid (Bv.out.kept (below_trans (by exact blBy) hbx))
  clear hbx 
  have xt := Bt.out.cellF
  have zt := Bt.out.lt
  have xo := Bo.out.cellF
  have zo := Bo.out.lt
  have xv := Bv.out.cellF
  have zv := Bv.out.lt
  go_wp2_with fail
  refine (inS _ 1 (.slice (some ⟨q1, 0, none⟩) 1 1) (.slice none 0 0) oneM (HM1.out.kept (by exact blBy))).mono ?_
  rintro e w7 ⟨ka2, va2, kc2, vc2, rfl, hf2, hbx⟩
  clear xt zt xo zo xv zv
  replace HB : Hid (Below w.heap.size w w7) := hid (bl_then (by have := HB.out; exact blBy) hbx)
  replace HS := hid (HS.out.kept (below_trans (by exact blBy) hbx))
  replace HM1 := hid (HM1.out.kept (below_trans (by exact blBy) hbx))
  replace HD := hid (HD.out.kept (below_trans (by exact blBy) hbx))
  replace Bt := hid (Bt.out.kept (below_trans (by exact blBy) hbx))
  replace Bo := hid (Bo.out.kept (below_trans (by exact blBy) hbx))
  replace Bv := hid (Bv.out.kept (below_trans (by exact blBy) hbx))
  have HF2 := hid hf2
  clear hbx hf2
  have xt := Bt.out.cellF
  have zt := Bt.out.lt
  have xo := Bo.out.cellF
  have zo := Bo.out.lt
  have xv := Bv.out.cellF
  have zv := Bv.out.lt
  go_wp2_with fail
  refine (msgS1 _ 1 _ _ _ _ _ (HF2.out.kept (by exact blBy)) (by first | exact Blk.new _ _ _ | exact Blk.newAt (by simp) | exact (Blk.new _ _ _).kept (below_alloc _) | exact (Blk.newAt (by simp)).kept (below_alloc _))).mono ?_
  rintro e w8 ⟨rfl, hm2, hbx⟩
  clear xt zt xo zo xv zv
  replace HB : Hid (Below w.heap.size w w8) := hid (bl_then (by have := HB.out; exact blBy) hbx)
  replace HS := hid (HS.out.kept (below_trans (by exact blBy) hbx))
  replace HM1 := hid (HM1.out.kept (below_trans (by exact blBy) hbx))
  replace HD := hid (HD.out.kept (below_trans (by exact blBy) hbx))
  replace HF2 := hid (HF2.out.kept (below_trans (by exact blBy) hbx))
  replace Bt := hid (Bt.out.kept (below_trans (by exact blBy) hbx))
  replace Bo := hid (Bo.out.kept (below_trans (by exact blBy) hbx))
  replace Bv := hid (Bv.out.kept (below_trans (by exact blBy) hbx))
  have HMA := hid hm2
  clear hbx hm2
  generalize w7.heap.size = q2 at *
  have xt := Bt.out.cellF
  have zt := Bt.out.lt
  have xo := Bo.out.cellF
  have zo := Bo.out.lt
  have xv := Bv.out.cellF
  have zv := Bv.out.lt
  clear HF2
  go_wp2_with fail
  refine (nS _ 0 2 1 (by omega) (by omega) _ (by first | exact Blk.new _ _ _ | exact Blk.newAt (by simp) | exact (Blk.new _ _ _).kept (below_alloc _) | exact (Blk.newAt (by simp)).kept (below_alloc _))).mono ?_
  rintro e w9 ⟨ka3, va3, kc3, vc3, rfl, hf3, hbx⟩
  clear xt zt xo zo xv zv
  replace HB : Hid (Below w.heap.size w w9) := hid (bl_then (by have := HB.out; exact blBy) hbx)
  replace HS := hid (HS.out.kept (below_trans (by exact blBy) hbx))
  replace HM1 := hid (HM1.out.kept (below_trans (by exact blBy) hbx))
  replace HD := hid (HD.out.kept (below_trans (by exact blBy) hbx))
  replace HMA := hid (HMA.out.kept (below_trans (by exact blBy) hbx))
  replace Bt := hid (Bt.out.kept (below_trans (by exact blBy) hbx))
  replace Bo := hid (Bo.out.kept (below_trans (by exact blBy) hbx))
  replace Bv := hid (Bv.out.kept (below_trans (by exact blBy) hbx))
  have HF3 := hid hf3
  clear hbx hf3
  have xt := Bt.out.cellF
  have zt := Bt.out.lt
  have xo := Bo.out.cellF
  have zo := Bo.out.lt
  have xv := Bv.out.cellF
  have zv := Bv.out.lt
  go_wp2_with fail
  refine (msgS1 _ 0 _ _ _ _ _ (HF3.out.kept (by exact blBy)) (by first | exact Blk.new _ _ _ | exact Blk.newAt (by simp) | exact (Blk.new _ _ _).kept (below_alloc _) | exact (Blk.newAt (by simp)).kept (below_alloc _))).mono ?_
  rintro e w10 ⟨rfl, hm3, hbx⟩
  clear xt zt xo zo xv zv
  replace HB : Hid (Below w.heap.size w w10) := hid (bl_then (by have := HB.out; exact blBy) hbx)
  replace HS := hid (HS.out.kept (below_trans (by exact blBy) hbx))
  replace HM1 := hid (HM1.out.kept (below_trans (by exact blBy) hbx))
  replace HD := hid (HD.out.kept (below_trans (by exact blBy) hbx))
  replace HMA := hid (HMA.out.kept (below_trans (by exact blBy) hbx))
  replace HF3 := hid (HF3.out.kept (below_trans (by exact blBy) hbx))
  replace Bt := hid (Bt.out.kept (below_trans (by exact blBy) hbx))
  replace Bo := hid (Bo.out.kept (below_trans (by exact blBy) hbx))
  replace Bv := hid (Bv.out.kept (below_trans (by exact blBy) hbx))
  have HM3 := hid hm3
  clear hbx hm3
  generalize w9.heap.size = q3 at *
  have xt := Bt.out.cellF
  have zt := Bt.out.lt
  have xo := Bo.out.cellF
  have zo := Bo.out.lt
  have xv := Bv.out.cellF
  have zv := Bv.out.lt
  clear HF3
  go_wp2_with fail
  refine (inS _ 1 (.slice (some ⟨q3, 0, none⟩) 1 1) (.slice none 0 0) _ (HM3.out.kept (by exact blBy))).mono ?_
  rintro e w11 ⟨ka4, va4, kc4, vc4, rfl, hf4, hbx⟩
  clear xt zt xo zo xv zv
  replace HB : Hid (Below w.heap.size w w11) := hid (bl_then (by have := HB.out; exact blBy) hbx)
  replace HS := hid (HS.out.kept (below_trans (by exact blBy) hbx))
  replace HM1 := hid (HM1.out.kept (below_trans (by exact blBy) hbx))
  replace HD := hid (HD.out.kept (below_trans (by exact blBy) hbx))
  replace HMA := hid (HMA.out.kept (below_trans (by exact blBy) hbx))
  replace HM3 := hid (HM3.out.kept (below_trans (by exact blBy) hbx))
  replace Bt := hid (Bt.out.kept (below_trans (by exact blBy) hbx))
  replace Bo := hid (Bo.out.kept (below_trans (by exact blBy) hbx))
  replace Bv := hid (Bv.out.kept (below_trans (by exact blBy) hbx))
  have HF4 := hid hf4
  clear hbx hf4
  have xt := Bt.out.cellF
  have zt := Bt.out.lt
  have xo := Bo.out.cellF
  have zo := Bo.out.lt
  have xv := Bv.out.cellF
  have zv := Bv.out.lt
  clear HM3
  go_wp2_with fail
  refine (msgS1 _ 1 _ _ _ _ _ (HF4.out.kept (by exact blBy)) (by first | exact Blk.new _ _ _ | exact Blk.newAt (by simp) | exact (Blk.new _ _ _).kept (below_alloc _) | exact (Blk.newAt (by simp)).kept (below_alloc _))).mono ?_
  rintro e w12 ⟨rfl, hm4, hbx⟩
  clear xt zt xo zo xv zv
  replace HB : Hid (Below w.heap.size w w12) := hid (bl_then (by have := HB.out; exact blBy) hbx)
  replace HS := hid (HS.out.kept (below_trans (by exact blBy) hbx))
  replace HM1 := hid (HM1.out.kept (below_trans (by exact blBy) hbx))
  replace HD := hid (HD.out.kept (below_trans (by exact blBy) hbx))
  replace HMA := hid (HMA.out.kept (below_trans (by exact blBy) hbx))
  replace HF4 := hid (HF4.out.kept (below_trans (by exact blBy) hbx))
  replace Bt := hid (Bt.out.kept (below_trans (by exact blBy) hbx))
  replace Bo := hid (Bo.out.kept (below_trans (by exact blBy) hbx))
  replace Bv := hid (Bv.out.kept (below_trans (by exact blBy) hbx))
  have HMB := hid hm4
  clear hbx hm4
  generalize w11.heap.size = q4 at *
  have xt := Bt.out.cellF
  have zt := Bt.out.lt
  have xo := Bo.out.cellF
  have zo := Bo.out.lt
  have xv := Bv.out.cellF
  have zv := Bv.out.lt
  clear HF4
  go_wp2_with fail
  refine (nS _ 0 1 1 (by omega) (by omega) _ (by first | exact Blk.new _ _ _ | exact Blk.newAt (by simp) | exact (Blk.new _ _ _).kept (below_alloc _) | exact (Blk.newAt (by simp)).kept (below_alloc _))).mono ?_
  rintro e w13 ⟨ka5, va5, kc5, vc5, rfl, hf5, hbx⟩
  clear xt zt xo zo xv zv
  replace HB : Hid (Below w.heap.size w w13) := hid (bl_then (by have := HB.out; exact blBy) hbx)
  replace HS := hid (HS.out.kept (below_trans (by exact blBy) hbx))
  replace HM1 := hid (HM1.out.kept (below_trans (by exact blBy) hbx))
  replace HD := hid (HD.out.kept (below_trans (by exact blBy) hbx))
  replace HMA := hid (HMA.out.kept (below_trans (by exact blBy) hbx))
  replace HMB := hid (HMB.out.kept (below_trans (by exact blBy) hbx))
  replace Bt := hid (Bt.out.kept (below_trans (by exact blBy) hbx))
  replace Bo := hid (Bo.out.kept (below_trans (by exact blBy) hbx))
  replace Bv := hid (Bv.out.kept (below_trans (by exact blBy) hbx))
  have HF5 := hid hf5
  clear hbx hf5
  have xt := Bt.out.cellF
  have zt := Bt.out.lt
  have xo := Bo.out.cellF
  have zo := Bo.out.lt
  have xv := Bv.out.cellF
  have zv := Bv.out.lt
  go_wp2_with fail
  refine (nS _ 0 2 1 (by omega) (by omega) _ (by first | exact Blk.new _ _ _ | exact Blk.newAt (by simp) | exact (Blk.new _ _ _).kept (below_alloc _) | exact (Blk.newAt (by simp)).kept (below_alloc _))).mono ?_
  rintro e w14 ⟨ka6, va6, kc6, vc6, rfl, hf6, hbx⟩
  clear xt zt xo zo xv zv
  replace HB : Hid (Below w.heap.size w w14) := hid (bl_then (by have := HB.out; exact blBy) hbx)
  replace HS := hid (HS.out.kept (below_trans (by exact blBy) hbx))
  replace HM1 := hid (HM1.out.kept (below_trans (by exact blBy) hbx))
  replace HD := hid (HD.out.kept (below_trans (by exact blBy) hbx))
  replace HMA := hid (HMA.out.kept (below_trans (by exact blBy) hbx))
  replace HMB := hid (HMB.out.kept (below_trans (by exact blBy) hbx))
  replace HF5 := hid (HF5.out.kept (below_trans (by exact blBy) hbx))
  replace Bt := hid (Bt.out.kept (below_trans (by exact blBy) hbx))
  replace Bo := hid (Bo.out.kept (below_trans (by exact blBy) hbx))
  replace Bv := hid (Bv.out.kept (below_trans (by exact blBy) hbx))
  have HF6 := hid hf6
  clear hbx hf6
  have xt := Bt.out.cellF
  have zt := Bt.out.lt
  have xo := Bo.out.cellF
  have zo := Bo.out.lt
  have xv := Bv.out.cellF
  have zv := Bv.out.lt
  go_wp2_with fail
  refine (msgS2 _ 0 _ _ _ _ _ _ _ _ _ (HF5.out.kept (by exact blBy)) (HF6.out.kept (by exact blBy)) (by first | exact Blk.new _ _ _ | exact Blk.newAt (by simp) | exact (Blk.new _ _ _).kept (below_alloc _) | exact (Blk.newAt (by simp)).kept (below_alloc _))).mono ?_
  rintro e w15 ⟨rfl, hm6, hbx⟩
  clear xt zt xo zo xv zv
  replace HB : Hid (Below w.heap.size w w15) := hid (bl_then (by have := HB.out; exact blBy) hbx)
  replace HS := hid (HS.out.kept (below_trans (by exact blBy) hbx))
  replace HM1 := hid (HM1.out.kept (below_trans (by exact blBy) hbx))
  replace HD := hid (HD.out.kept (below_trans (by exact blBy) hbx))
  replace HMA := hid (HMA.out.kept (below_trans (by exact blBy) hbx))
  replace HMB := hid (HMB.out.kept (below_trans (by exact blBy) hbx))
  replace HF5 := hid (HF5.out.kept (below_trans (by exact blBy) hbx))
  replace HF6 := hid (HF6.out.kept (below_trans (by exact blBy) hbx))
  replace Bt := hid (Bt.out.kept (below_trans (by exact blBy) hbx))
  replace Bo := hid (Bo.out.kept (below_trans (by exact blBy) hbx))
  replace Bv := hid (Bv.out.kept (below_trans (by exact blBy) hbx))
  have HM6 := hid hm6
  clear hbx hm6
  generalize w14.heap.size = q6 at *
  have xt := Bt.out.cellF
  have zt := Bt.out.lt
  have xo := Bo.out.cellF
  have zo := Bo.out.lt
  have xv := Bv.out.cellF
  have zv := Bv.out.lt
  clear HF5 HF6
  go_wp2_with fail
  refine (inS _ 1 (.slice (some ⟨q6, 0, none⟩) 2 2) (.slice none 0 0) _ (HM6.out.kept (by exact blBy))).mono ?_
  rintro e w16 ⟨ka7, va7, kc7, vc7, rfl, hf7, hbx⟩
  clear xt zt xo zo xv zv
  replace HB : Hid (Below w.heap.size w w16) := hid (bl_then (by have := HB.out; exact blBy) hbx)
  replace HS := hid (HS.out.kept (below_trans (by exact blBy) hbx))
  replace HM1 := hid (HM1.out.kept (below_trans (by exact blBy) hbx))
  replace HD := hid (HD.out.kept (below_trans (by exact blBy) hbx))
  replace HMA := hid (HMA.out.kept (below_trans (by exact blBy) hbx))
  replace HMB := hid (HMB.out.kept (below_trans (by exact blBy) hbx))
  replace HM6 := hid (HM6.out.kept (below_trans (by exact blBy) hbx))
  replace Bt := hid (Bt.out.kept (below_trans (by exact blBy) hbx))
  replace Bo := hid (Bo.out.kept (below_trans (by exact blBy) hbx))
  replace Bv := hid (Bv.out.kept (below_trans (by exact blBy) hbx))
  have HF7 := hid hf7
  clear hbx hf7
  have xt := Bt.out.cellF
  have zt := Bt.out.lt
  have xo := Bo.out.cellF
  have zo := Bo.out.lt
  have xv := Bv.out.cellF
  have zv := Bv.out.lt
  clear HM6
  go_wp2_with fail
  refine (msgS1 _ 1 _ _ _ _ _ (HF7.out.kept (by exact blBy)) (by first | exact Blk.new _ _ _ | exact Blk.newAt (by simp) | exact (Blk.new _ _ _).kept (below_alloc _) | exact (Blk.newAt (by simp)).kept (below_alloc _))).mono ?_
  rintro e w17 ⟨rfl, hm7, hbx⟩
  clear xt zt xo zo xv zv
  replace HB : Hid (Below w.heap.size w w17) := hid (bl_then (by have := HB.out; exact blBy) hbx)
  replace HS := hid (HS.out.kept (below_trans (by exact blBy) hbx))
  replace HM1 := hid (HM1.out.kept (below_trans (by exact blBy) hbx))
  replace HD := hid (HD.out.kept (below_trans (by exact blBy) hbx))
  replace HMA := hid (HMA.out.kept (below_trans (by exact blBy) hbx))
  replace HMB := hid (HMB.out.kept (below_trans (by exact blBy) hbx))
  replace HF7 := hid (HF7.out.kept (below_trans (by exact blBy) hbx))
  replace Bt := hid (Bt.out.kept (below_trans (by exact blBy) hbx))
  replace Bo := hid (Bo.out.kept (below_trans (by exact blBy) hbx))
  replace Bv := hid (Bv.out.kept (below_trans (by exact blBy) hbx))
  have HMC := hid hm7
  clear hbx hm7
  generalize w16.heap.size = q7 at *
  have xt := Bt.out.cellF
  have zt := Bt.out.lt
  have xo := Bo.out.cellF
  have zo := Bo.out.lt
  have xv := Bv.out.cellF
  have zv := Bv.out.lt
  clear HF7
  go_wp2_with fail
  refine (mergedLW _ mx (cell_below HM.out (by have := HB.out; exact blBy)) AnyZ 2 [.slice (some ⟨q2, 0, none⟩) 1 1, .slice none 0 0] [.slice (some ⟨q4, 0, none⟩) 1 1, .slice none 0 0] [.slice (some ⟨q7, 0, none⟩) 1 1, .slice none 0 0] mAM mBM mCM (HMA.out.kept (by exact blBy)) (HMB.out.kept (by exact blBy)) (HMC.out.kept (by exact blBy)) kA kB 9 9 sA10 sB10 (by omega) mergC).mono ?_
  rintro e w18 ⟨rfl, hbx⟩
  clear xt zt xo zo xv zv
  replace HB : Hid (Below w.heap.size w w18) := hid (bl_then (by have := HB.out; exact blBy) hbx)
  replace HS := hid (HS.out.kept (below_trans (by exact blBy) hbx))
  replace HM1 := hid (HM1.out.kept (below_trans (by exact blBy) hbx))
  replace HD := hid (HD.out.kept (below_trans (by exact blBy) hbx))
  replace HMA := hid (HMA.out.kept (below_trans (by exact blBy) hbx))
  replace HMB := hid (HMB.out.kept (below_trans (by exact blBy) hbx))
  replace HMC := hid (HMC.out.kept (below_trans (by exact blBy) hbx))
  replace Bt := hid (Bt.out.kept (below_trans (by exact blBy) hbx))
  replace Bo := hid (Bo.out.kept (below_trans (by exact blBy) hbx))
  replace Bv := hid (Bv.out.kept (below_trans (by exact blBy) hbx))
  clear hbx 
  have xt := Bt.out.cellF
  have zt := Bt.out.lt
  have xo := Bo.out.cellF
  have zo := Bo.out.lt
  have xv := Bv.out.cellF
  have zv := Bv.out.lt
  clear HMA HMB HMC
  obtain ⟨dc0, dc1, dc2⟩ := HD.out
  have hdp : dp < w18.heap.size := World.block_lt_of_cell? _ _ dc0
  go_wp2_with fail
  refine (emptyS (HD.out.kept (by exact blBy)).2.2).mono ?_
  rintro e w19 ⟨rfl, hbx⟩
  clear xt zt xo zo xv zv
  replace HB : Hid (Below w.heap.size w w19) := hid (bl_then (by have := HB.out; exact blBy) hbx)
  replace HS := hid (HS.out.kept (below_trans (by exact blBy) hbx))
  replace HM1 := hid (HM1.out.kept (below_trans (by exact blBy) hbx))
  replace HD := hid (HD.out.kept (below_trans (by exact blBy) hbx))
  replace Bt := hid (Bt.out.kept (below_trans (by exact blBy) hbx))
  replace Bo := hid (Bo.out.kept (below_trans (by exact blBy) hbx))
  replace Bv := hid (Bv.out.kept (below_trans (by exact blBy) hbx))
  clear hbx 
  have xt := Bt.out.cellF
  have zt := Bt.out.lt
  have xo := Bo.out.cellF
  have zo := Bo.out.lt
  have xv := Bv.out.cellF
  have zv := Bv.out.lt
  clear dc0 dc1 dc2 hdp HD
  clear Bv xv zv
  go_upto_region 7 with fail
  have HW : Hid (Below w19.heap.size w19 w19) := hid (Below.refl _ _)
  have HSF : Hid (∀ W, Below w19.heap.size w19 W → W.cell? ⟨pt, 0, none⟩ = some (.slice ta tn 2) ∧ W.cell? ⟨po, 0, none⟩ = some (.slice (some ⟨q1, 0, none⟩) 1 1) ∧ W.cell? ⟨po, 1, none⟩ = some (.slice none 0 0)) := hid (fun W hW => ⟨(Bt.out.kept hW).cell 0 _ rfl, (Bo.out.kept hW).cell 0 _ rfl, (Bo.out.kept hW).cell 1 _ rfl⟩)
  clear xt zt xo zo
  go_cut [4, 7] from 14 to 85 (fun s4 s7 wc => ∃ (Q : Nat) (a1 c1 : Option Addr) (b1 d1 : Nat), s4 = .int .i64 0 ∧ s7 = .pointer (some ⟨Q, 0, none⟩) ∧ Hid (Blk wc Q 33 #[.int .i64 1, .slice a1 0 b1, .slice c1 1 d1]) ∧ Hid (FmF 1 wc AnyZ [.int .i64 1, .slice a1 0 b1, .slice c1 1 d1] (nL 1 [1])) ∧ Hid (Below w19.heap.size w19 wc))
  case first =>
    go_region_held3 (fun W => W.cell? ⟨pt, 0, none⟩ = some (.slice ta tn 2) ∧ W.cell? ⟨po, 0, none⟩ = some (.slice (some ⟨q1, 0, none⟩) 1 1) ∧ W.cell? ⟨po, 1, none⟩ = some (.slice none 0 0)) (exact HSF.out _ (by have := HW.out; exact blBy)) (first | (go_at_call 11; refine (inS _ 1 (.slice (some ⟨q1, 0, none⟩) 1 1) (.slice none 0 0) oneM (HM1.out.kept (by have := HW.out; exact blBy))).mono ?_; rintro e u1 ⟨ka2, va2, kc2, vc2, rfl, hf2, hbx⟩; have HF2 := hid hf2; (first | (replace BK := hid (BK.out.kept (below_trans (by exact blBy) hbx)); replace xk := BK.out.cellF; replace yk := BK.out.frz; replace zk := BK.out.lt) | (have BK : Hid (Blk u1 (w19.heap.size) 33 #[.int .i64 0, .slice none 0 0, .slice none 0 0]) := hid (Blk.kept (by with_reducible first | exact Blk.new _ _ _ | exact (Blk.new _ _ _).kept (below_drew1 _) | exact Blk.newAt (by simp)) hbx); have hq9 : w19.heap.size ≤ w19.heap.size := (by have := HW.out.size; omega); have xk := BK.out.cellF; have yk := BK.out.frz; have zk := BK.out.lt) | skip); replace HW := hid (below_trans HW.out (below_trans (by exact blBy) hbx)); clear hf2 hbx) | (go_at_call 6; refine (msgS1 _ 1 _ _ _ (arM 3 oneM) _ (HF2.out.kept (by exact blBy)) (by first | exact Blk.new _ _ _ | exact Blk.newAt (by simp) | exact (Blk.new _ _ _).kept (below_alloc _) | exact (Blk.newAt (by simp)).kept (below_alloc _))).mono ?_; rintro e u2 ⟨rfl, hm2, hbx⟩; have HMA : Hid (MsgE u2 AnyZ 2 _ mAM) := hid hm2; (first | (replace BK := hid (BK.out.kept (below_trans (by exact blBy) hbx)); replace xk := BK.out.cellF; replace yk := BK.out.frz; replace zk := BK.out.lt) | (have BK : Hid (Blk u2 (u1.heap.size) 33 #[.int .i64 0, .slice none 0 0, .slice none 0 0]) := hid (Blk.kept (by with_reducible exact (Blk.new _ _ _).kept (below_alloc _)) hbx); have hq9 : w19.heap.size ≤ u1.heap.size := (by have := HW.out.size; omega); have xk := BK.out.cellF; have yk := BK.out.frz; have zk := BK.out.lt) | (have BK : Hid (Blk u2 (u1.heap.size + 1) 33 #[.int .i64 0, .slice none 0 0, .slice none 0 0]) := hid (Blk.kept (by with_reducible exact Blk.newAt (by simp)) hbx); have hq9 : w19.heap.size ≤ u1.heap.size + 1 := (by have := HW.out.size; omega); have xk := BK.out.cellF; have yk := BK.out.frz; have zk := BK.out.lt) | skip); replace HW := hid (below_trans HW.out (below_trans (by exact blBy) hbx)); clear hm2 hbx) | (go_at_call 13; (try have hk9 := BK.out.lt); refine (valA1 _ _ _ mx (HS.out.kept (by have := HW.out; exact blBy)) _ _ (HMA.out.kept (by exact blBy))).mono ?_; rintro e u3 ⟨a1, c1, b1, d1, rfl, hv, hbx⟩; have HV := hid hv; (first | (replace BK := hid (BK.out.kept (below_trans (by exact blBy) hbx)); replace xk := BK.out.cellF; replace yk := BK.out.frz; replace zk := BK.out.lt) | (have BK : Hid (Blk u3 (u2.heap.size) 33 #[.int .i64 0, .slice none 0 0, .slice none 0 0]) := hid (Blk.kept (by with_reducible exact Blk.new _ _ _) hbx); have hq9 : w19.heap.size ≤ u2.heap.size := (by have := HW.out.size; omega); have xk := BK.out.cellF; have yk := BK.out.frz; have zk := BK.out.lt) | skip); replace HW := hid (below_trans HW.out (below_trans (by exact blBy) hbx)); clear hv hbx))
    all_goals go_wp2_with fail
    all_goals go_meet
    all_goals first
      | (with_reducible exact ⟨_, a1, c1, b1, d1, rfl, rfl, hid (Blk.new _ _ _), hid (fldAny HV.out (below_alloc _)), hid (by have := HW.out; exact blBy)⟩)
      | exact ⟨_, a1, c1, b1, d1, rfl, rfl, hid BK.out.set3, hid (fmSet3 HV.out (by first | exact hk9 | (simp; done) | omega) _ _ _), hid (by have := HW.out; exact blBy)⟩
  case rest =>
    rename_i aX
    obtain ⟨Q, a1, c1, b1, d1, rfl, rfl, Bq, HV, HWc⟩ := hcut
    replace HB : Hid (Below w.heap.size w wc) := hid (bl_then HB.out HWc.out)
    replace HS := hid (HS.out.kept HWc.out)
    replace HM1 := hid (HM1.out.kept HWc.out)
    replace Bt := hid (Bt.out.kept HWc.out)
    replace Bo := hid (Bo.out.kept HWc.out)
    clear HWc HSF HW
    exact aX _ _ (mk8W w mx ta tn pt q1 po wc Q a1 c1 b1 d1 HM HB HS HM1 Bt Bo Bq HV _ _ _ _ _ _ _ _ _ _ _ _ _ _ _ _ _ _ _ _ _ _ _ _ _ _ _ _ _ _ _ _ _ _ _ _ _ _ _ _ _ _ _ _ _ _ _ _ _ _ _ _ _ _ _ _ _ _ _ _ _ _ _ _ _ _ _ _ _ _ _ _ _ _ _ _ _ _ _ _ _ _ _ _ _ _ _ _ _ _ _ _ _ _ _ _ _ _ _ _ _ _ _ _ _ _ _ _ _ _ _ _ _ _ _ _ _ _ _ _ _ _ _ _ _ _ _ _ _ _ _ _ _ _ _ _ _ _ _ _ _ _ _ _ _ _ _ _ _ _ _ _ _ _ _ _ _ _ _ _ _ _ _ _ _ _ _ _ _ _ _ _ _ _ _ _ _ _ _ _ _ _ _ _ _ _ _ _ _ _ _ _ _ _)
end Go.Proofs.YtkifjpaoncjokaaGreatDoor
