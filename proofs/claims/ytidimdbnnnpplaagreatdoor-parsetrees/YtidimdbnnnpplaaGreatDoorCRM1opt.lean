/-
  The document's member: a map's field; a field.
  The document's member: a map's field; a field.
  The document's member: a declaration.
-/
import Derived.Test.YtidimdbnnnpplaaGreatDoorCRM0
import Derived.Deep.RegionHeld3
import Derived.Test.YtidimdbnnnpplaaGreatDoorCRF
import Derived.Deep.CutRange
namespace Go.Proofs.YtidimdbnnnpplaaGreatDoor
open Go.RowKit
set_option maxRecDepth 1000000
set_option linter.unusedVariables false
set_option linter.unusedSimpArgs false
set_option maxHeartbeats 8000000
section
variable (w0 : World) (b off cap : Nat) (s : PS) (w : World) (base n : Nat)
theorem memR_opt (x : DV) (depth : Int) (hi : isM s wOptional = true) (htot : tot x.d + 3 * muM s ≤ 300000) (h : StR w0 b off cap s) (hb : Below w0.heap.size w0 w) (hw : w0.heap.size ≤ base) (hlo : base ≤ w.heap.size) (ho : OwnD w base n 78 139 74 136 126 (fun _ => False) x) : Calls Tryz.prog 47 #[.agg #[.slice (some ⟨b, off, none⟩) s.l.length cap, .int .i64 s.cd, .int .i64 0, .int .i64 s.ln, .int .i64 s.cl], .agg #[.bool x.d.enum, .string (strOfNums x.d.name), .int .i64 x.d.at1.1, .int .i64 x.d.at1.2, x.f, x.o, x.dd, x.r, x.s], .int .i64 depth] w (MemR w0 b base n ({ x.d with fields := x.d.fields ++ [(fldM (nxM s) 1 (atM (hdM s))).1] }, (fldM (nxM s) 1 (atM (hdM s))).2) w) := by
  have HH := hid hi
  have HKD : Hid ((hdM s).kind ≠ 5) := hid (by have := (is_parts hi).2.1; omega)
  clear hi
  have HN := hid (h.next HKD.out)
  have HP4 : Hid ((nxM s).l.length = s.l.length - 1) := hid (by unfold nxM; simp)
  have HPS : Hid ((1 : Int) < (s.l.length : Int) ∧ (0 : Int) < (s.l.length : Int) ∧ (cap : Int) ≤ 9223372036854775807 ∧ (1 : Int) < (cap : Int) ∧ s.l.length ≤ cap) := hid (by have h1 := HN.out.pos.1; have h2 := HP4.out; have h3 := h.pos; omega)
  obtain ⟨xd, xf, xo, xdd, xr, xs⟩ := x
  dsimp only at *
  obtain ⟨fa, fc, rfl⟩ : ∃ a c, xf = .slice a xd.fields.length c := own_shape ho.f
  obtain ⟨oa, oc, rfl⟩ : ∃ a c, xo = .slice a xd.oneofs.length c := own_shape ho.o
  obtain ⟨ra, rc, rfl⟩ : ∃ a c, xr = .slice a xd.res.length c := own_shape ho.r
  obtain ⟨ya, yc, rfl⟩ : ∃ a c, xs = .slice a xd.syms.length c := own_shape ho.s
  obtain ⟨da, dc, rfl⟩ : ∃ a c, xdd = .slice a xd.decls.length c := ho.ddS
  have HTT := hid htot
  have HLO := hid hlo
  have HB := hid hb
  have G0 := hid (Mem.start h hb hw ho hlo)
  dsimp only at G0
  clear h hb hw ho htot hlo
  go_enter Tryz.func47, Tryz.ntmps47
  go_wp2_with fail
  refine (isR w0 b off cap s _ ⟨#[109, 101, 115, 115, 97, 103, 101]⟩ wMessage rfl (by decide) G0.out.st G0.out.un).mono ?_
  rintro e w1 ⟨rfl, hb1⟩
  have G1 := hid (G0.out.kept hb1)
  have hs1 := hb1.size
  try simp at hs1
  clear hb1
  have c_s := G1.out.sb.cellF
  have f_s := G1.out.sb.frz
  have l_s := G1.out.sb.lt
  have c_d := G1.out.db.cellF
  have f_d := G1.out.db.frz
  have l_d := G1.out.db.lt
  have c_6 := G1.out.r6.cellF
  have f_6 := G1.out.r6.frz
  have l_6 := G1.out.r6.lt
  have c_7 := G1.out.r7.cellF
  have f_7 := G1.out.r7.frz
  have l_7 := G1.out.r7.lt
  rw [isR_other HH.out (by decide)]
  go_wp2_with fail
  refine (isR w0 b off cap s _ ⟨#[101, 110, 117, 109]⟩ wEnum rfl (by decide) G1.out.st G1.out.un).mono ?_
  rintro e w2 ⟨rfl, hb2⟩
  have G2 := hid (G1.out.kept hb2)
  have hs2 := hb2.size
  try simp at hs2
  clear hb2
  clear c_s f_s l_s c_d f_d l_d c_6 f_6 l_6 c_7 f_7 l_7
  have c_s := G2.out.sb.cellF
  have f_s := G2.out.sb.frz
  have l_s := G2.out.sb.lt
  have c_d := G2.out.db.cellF
  have f_d := G2.out.db.frz
  have l_d := G2.out.db.lt
  have c_6 := G2.out.r6.cellF
  have f_6 := G2.out.r6.frz
  have l_6 := G2.out.r6.lt
  have c_7 := G2.out.r7.cellF
  have f_7 := G2.out.r7.frz
  have l_7 := G2.out.r7.lt
  rw [isR_other HH.out (by decide)]
  go_wp2_with fail
  refine (isR w0 b off cap s _ ⟨#[111, 110, 101, 111, 102]⟩ wOneof rfl (by decide) G2.out.st G2.out.un).mono ?_
  rintro e w3 ⟨rfl, hb3⟩
  have G3 := hid (G2.out.kept hb3)
  have hs3 := hb3.size
  try simp at hs3
  clear hb3
  clear c_s f_s l_s c_d f_d l_d c_6 f_6 l_6 c_7 f_7 l_7
  have c_s := G3.out.sb.cellF
  have f_s := G3.out.sb.frz
  have l_s := G3.out.sb.lt
  have c_d := G3.out.db.cellF
  have f_d := G3.out.db.frz
  have l_d := G3.out.db.lt
  have c_6 := G3.out.r6.cellF
  have f_6 := G3.out.r6.frz
  have l_6 := G3.out.r6.lt
  have c_7 := G3.out.r7.cellF
  have f_7 := G3.out.r7.frz
  have l_7 := G3.out.r7.lt
  rw [isR_other HH.out (by decide)]
  go_wp2_with fail
  refine (isR w0 b off cap s _ ⟨#[114, 101, 115, 101, 114, 118, 101, 100]⟩ wReserved rfl (by decide) G3.out.st G3.out.un).mono ?_
  rintro e w4 ⟨rfl, hb4⟩
  have G4 := hid (G3.out.kept hb4)
  have hs4 := hb4.size
  try simp at hs4
  clear hb4
  clear c_s f_s l_s c_d f_d l_d c_6 f_6 l_6 c_7 f_7 l_7
  have c_s := G4.out.sb.cellF
  have f_s := G4.out.sb.frz
  have l_s := G4.out.sb.lt
  have c_d := G4.out.db.cellF
  have f_d := G4.out.db.frz
  have l_d := G4.out.db.lt
  have c_6 := G4.out.r6.cellF
  have f_6 := G4.out.r6.frz
  have l_6 := G4.out.r6.lt
  have c_7 := G4.out.r7.cellF
  have f_7 := G4.out.r7.frz
  have l_7 := G4.out.r7.lt
  rw [isR_other HH.out (by decide)]
  go_wp2_with fail
  refine (isR w0 b off cap s _ ⟨#[109, 97, 112]⟩ wMap rfl (by decide) G4.out.st G4.out.un).mono ?_
  rintro e w5 ⟨rfl, hb5⟩
  have G5 := hid (G4.out.kept hb5)
  have hs5 := hb5.size
  try simp at hs5
  clear hb5
  clear c_s f_s l_s c_d f_d l_d c_6 f_6 l_6 c_7 f_7 l_7
  have c_s := G5.out.sb.cellF
  have f_s := G5.out.sb.frz
  have l_s := G5.out.sb.lt
  have c_d := G5.out.db.cellF
  have f_d := G5.out.db.frz
  have l_d := G5.out.db.lt
  have c_6 := G5.out.r6.cellF
  have f_6 := G5.out.r6.frz
  have l_6 := G5.out.r6.lt
  have c_7 := G5.out.r7.cellF
  have f_7 := G5.out.r7.frz
  have l_7 := G5.out.r7.lt
  rw [isR_other HH.out (by decide)]
  have GM := hid (G5.out.kept (below_alloc (.cells #[.int .i64 0, .int .i64 0] 64)))
  have Bk0 : Blk (w5.alloc (.cells #[.int .i64 0, .int .i64 0] 64)) (w5.heap.size) 64 #[.int .i64 0, .int .i64 0] := Blk.newAt rfl
  have HQ0 := hid (below_alloc (w := w5) (.cells #[.int .i64 0, .int .i64 0] 64))
  go_wp2_with fail
  refine (isR w0 b off cap s _ ⟨#[111, 112, 116, 105, 111, 110, 97, 108]⟩ wOptional rfl (by decide) GM.out.st GM.out.un).mono ?_
  rintro e w6 ⟨rfl, hb6⟩
  have G6 := hid (GM.out.kept hb6)
  have hs6 := hb6.size
  try simp at hs6
  have Bk1 : Blk w6 (w5.heap.size) 64 #[.int .i64 0, .int .i64 0] := Bk0.kept hb6
  have HQ1 := hid (bl_then HQ0.out hb6)
  clear hb6
  clear c_s f_s l_s c_d f_d l_d c_6 f_6 l_6 c_7 f_7 l_7
  have c_s := G6.out.sb.cellF
  have f_s := G6.out.sb.frz
  have l_s := G6.out.sb.lt
  have c_d := G6.out.db.cellF
  have f_d := G6.out.db.frz
  have l_d := G6.out.db.lt
  have c_6 := G6.out.r6.cellF
  have f_6 := G6.out.r6.frz
  have l_6 := G6.out.r6.lt
  have c_7 := G6.out.r7.cellF
  have f_7 := G6.out.r7.frz
  have l_7 := G6.out.r7.lt
  clear Bk0 HQ0
  rw [HH.out]
  go_wp2_with fail
  refine (isR w0 b off cap s _ ⟨#[114, 101, 112, 101, 97, 116, 101, 100]⟩ wRepeated rfl (by decide) G6.out.st G6.out.un).mono ?_
  rintro e w7 ⟨rfl, hb7⟩
  have G7 := hid (G6.out.kept hb7)
  have hs7 := hb7.size
  try simp at hs7
  have Bk2 : Blk w7 (w5.heap.size) 64 #[.int .i64 0, .int .i64 0] := Bk1.kept hb7
  have HQ2 := hid (bl_then HQ1.out hb7)
  clear hb7
  clear c_s f_s l_s c_d f_d l_d c_6 f_6 l_6 c_7 f_7 l_7
  have c_s := G7.out.sb.cellF
  have f_s := G7.out.sb.frz
  have l_s := G7.out.sb.lt
  have c_d := G7.out.db.cellF
  have f_d := G7.out.db.frz
  have l_d := G7.out.db.lt
  have c_6 := G7.out.r6.cellF
  have f_6 := G7.out.r6.frz
  have l_6 := G7.out.r6.lt
  have c_7 := G7.out.r7.cellF
  have f_7 := G7.out.r7.frz
  have l_7 := G7.out.r7.lt
  clear Bk1 HQ1
  rw [isR_other HH.out (by decide)]
  have c_k := Bk2.cellF
  have f_k := Bk2.frz
  have l_k := Bk2.lt
  obtain ⟨sa, sc, e0, e1, e2, e3, e4, e5, _, hB⟩ := G7.out.st.head G7.out.un
  obtain ⟨hp1, hp0, hp3, hp5, hp6⟩ := HPS.out
  have hB2 : b < w7.heap.size := Nat.lt_of_lt_of_le hB G7.out.un.size
  go_wp2_with fail
  refine (atR _ (hdM s) sa sc).mono ?_
  rintro e w8 ⟨rfl, hb8⟩
  have G8 := hid (G7.out.kept hb8)
  have hs8 := hb8.size
  try simp at hs8
  have Bq : Blk w8 (w5.heap.size) 64 #[.int .i64 0, .int .i64 0] := Bk2.kept hb8
  have HQ := hid (bl_then HQ2.out hb8)
  clear hb8
  clear c_s f_s l_s c_d f_d l_d c_6 f_6 l_6 c_7 f_7 l_7
  have c_s := G8.out.sb.cellF
  have f_s := G8.out.sb.frz
  have l_s := G8.out.sb.lt
  have c_d := G8.out.db.cellF
  have f_d := G8.out.db.frz
  have l_d := G8.out.db.lt
  have c_6 := G8.out.r6.cellF
  have f_6 := G8.out.r6.frz
  have l_6 := G8.out.r6.lt
  have c_7 := G8.out.r7.cellF
  have f_7 := G8.out.r7.frz
  have l_7 := G8.out.r7.lt
  clear HQ2 Bk2 c_k f_k l_k e0 e1 e2 e3 e4 e5 hB hB2
  have c_k := Bq.cellF
  have f_k := Bq.frz
  have l_k := Bq.lt
  go_upto_region 45 with fail
  have GQ : Hid (Mem w0 b w base n (((w8.setCell ⟨w5.heap.size, 0, none⟩ (.int .i64 (hdM s).line)).setCell ⟨w5.heap.size, 1, none⟩ (.int .i64 (hdM s).col)).setCell ⟨w.heap.size, 0, none⟩ (.slice (some ⟨b, off + 6, none⟩) (s.l.length - 1) (cap - 1))) (off + 6) (cap - 1) (nxM s) ⟨xd, .slice fa xd.fields.length fc, .slice oa xd.oneofs.length oc, .slice da xd.decls.length dc, .slice ra xd.res.length rc, .slice ya xd.syms.length yc⟩) := hid ((G5.out.kept (by have := HQ.out; exact blBy)).next HN.out HP4.out)
  have Bq2 : Blk (((w8.setCell ⟨w5.heap.size, 0, none⟩ (.int .i64 (hdM s).line)).setCell ⟨w5.heap.size, 1, none⟩ (.int .i64 (hdM s).col)).setCell ⟨w.heap.size, 0, none⟩ (.slice (some ⟨b, off + 6, none⟩) (s.l.length - 1) (cap - 1))) (w5.heap.size) 64 #[.int .i64 (hdM s).line, .int .i64 (hdM s).col] := (((Bq.set 0 _).set 1 _).is (by simp)).other (show w5.heap.size ≠ w.heap.size by omega) _
  clear c_k f_k l_k Bq c_s f_s l_s c_d f_d l_d c_6 f_6 l_6 c_7 f_7 l_7
  clear hp1 hp0 hp3 hp5 hp6
  generalize (((w8.setCell ⟨w5.heap.size, 0, none⟩ (.int .i64 (hdM s).line)).setCell ⟨w5.heap.size, 1, none⟩ (.int .i64 (hdM s).col)).setCell ⟨w.heap.size, 0, none⟩ (.slice (some ⟨b, off + 6, none⟩) (s.l.length - 1) (cap - 1))) = wq at *
  have c_s := GQ.out.sb.cellF
  have f_s := GQ.out.sb.frz
  have l_s := GQ.out.sb.lt
  have c_d := GQ.out.db.cellF
  have f_d := GQ.out.db.frz
  have l_d := GQ.out.db.lt
  have c_6 := GQ.out.r6.cellF
  have f_6 := GQ.out.r6.frz
  have l_6 := GQ.out.r6.lt
  have c_7 := GQ.out.r7.cellF
  have f_7 := GQ.out.r7.frz
  have l_7 := GQ.out.r7.lt
  have c_k := Bq2.cellF
  have f_k := Bq2.frz
  have l_k := Bq2.lt
  go_wp2_with fail
  refine (fieldR w0 b (off + 6) (cap - 1) (nxM s) _ 1 (atM (hdM s)) GQ.out.st GQ.out.un).mono ?_
  rintro e w9 ⟨⟨f, s1, o1, c1, hf, he, rfl, hst1⟩, hb9⟩
  have G9 := hid (GQ.out.kept hb9)
  have hs9 := hb9.size
  try simp at hs9
  clear hb9
  clear c_s f_s l_s c_d f_d l_d c_6 f_6 l_6 c_7 f_7 l_7
  have c_s := G9.out.sb.cellF
  have f_s := G9.out.sb.frz
  have l_s := G9.out.sb.lt
  have c_d := G9.out.db.cellF
  have f_d := G9.out.db.frz
  have l_d := G9.out.db.lt
  have c_6 := G9.out.r6.cellF
  have f_6 := G9.out.r6.frz
  have l_6 := G9.out.r6.lt
  have c_7 := G9.out.r7.cellF
  have f_7 := G9.out.r7.frz
  have l_7 := G9.out.r7.lt
  clear Bq2 c_k f_k l_k
  have lwk : w.heap.size + 1 + 1 + 1 < w9.heap.size := G9.out.r7.lt
  go_upto_region 46 with fail
  have GZ : Hid (Mem w0 b w base n ((w9.alloc (.cells #[.string (strOfNums f.name), .string (strOfNums f.ty), .string (strOfNums f.key), .int .u64 f.num, .int .i64 f.label, .int .i64 f.packed, .int .i64 f.oneof, .int .i64 f.at1.1, .int .i64 f.at1.2, .int .i64 f.nat1.1, .int .i64 f.nat1.2, .int .i64 f.tat.1, .int .i64 f.tat.2, .int .i64 f.mat.1, .int .i64 f.mat.2] 78)).alloc (.cells #[.slice (some ⟨b, o1, none⟩) s1.l.length c1, .int .i64 s1.cd, .int .i64 0, .int .i64 s1.ln, .int .i64 s1.cl] 54)) (off + 6) (cap - 1) (nxM s) ⟨xd, .slice fa xd.fields.length fc, .slice oa xd.oneofs.length oc, .slice da xd.decls.length dc, .slice ra xd.res.length rc, .slice ya xd.syms.length yc⟩) := hid (G9.out.kept (below_twor _ _))
  have Bf : Blk ((w9.alloc (.cells #[.string (strOfNums f.name), .string (strOfNums f.ty), .string (strOfNums f.key), .int .u64 f.num, .int .i64 f.label, .int .i64 f.packed, .int .i64 f.oneof, .int .i64 f.at1.1, .int .i64 f.at1.2, .int .i64 f.nat1.1, .int .i64 f.nat1.2, .int .i64 f.tat.1, .int .i64 f.tat.2, .int .i64 f.mat.1, .int .i64 f.mat.2] 78)).alloc (.cells #[.slice (some ⟨b, o1, none⟩) s1.l.length c1, .int .i64 s1.cd, .int .i64 0, .int .i64 s1.ln, .int .i64 s1.cl] 54)) (w9.heap.size) 78 #[.string (strOfNums f.name), .string (strOfNums f.ty), .string (strOfNums f.key), .int .u64 f.num, .int .i64 f.label, .int .i64 f.packed, .int .i64 f.oneof, .int .i64 f.at1.1, .int .i64 f.at1.2, .int .i64 f.nat1.1, .int .i64 f.nat1.2, .int .i64 f.tat.1, .int .i64 f.tat.2, .int .i64 f.mat.1, .int .i64 f.mat.2] := (Blk.newAt rfl).kept (below_alloc _)
  have Bx : Blk ((w9.alloc (.cells #[.string (strOfNums f.name), .string (strOfNums f.ty), .string (strOfNums f.key), .int .u64 f.num, .int .i64 f.label, .int .i64 f.packed, .int .i64 f.oneof, .int .i64 f.at1.1, .int .i64 f.at1.2, .int .i64 f.nat1.1, .int .i64 f.nat1.2, .int .i64 f.tat.1, .int .i64 f.tat.2, .int .i64 f.mat.1, .int .i64 f.mat.2] 78)).alloc (.cells #[.slice (some ⟨b, o1, none⟩) s1.l.length c1, .int .i64 s1.cd, .int .i64 0, .int .i64 s1.ln, .int .i64 s1.cl] 54)) (w9.heap.size + 1) 54 #[.slice (some ⟨b, o1, none⟩) s1.l.length c1, .int .i64 s1.cd, .int .i64 0, .int .i64 s1.ln, .int .i64 s1.cl] := Blk.newAt (by simp)
  clear c_s f_s l_s c_d f_d l_d c_6 f_6 l_6 c_7 f_7 l_7
  generalize ((w9.alloc (.cells #[.string (strOfNums f.name), .string (strOfNums f.ty), .string (strOfNums f.key), .int .u64 f.num, .int .i64 f.label, .int .i64 f.packed, .int .i64 f.oneof, .int .i64 f.at1.1, .int .i64 f.at1.2, .int .i64 f.nat1.1, .int .i64 f.nat1.2, .int .i64 f.tat.1, .int .i64 f.tat.2, .int .i64 f.mat.1, .int .i64 f.mat.2] 78)).alloc (.cells #[.slice (some ⟨b, o1, none⟩) s1.l.length c1, .int .i64 s1.cd, .int .i64 0, .int .i64 s1.ln, .int .i64 s1.cl] 54)) = wz at *
  have c_f := Bf.cellF
  have c_x := Bx.cellF
  have l_f := Bf.lt
  have l_x := Bx.lt
  have c_s := GZ.out.sb.cellF
  have f_s := GZ.out.sb.frz
  have l_s := GZ.out.sb.lt
  have c_d := GZ.out.db.cellF
  have f_d := GZ.out.db.frz
  have l_d := GZ.out.db.lt
  have c_6 := GZ.out.r6.cellF
  have f_6 := GZ.out.r6.frz
  have l_6 := GZ.out.r6.lt
  have c_7 := GZ.out.r7.cellF
  have f_7 := GZ.out.r7.frz
  have l_7 := GZ.out.r7.lt
  obtain ⟨la, lc, x3, HRUN, HGR, HB3, G3⟩ := GZ.out.moreF rfl (by have := HTT.out; unfold tot at this; dsimp only; omega) f
  dsimp only at HRUN HGR HB3 G3
  have Bx3 : Blk x3 (w9.heap.size + 1) 54 #[.slice (some ⟨b, o1, none⟩) s1.l.length c1, .int .i64 s1.cd, .int .i64 0, .int .i64 s1.ln, .int .i64 s1.cl] := growR_blk HGR.out GZ.out.own.f Bx (by decide)
  have c_3 := HB3.out.cellF
  have f_3 := HB3.out.frz
  have l_3 := HB3.out.lt
  go_wp2_with (first | (at_builtin; refine wpList_append_ran rfl _ _ 69 69 rfl rfl _ _ (.slice la (xd.fields.length + 1) lc) x3 rfl rfl HRUN.out ?_))
  have Bx4 : Blk (x3.setCell ⟨w.heap.size + 1, 4, none⟩ (.slice la (xd.fields.length + 1) lc)) (w9.heap.size + 1) 54 #[.slice (some ⟨b, o1, none⟩) s1.l.length c1, .int .i64 s1.cd, .int .i64 0, .int .i64 s1.ln, .int .i64 s1.cl] := Bx3.other (show w9.heap.size + 1 ≠ w.heap.size + 1 by have := G9.out.r7.lt; omega) _
  clear c_s f_s l_s c_d f_d l_d c_6 f_6 l_6 c_7 f_7 l_7 c_3 f_3 l_3 c_f c_x l_f l_x Bx3 HB3 HRUN HGR Bf Bx
  generalize (x3.setCell ⟨w.heap.size + 1, 4, none⟩ (.slice la (xd.fields.length + 1) lc)) = x4 at *
  have c_x := Bx4.cellF
  have l_x := Bx4.lt
  have c_s := G3.out.sb.cellF
  have f_s := G3.out.sb.frz
  have l_s := G3.out.sb.lt
  have c_d := G3.out.db.cellF
  have f_d := G3.out.db.frz
  have l_d := G3.out.db.lt
  have c_6 := G3.out.r6.cellF
  have f_6 := G3.out.r6.frz
  have l_6 := G3.out.r6.lt
  have c_7 := G3.out.r7.cellF
  have f_7 := G3.out.r7.frz
  have l_7 := G3.out.r7.lt
  go_region
  all_goals go_wp2
  all_goals exact bodyPost_ret (v := .tuple #[.agg #[.bool xd.enum, .string (strOfNums xd.name), .int .i64 xd.at1.1, .int .i64 xd.at1.2, .slice la (xd.fields.length + 1) lc, .slice oa xd.oneofs.length oc, .slice da xd.decls.length dc, .slice ra xd.res.length rc, .slice ya xd.syms.length yc], .agg #[.slice (some ⟨b, o1, none⟩) s1.l.length c1, .int .i64 s1.cd, .int .i64 0, .int .i64 s1.ln, .int .i64 s1.cl]]) (by simp [results, Tryz.results47, go_sem, c_6, c_7, l_6, l_7]) rfl (MemR.is _ s1 o1 c1 (hid (by rw [hf.out])) (hid (he.out)) rfl (G3.out.fin (by exact kpBy)).1 hst1 (G3.out.fin (by exact kpBy)).2)
end
section
variable (w0 : World) (b off cap : Nat) (s : PS) (w : World) (base n : Nat)
theorem memR_rep (x : DV) (depth : Int) (hi : isM s wRepeated = true) (htot : tot x.d + 3 * muM s ≤ 300000) (h : StR w0 b off cap s) (hb : Below w0.heap.size w0 w) (hw : w0.heap.size ≤ base) (hlo : base ≤ w.heap.size) (ho : OwnD w base n 78 139 74 136 126 (fun _ => False) x) : Calls Tryz.prog 47 #[.agg #[.slice (some ⟨b, off, none⟩) s.l.length cap, .int .i64 s.cd, .int .i64 0, .int .i64 s.ln, .int .i64 s.cl], .agg #[.bool x.d.enum, .string (strOfNums x.d.name), .int .i64 x.d.at1.1, .int .i64 x.d.at1.2, x.f, x.o, x.dd, x.r, x.s], .int .i64 depth] w (MemR w0 b base n ({ x.d with fields := x.d.fields ++ [(fldM (nxM s) 2 (atM (hdM s))).1] }, (fldM (nxM s) 2 (atM (hdM s))).2) w) := by
  have HH := hid hi
  have HKD : Hid ((hdM s).kind ≠ 5) := hid (by have := (is_parts hi).2.1; omega)
  clear hi
  have HN := hid (h.next HKD.out)
  have HP4 : Hid ((nxM s).l.length = s.l.length - 1) := hid (by unfold nxM; simp)
  have HPS : Hid ((1 : Int) < (s.l.length : Int) ∧ (0 : Int) < (s.l.length : Int) ∧ (cap : Int) ≤ 9223372036854775807 ∧ (1 : Int) < (cap : Int) ∧ s.l.length ≤ cap) := hid (by have h1 := HN.out.pos.1; have h2 := HP4.out; have h3 := h.pos; omega)
  obtain ⟨xd, xf, xo, xdd, xr, xs⟩ := x
  dsimp only at *
  obtain ⟨fa, fc, rfl⟩ : ∃ a c, xf = .slice a xd.fields.length c := own_shape ho.f
  obtain ⟨oa, oc, rfl⟩ : ∃ a c, xo = .slice a xd.oneofs.length c := own_shape ho.o
  obtain ⟨ra, rc, rfl⟩ : ∃ a c, xr = .slice a xd.res.length c := own_shape ho.r
  obtain ⟨ya, yc, rfl⟩ : ∃ a c, xs = .slice a xd.syms.length c := own_shape ho.s
  obtain ⟨da, dc, rfl⟩ : ∃ a c, xdd = .slice a xd.decls.length c := ho.ddS
  have HTT := hid htot
  have HLO := hid hlo
  have HB := hid hb
  have G0 := hid (Mem.start h hb hw ho hlo)
  dsimp only at G0
  clear h hb hw ho htot hlo
  go_enter Tryz.func47, Tryz.ntmps47
  go_wp2_with fail
  refine (isR w0 b off cap s _ ⟨#[109, 101, 115, 115, 97, 103, 101]⟩ wMessage rfl (by decide) G0.out.st G0.out.un).mono ?_
  rintro e w1 ⟨rfl, hb1⟩
  have G1 := hid (G0.out.kept hb1)
  have hs1 := hb1.size
  try simp at hs1
  clear hb1
  have c_s := G1.out.sb.cellF
  have f_s := G1.out.sb.frz
  have l_s := G1.out.sb.lt
  have c_d := G1.out.db.cellF
  have f_d := G1.out.db.frz
  have l_d := G1.out.db.lt
  have c_6 := G1.out.r6.cellF
  have f_6 := G1.out.r6.frz
  have l_6 := G1.out.r6.lt
  have c_7 := G1.out.r7.cellF
  have f_7 := G1.out.r7.frz
  have l_7 := G1.out.r7.lt
  rw [isR_other HH.out (by decide)]
  go_wp2_with fail
  refine (isR w0 b off cap s _ ⟨#[101, 110, 117, 109]⟩ wEnum rfl (by decide) G1.out.st G1.out.un).mono ?_
  rintro e w2 ⟨rfl, hb2⟩
  have G2 := hid (G1.out.kept hb2)
  have hs2 := hb2.size
  try simp at hs2
  clear hb2
  clear c_s f_s l_s c_d f_d l_d c_6 f_6 l_6 c_7 f_7 l_7
  have c_s := G2.out.sb.cellF
  have f_s := G2.out.sb.frz
  have l_s := G2.out.sb.lt
  have c_d := G2.out.db.cellF
  have f_d := G2.out.db.frz
  have l_d := G2.out.db.lt
  have c_6 := G2.out.r6.cellF
  have f_6 := G2.out.r6.frz
  have l_6 := G2.out.r6.lt
  have c_7 := G2.out.r7.cellF
  have f_7 := G2.out.r7.frz
  have l_7 := G2.out.r7.lt
  rw [isR_other HH.out (by decide)]
  go_wp2_with fail
  refine (isR w0 b off cap s _ ⟨#[111, 110, 101, 111, 102]⟩ wOneof rfl (by decide) G2.out.st G2.out.un).mono ?_
  rintro e w3 ⟨rfl, hb3⟩
  have G3 := hid (G2.out.kept hb3)
  have hs3 := hb3.size
  try simp at hs3
  clear hb3
  clear c_s f_s l_s c_d f_d l_d c_6 f_6 l_6 c_7 f_7 l_7
  have c_s := G3.out.sb.cellF
  have f_s := G3.out.sb.frz
  have l_s := G3.out.sb.lt
  have c_d := G3.out.db.cellF
  have f_d := G3.out.db.frz
  have l_d := G3.out.db.lt
  have c_6 := G3.out.r6.cellF
  have f_6 := G3.out.r6.frz
  have l_6 := G3.out.r6.lt
  have c_7 := G3.out.r7.cellF
  have f_7 := G3.out.r7.frz
  have l_7 := G3.out.r7.lt
  rw [isR_other HH.out (by decide)]
  go_wp2_with fail
  refine (isR w0 b off cap s _ ⟨#[114, 101, 115, 101, 114, 118, 101, 100]⟩ wReserved rfl (by decide) G3.out.st G3.out.un).mono ?_
  rintro e w4 ⟨rfl, hb4⟩
  have G4 := hid (G3.out.kept hb4)
  have hs4 := hb4.size
  try simp at hs4
  clear hb4
  clear c_s f_s l_s c_d f_d l_d c_6 f_6 l_6 c_7 f_7 l_7
  have c_s := G4.out.sb.cellF
  have f_s := G4.out.sb.frz
  have l_s := G4.out.sb.lt
  have c_d := G4.out.db.cellF
  have f_d := G4.out.db.frz
  have l_d := G4.out.db.lt
  have c_6 := G4.out.r6.cellF
  have f_6 := G4.out.r6.frz
  have l_6 := G4.out.r6.lt
  have c_7 := G4.out.r7.cellF
  have f_7 := G4.out.r7.frz
  have l_7 := G4.out.r7.lt
  rw [isR_other HH.out (by decide)]
  go_wp2_with fail
  refine (isR w0 b off cap s _ ⟨#[109, 97, 112]⟩ wMap rfl (by decide) G4.out.st G4.out.un).mono ?_
  rintro e w5 ⟨rfl, hb5⟩
  have G5 := hid (G4.out.kept hb5)
  have hs5 := hb5.size
  try simp at hs5
  clear hb5
  clear c_s f_s l_s c_d f_d l_d c_6 f_6 l_6 c_7 f_7 l_7
  have c_s := G5.out.sb.cellF
  have f_s := G5.out.sb.frz
  have l_s := G5.out.sb.lt
  have c_d := G5.out.db.cellF
  have f_d := G5.out.db.frz
  have l_d := G5.out.db.lt
  have c_6 := G5.out.r6.cellF
  have f_6 := G5.out.r6.frz
  have l_6 := G5.out.r6.lt
  have c_7 := G5.out.r7.cellF
  have f_7 := G5.out.r7.frz
  have l_7 := G5.out.r7.lt
  rw [isR_other HH.out (by decide)]
  have GM := hid (G5.out.kept (below_alloc (.cells #[.int .i64 0, .int .i64 0] 64)))
  have Bk0 : Blk (w5.alloc (.cells #[.int .i64 0, .int .i64 0] 64)) (w5.heap.size) 64 #[.int .i64 0, .int .i64 0] := Blk.newAt rfl
  have HQ0 := hid (below_alloc (w := w5) (.cells #[.int .i64 0, .int .i64 0] 64))
  go_wp2_with fail
  refine (isR w0 b off cap s _ ⟨#[111, 112, 116, 105, 111, 110, 97, 108]⟩ wOptional rfl (by decide) GM.out.st GM.out.un).mono ?_
  rintro e w6 ⟨rfl, hb6⟩
  have G6 := hid (GM.out.kept hb6)
  have hs6 := hb6.size
  try simp at hs6
  have Bk1 : Blk w6 (w5.heap.size) 64 #[.int .i64 0, .int .i64 0] := Bk0.kept hb6
  have HQ1 := hid (bl_then HQ0.out hb6)
  clear hb6
  clear c_s f_s l_s c_d f_d l_d c_6 f_6 l_6 c_7 f_7 l_7
  have c_s := G6.out.sb.cellF
  have f_s := G6.out.sb.frz
  have l_s := G6.out.sb.lt
  have c_d := G6.out.db.cellF
  have f_d := G6.out.db.frz
  have l_d := G6.out.db.lt
  have c_6 := G6.out.r6.cellF
  have f_6 := G6.out.r6.frz
  have l_6 := G6.out.r6.lt
  have c_7 := G6.out.r7.cellF
  have f_7 := G6.out.r7.frz
  have l_7 := G6.out.r7.lt
  clear Bk0 HQ0
  rw [isR_other HH.out (by decide)]
  go_wp2_with fail
  refine (isR w0 b off cap s _ ⟨#[114, 101, 112, 101, 97, 116, 101, 100]⟩ wRepeated rfl (by decide) G6.out.st G6.out.un).mono ?_
  rintro e w7 ⟨rfl, hb7⟩
  have G7 := hid (G6.out.kept hb7)
  have hs7 := hb7.size
  try simp at hs7
  have Bk2 : Blk w7 (w5.heap.size) 64 #[.int .i64 0, .int .i64 0] := Bk1.kept hb7
  have HQ2 := hid (bl_then HQ1.out hb7)
  clear hb7
  clear c_s f_s l_s c_d f_d l_d c_6 f_6 l_6 c_7 f_7 l_7
  have c_s := G7.out.sb.cellF
  have f_s := G7.out.sb.frz
  have l_s := G7.out.sb.lt
  have c_d := G7.out.db.cellF
  have f_d := G7.out.db.frz
  have l_d := G7.out.db.lt
  have c_6 := G7.out.r6.cellF
  have f_6 := G7.out.r6.frz
  have l_6 := G7.out.r6.lt
  have c_7 := G7.out.r7.cellF
  have f_7 := G7.out.r7.frz
  have l_7 := G7.out.r7.lt
  clear Bk1 HQ1
  rw [HH.out]
  go_wp2_with fail
  refine (isR w0 b off cap s _ ⟨#[114, 101, 112, 101, 97, 116, 101, 100]⟩ wRepeated rfl (by decide) G7.out.st G7.out.un).mono ?_
  rintro e w8 ⟨rfl, hb8⟩
  have G8 := hid (G7.out.kept hb8)
  have hs8 := hb8.size
  try simp at hs8
  have Bk3 : Blk w8 (w5.heap.size) 64 #[.int .i64 0, .int .i64 0] := Bk2.kept hb8
  have HQ3 := hid (bl_then HQ2.out hb8)
  clear hb8
  clear c_s f_s l_s c_d f_d l_d c_6 f_6 l_6 c_7 f_7 l_7
  have c_s := G8.out.sb.cellF
  have f_s := G8.out.sb.frz
  have l_s := G8.out.sb.lt
  have c_d := G8.out.db.cellF
  have f_d := G8.out.db.frz
  have l_d := G8.out.db.lt
  have c_6 := G8.out.r6.cellF
  have f_6 := G8.out.r6.frz
  have l_6 := G8.out.r6.lt
  have c_7 := G8.out.r7.cellF
  have f_7 := G8.out.r7.frz
  have l_7 := G8.out.r7.lt
  clear Bk2 HQ2
  rw [HH.out]
  have c_k := Bk3.cellF
  have f_k := Bk3.frz
  have l_k := Bk3.lt
  obtain ⟨sa, sc, e0, e1, e2, e3, e4, e5, _, hB⟩ := G8.out.st.head G8.out.un
  obtain ⟨hp1, hp0, hp3, hp5, hp6⟩ := HPS.out
  have hB2 : b < w8.heap.size := Nat.lt_of_lt_of_le hB G8.out.un.size
  go_wp2_with fail
  refine (atR _ (hdM s) sa sc).mono ?_
  rintro e w9 ⟨rfl, hb9⟩
  have G9 := hid (G8.out.kept hb9)
  have hs9 := hb9.size
  try simp at hs9
  have Bq : Blk w9 (w5.heap.size) 64 #[.int .i64 0, .int .i64 0] := Bk3.kept hb9
  have HQ := hid (bl_then HQ3.out hb9)
  clear hb9
  clear c_s f_s l_s c_d f_d l_d c_6 f_6 l_6 c_7 f_7 l_7
  have c_s := G9.out.sb.cellF
  have f_s := G9.out.sb.frz
  have l_s := G9.out.sb.lt
  have c_d := G9.out.db.cellF
  have f_d := G9.out.db.frz
  have l_d := G9.out.db.lt
  have c_6 := G9.out.r6.cellF
  have f_6 := G9.out.r6.frz
  have l_6 := G9.out.r6.lt
  have c_7 := G9.out.r7.cellF
  have f_7 := G9.out.r7.frz
  have l_7 := G9.out.r7.lt
  clear HQ3 Bk3 c_k f_k l_k e0 e1 e2 e3 e4 e5 hB hB2
  have c_k := Bq.cellF
  have f_k := Bq.frz
  have l_k := Bq.lt
  go_upto_region 45 with fail
  have GQ : Hid (Mem w0 b w base n (((w9.setCell ⟨w5.heap.size, 0, none⟩ (.int .i64 (hdM s).line)).setCell ⟨w5.heap.size, 1, none⟩ (.int .i64 (hdM s).col)).setCell ⟨w.heap.size, 0, none⟩ (.slice (some ⟨b, off + 6, none⟩) (s.l.length - 1) (cap - 1))) (off + 6) (cap - 1) (nxM s) ⟨xd, .slice fa xd.fields.length fc, .slice oa xd.oneofs.length oc, .slice da xd.decls.length dc, .slice ra xd.res.length rc, .slice ya xd.syms.length yc⟩) := hid ((G5.out.kept (by have := HQ.out; exact blBy)).next HN.out HP4.out)
  have Bq2 : Blk (((w9.setCell ⟨w5.heap.size, 0, none⟩ (.int .i64 (hdM s).line)).setCell ⟨w5.heap.size, 1, none⟩ (.int .i64 (hdM s).col)).setCell ⟨w.heap.size, 0, none⟩ (.slice (some ⟨b, off + 6, none⟩) (s.l.length - 1) (cap - 1))) (w5.heap.size) 64 #[.int .i64 (hdM s).line, .int .i64 (hdM s).col] := (((Bq.set 0 _).set 1 _).is (by simp)).other (show w5.heap.size ≠ w.heap.size by omega) _
  clear c_k f_k l_k Bq c_s f_s l_s c_d f_d l_d c_6 f_6 l_6 c_7 f_7 l_7
  clear hp1 hp0 hp3 hp5 hp6
  generalize (((w9.setCell ⟨w5.heap.size, 0, none⟩ (.int .i64 (hdM s).line)).setCell ⟨w5.heap.size, 1, none⟩ (.int .i64 (hdM s).col)).setCell ⟨w.heap.size, 0, none⟩ (.slice (some ⟨b, off + 6, none⟩) (s.l.length - 1) (cap - 1))) = wq at *
  have c_s := GQ.out.sb.cellF
  have f_s := GQ.out.sb.frz
  have l_s := GQ.out.sb.lt
  have c_d := GQ.out.db.cellF
  have f_d := GQ.out.db.frz
  have l_d := GQ.out.db.lt
  have c_6 := GQ.out.r6.cellF
  have f_6 := GQ.out.r6.frz
  have l_6 := GQ.out.r6.lt
  have c_7 := GQ.out.r7.cellF
  have f_7 := GQ.out.r7.frz
  have l_7 := GQ.out.r7.lt
  have c_k := Bq2.cellF
  have f_k := Bq2.frz
  have l_k := Bq2.lt
  go_wp2_with fail
  refine (fieldR w0 b (off + 6) (cap - 1) (nxM s) _ 2 (atM (hdM s)) GQ.out.st GQ.out.un).mono ?_
  rintro e w10 ⟨⟨f, s1, o1, c1, hf, he, rfl, hst1⟩, hb10⟩
  have G10 := hid (GQ.out.kept hb10)
  have hs10 := hb10.size
  try simp at hs10
  clear hb10
  clear c_s f_s l_s c_d f_d l_d c_6 f_6 l_6 c_7 f_7 l_7
  have c_s := G10.out.sb.cellF
  have f_s := G10.out.sb.frz
  have l_s := G10.out.sb.lt
  have c_d := G10.out.db.cellF
  have f_d := G10.out.db.frz
  have l_d := G10.out.db.lt
  have c_6 := G10.out.r6.cellF
  have f_6 := G10.out.r6.frz
  have l_6 := G10.out.r6.lt
  have c_7 := G10.out.r7.cellF
  have f_7 := G10.out.r7.frz
  have l_7 := G10.out.r7.lt
  clear Bq2 c_k f_k l_k
  have lwk : w.heap.size + 1 + 1 + 1 < w10.heap.size := G10.out.r7.lt
  go_upto_region 46 with fail
  have GZ : Hid (Mem w0 b w base n ((w10.alloc (.cells #[.string (strOfNums f.name), .string (strOfNums f.ty), .string (strOfNums f.key), .int .u64 f.num, .int .i64 f.label, .int .i64 f.packed, .int .i64 f.oneof, .int .i64 f.at1.1, .int .i64 f.at1.2, .int .i64 f.nat1.1, .int .i64 f.nat1.2, .int .i64 f.tat.1, .int .i64 f.tat.2, .int .i64 f.mat.1, .int .i64 f.mat.2] 78)).alloc (.cells #[.slice (some ⟨b, o1, none⟩) s1.l.length c1, .int .i64 s1.cd, .int .i64 0, .int .i64 s1.ln, .int .i64 s1.cl] 54)) (off + 6) (cap - 1) (nxM s) ⟨xd, .slice fa xd.fields.length fc, .slice oa xd.oneofs.length oc, .slice da xd.decls.length dc, .slice ra xd.res.length rc, .slice ya xd.syms.length yc⟩) := hid (G10.out.kept (below_twor _ _))
  have Bf : Blk ((w10.alloc (.cells #[.string (strOfNums f.name), .string (strOfNums f.ty), .string (strOfNums f.key), .int .u64 f.num, .int .i64 f.label, .int .i64 f.packed, .int .i64 f.oneof, .int .i64 f.at1.1, .int .i64 f.at1.2, .int .i64 f.nat1.1, .int .i64 f.nat1.2, .int .i64 f.tat.1, .int .i64 f.tat.2, .int .i64 f.mat.1, .int .i64 f.mat.2] 78)).alloc (.cells #[.slice (some ⟨b, o1, none⟩) s1.l.length c1, .int .i64 s1.cd, .int .i64 0, .int .i64 s1.ln, .int .i64 s1.cl] 54)) (w10.heap.size) 78 #[.string (strOfNums f.name), .string (strOfNums f.ty), .string (strOfNums f.key), .int .u64 f.num, .int .i64 f.label, .int .i64 f.packed, .int .i64 f.oneof, .int .i64 f.at1.1, .int .i64 f.at1.2, .int .i64 f.nat1.1, .int .i64 f.nat1.2, .int .i64 f.tat.1, .int .i64 f.tat.2, .int .i64 f.mat.1, .int .i64 f.mat.2] := (Blk.newAt rfl).kept (below_alloc _)
  have Bx : Blk ((w10.alloc (.cells #[.string (strOfNums f.name), .string (strOfNums f.ty), .string (strOfNums f.key), .int .u64 f.num, .int .i64 f.label, .int .i64 f.packed, .int .i64 f.oneof, .int .i64 f.at1.1, .int .i64 f.at1.2, .int .i64 f.nat1.1, .int .i64 f.nat1.2, .int .i64 f.tat.1, .int .i64 f.tat.2, .int .i64 f.mat.1, .int .i64 f.mat.2] 78)).alloc (.cells #[.slice (some ⟨b, o1, none⟩) s1.l.length c1, .int .i64 s1.cd, .int .i64 0, .int .i64 s1.ln, .int .i64 s1.cl] 54)) (w10.heap.size + 1) 54 #[.slice (some ⟨b, o1, none⟩) s1.l.length c1, .int .i64 s1.cd, .int .i64 0, .int .i64 s1.ln, .int .i64 s1.cl] := Blk.newAt (by simp)
  clear c_s f_s l_s c_d f_d l_d c_6 f_6 l_6 c_7 f_7 l_7
  generalize ((w10.alloc (.cells #[.string (strOfNums f.name), .string (strOfNums f.ty), .string (strOfNums f.key), .int .u64 f.num, .int .i64 f.label, .int .i64 f.packed, .int .i64 f.oneof, .int .i64 f.at1.1, .int .i64 f.at1.2, .int .i64 f.nat1.1, .int .i64 f.nat1.2, .int .i64 f.tat.1, .int .i64 f.tat.2, .int .i64 f.mat.1, .int .i64 f.mat.2] 78)).alloc (.cells #[.slice (some ⟨b, o1, none⟩) s1.l.length c1, .int .i64 s1.cd, .int .i64 0, .int .i64 s1.ln, .int .i64 s1.cl] 54)) = wz at *
  have c_f := Bf.cellF
  have c_x := Bx.cellF
  have l_f := Bf.lt
  have l_x := Bx.lt
  have c_s := GZ.out.sb.cellF
  have f_s := GZ.out.sb.frz
  have l_s := GZ.out.sb.lt
  have c_d := GZ.out.db.cellF
  have f_d := GZ.out.db.frz
  have l_d := GZ.out.db.lt
  have c_6 := GZ.out.r6.cellF
  have f_6 := GZ.out.r6.frz
  have l_6 := GZ.out.r6.lt
  have c_7 := GZ.out.r7.cellF
  have f_7 := GZ.out.r7.frz
  have l_7 := GZ.out.r7.lt
  obtain ⟨la, lc, x3, HRUN, HGR, HB3, G3⟩ := GZ.out.moreF rfl (by have := HTT.out; unfold tot at this; dsimp only; omega) f
  dsimp only at HRUN HGR HB3 G3
  have Bx3 : Blk x3 (w10.heap.size + 1) 54 #[.slice (some ⟨b, o1, none⟩) s1.l.length c1, .int .i64 s1.cd, .int .i64 0, .int .i64 s1.ln, .int .i64 s1.cl] := growR_blk HGR.out GZ.out.own.f Bx (by decide)
  have c_3 := HB3.out.cellF
  have f_3 := HB3.out.frz
  have l_3 := HB3.out.lt
  go_wp2_with (first | (at_builtin; refine wpList_append_ran rfl _ _ 69 69 rfl rfl _ _ (.slice la (xd.fields.length + 1) lc) x3 rfl rfl HRUN.out ?_))
  have Bx4 : Blk (x3.setCell ⟨w.heap.size + 1, 4, none⟩ (.slice la (xd.fields.length + 1) lc)) (w10.heap.size + 1) 54 #[.slice (some ⟨b, o1, none⟩) s1.l.length c1, .int .i64 s1.cd, .int .i64 0, .int .i64 s1.ln, .int .i64 s1.cl] := Bx3.other (show w10.heap.size + 1 ≠ w.heap.size + 1 by have := G10.out.r7.lt; omega) _
  clear c_s f_s l_s c_d f_d l_d c_6 f_6 l_6 c_7 f_7 l_7 c_3 f_3 l_3 c_f c_x l_f l_x Bx3 HB3 HRUN HGR Bf Bx
  generalize (x3.setCell ⟨w.heap.size + 1, 4, none⟩ (.slice la (xd.fields.length + 1) lc)) = x4 at *
  have c_x := Bx4.cellF
  have l_x := Bx4.lt
  have c_s := G3.out.sb.cellF
  have f_s := G3.out.sb.frz
  have l_s := G3.out.sb.lt
  have c_d := G3.out.db.cellF
  have f_d := G3.out.db.frz
  have l_d := G3.out.db.lt
  have c_6 := G3.out.r6.cellF
  have f_6 := G3.out.r6.frz
  have l_6 := G3.out.r6.lt
  have c_7 := G3.out.r7.cellF
  have f_7 := G3.out.r7.frz
  have l_7 := G3.out.r7.lt
  go_region
  all_goals go_wp2
  all_goals exact bodyPost_ret (v := .tuple #[.agg #[.bool xd.enum, .string (strOfNums xd.name), .int .i64 xd.at1.1, .int .i64 xd.at1.2, .slice la (xd.fields.length + 1) lc, .slice oa xd.oneofs.length oc, .slice da xd.decls.length dc, .slice ra xd.res.length rc, .slice ya xd.syms.length yc], .agg #[.slice (some ⟨b, o1, none⟩) s1.l.length c1, .int .i64 s1.cd, .int .i64 0, .int .i64 s1.ln, .int .i64 s1.cl]]) (by simp [results, Tryz.results47, go_sem, c_6, c_7, l_6, l_7]) rfl (MemR.is _ s1 o1 c1 (hid (by rw [hf.out])) (hid (he.out)) rfl (G3.out.fin (by exact kpBy)).1 hst1 (G3.out.fin (by exact kpBy)).2)
end
/-- What decl answers. -/
def DclR (w0 : World) (b n : Nat) (m : MD × PS) (w : World) (e : Ending) (w' : World) : Prop := (∃ y s' o c, Hid (y.d = m.1) ∧ Hid (s' = m.2) ∧ e = .returned (.tuple #[.agg #[.bool y.d.enum, .string (strOfNums y.d.name), .int .i64 y.d.at1.1, .int .i64 y.d.at1.2, y.f, y.o, y.dd, y.r, y.s], .agg #[.slice (some ⟨b, o, none⟩) s'.l.length c, .int .i64 s'.cd, .int .i64 0, .int .i64 s'.ln, .int .i64 s'.cl]]) ∧ Hid (RD n w' (fun k => w.heap.size ≤ k ∧ k < w'.heap.size) y) ∧ Hid (StR w0 b o c s')) ∧ Below w.heap.size w w'
theorem RD.shape {w : World} {Z : Nat → Prop} {n : Nat} {y : DV} (h : RD n w Z y) : (∃ a c, y.f = .slice a y.d.fields.length c) ∧ (∃ a c, y.o = .slice a y.d.oneofs.length c) ∧ (∃ a c, y.r = .slice a y.d.res.length c) ∧ (∃ a c, y.s = .slice a y.d.syms.length c) ∧ ∃ a c, y.dd = .slice a y.d.decls.length c := by
  cases n with
  | zero => exact h.elim
  | succ n =>
    obtain ⟨⟨a1, c1, e1, _⟩, ⟨a2, c2, e2, _⟩, ⟨a3, c3, e3, _⟩, ⟨a4, c4, e4, _⟩, dvs, e, ⟨a5, c5, e5, _⟩, _⟩ := h
    have el : dvs.length = y.d.decls.length := by rw [← e]; simp
    exact ⟨⟨a1, c1, e1⟩, ⟨a2, c2, e2⟩, ⟨a3, c3, e3⟩, ⟨a4, c4, e4⟩, ⟨a5, c5, by rw [e5, el]⟩⟩
section
variable (w0 : World) (b off cap : Nat) (s : PS) (w : World) (base n : Nat)
theorem memR_msg (x : DV) (depth : Int) (sub : PS → MD × PS) (hsub : ∀ W, Below w0.heap.size w0 W → Calls Tryz.prog 22 #[.agg #[.slice (some ⟨b, off, none⟩) s.l.length cap, .int .i64 s.cd, .int .i64 0, .int .i64 s.ln, .int .i64 s.cl], .int .i64 (depth + 1)] W (DclR w0 b n (sub s) W)) (hd0 : 0 ≤ depth) (hd8 : depth ≤ 8) (hi : isM s wMessage = true) (htot : tot x.d + 3 * muM s ≤ 300000) (h : StR w0 b off cap s) (hb : Below w0.heap.size w0 w) (hw : w0.heap.size ≤ base) (hlo : base ≤ w.heap.size) (ho : OwnD w base n 78 139 74 136 126 (fun _ => False) x) : Calls Tryz.prog 47 #[.agg #[.slice (some ⟨b, off, none⟩) s.l.length cap, .int .i64 s.cd, .int .i64 0, .int .i64 s.ln, .int .i64 s.cl], .agg #[.bool x.d.enum, .string (strOfNums x.d.name), .int .i64 x.d.at1.1, .int .i64 x.d.at1.2, x.f, x.o, x.dd, x.r, x.s], .int .i64 depth] w (MemR w0 b base n ({ x.d with decls := x.d.decls ++ [(sub s).1] }, (sub s).2) w) := by
  have HH := hid hi
  have HS := hid hsub
  clear hi hsub
  obtain ⟨xd, xf, xo, xdd, xr, xs⟩ := x
  dsimp only at *
  obtain ⟨fa, fc, rfl⟩ : ∃ a c, xf = .slice a xd.fields.length c := own_shape ho.f
  obtain ⟨oa, oc, rfl⟩ : ∃ a c, xo = .slice a xd.oneofs.length c := own_shape ho.o
  obtain ⟨ra, rc, rfl⟩ : ∃ a c, xr = .slice a xd.res.length c := own_shape ho.r
  obtain ⟨ya, yc, rfl⟩ : ∃ a c, xs = .slice a xd.syms.length c := own_shape ho.s
  obtain ⟨da, dc, rfl⟩ : ∃ a c, xdd = .slice a xd.decls.length c := ho.ddS
  have HTT := hid htot
  have HLO := hid hlo
  have HB := hid hb
  have G0 := hid (Mem.start h hb hw ho hlo)
  dsimp only at G0
  clear h hb hw ho htot hlo
  go_enter Tryz.func47, Tryz.ntmps47
  go_wp2_with fail
  refine (isR w0 b off cap s _ ⟨#[109, 101, 115, 115, 97, 103, 101]⟩ wMessage rfl (by decide) G0.out.st G0.out.un).mono ?_
  rintro e w1 ⟨rfl, hb1⟩
  have G1 := hid (G0.out.kept hb1)
  have hs1 := hb1.size
  try simp at hs1
  clear hb1
  have c_s := G1.out.sb.cellF
  have f_s := G1.out.sb.frz
  have l_s := G1.out.sb.lt
  have c_d := G1.out.db.cellF
  have f_d := G1.out.db.frz
  have l_d := G1.out.db.lt
  have c_6 := G1.out.r6.cellF
  have f_6 := G1.out.r6.frz
  have l_6 := G1.out.r6.lt
  have c_7 := G1.out.r7.cellF
  have f_7 := G1.out.r7.frz
  have l_7 := G1.out.r7.lt
  rw [HH.out]
  have hda : ¬ (9223372036854775807 : Int) < depth + 1 := by omega
  have hdb : (-9223372036854775808 : Int) ≤ depth + 1 := by omega
  have hdc : depth + 1 ≤ (9223372036854775807 : Int) := by omega
  go_wp2_with fail
  refine (HS.out _ G1.out.un).mono ?_
  rintro e w2 ⟨⟨y, s1, o1, c1, hyd, he, rfl, hrd, hst1⟩, hb2⟩
  have G2 := hid (G1.out.kept hb2)
  have hs2 := hb2.size
  clear hb2
  clear c_s f_s l_s c_d f_d l_d c_6 f_6 l_6 c_7 f_7 l_7
  have c_s := G2.out.sb.cellF
  have f_s := G2.out.sb.frz
  have l_s := G2.out.sb.lt
  have c_d := G2.out.db.cellF
  have f_d := G2.out.db.frz
  have l_d := G2.out.db.lt
  have c_6 := G2.out.r6.cellF
  have f_6 := G2.out.r6.frz
  have l_6 := G2.out.r6.lt
  have c_7 := G2.out.r7.cellF
  have f_7 := G2.out.r7.frz
  have l_7 := G2.out.r7.lt
  obtain ⟨⟨ga, gc, e1⟩, ⟨pa, pc, e2⟩, ⟨qa, qc, e3⟩, ⟨ta, tc, e4⟩, ⟨ea, ec, e5⟩⟩ := hrd.out.shape
  obtain ⟨yd, yf, yo, ydd, yr, ys⟩ := y
  dsimp only at *
  subst e1 e2 e3 e4 e5
  go_upto_region 3 with fail
  have GZ : Hid (Mem w0 b w base n ((w2.alloc (.cells #[.bool yd.enum, .string (strOfNums yd.name), .int .i64 yd.at1.1, .int .i64 yd.at1.2, .slice ga yd.fields.length gc, .slice pa yd.oneofs.length pc, .slice ea yd.decls.length ec, .slice qa yd.res.length qc, .slice ta yd.syms.length tc] 74)).alloc (.cells #[.slice (some ⟨b, o1, none⟩) s1.l.length c1, .int .i64 s1.cd, .int .i64 0, .int .i64 s1.ln, .int .i64 s1.cl] 54)) off cap s ⟨xd, .slice fa xd.fields.length fc, .slice oa xd.oneofs.length oc, .slice da xd.decls.length dc, .slice ra xd.res.length rc, .slice ya xd.syms.length yc⟩) := hid (G2.out.kept (below_twor _ _))
  have Bf : Blk ((w2.alloc (.cells #[.bool yd.enum, .string (strOfNums yd.name), .int .i64 yd.at1.1, .int .i64 yd.at1.2, .slice ga yd.fields.length gc, .slice pa yd.oneofs.length pc, .slice ea yd.decls.length ec, .slice qa yd.res.length qc, .slice ta yd.syms.length tc] 74)).alloc (.cells #[.slice (some ⟨b, o1, none⟩) s1.l.length c1, .int .i64 s1.cd, .int .i64 0, .int .i64 s1.ln, .int .i64 s1.cl] 54)) (w2.heap.size) 74 #[.bool yd.enum, .string (strOfNums yd.name), .int .i64 yd.at1.1, .int .i64 yd.at1.2, .slice ga yd.fields.length gc, .slice pa yd.oneofs.length pc, .slice ea yd.decls.length ec, .slice qa yd.res.length qc, .slice ta yd.syms.length tc] := (Blk.newAt rfl).kept (below_alloc _)
  have Bx : Blk ((w2.alloc (.cells #[.bool yd.enum, .string (strOfNums yd.name), .int .i64 yd.at1.1, .int .i64 yd.at1.2, .slice ga yd.fields.length gc, .slice pa yd.oneofs.length pc, .slice ea yd.decls.length ec, .slice qa yd.res.length qc, .slice ta yd.syms.length tc] 74)).alloc (.cells #[.slice (some ⟨b, o1, none⟩) s1.l.length c1, .int .i64 s1.cd, .int .i64 0, .int .i64 s1.ln, .int .i64 s1.cl] 54)) (w2.heap.size + 1) 54 #[.slice (some ⟨b, o1, none⟩) s1.l.length c1, .int .i64 s1.cd, .int .i64 0, .int .i64 s1.ln, .int .i64 s1.cl] := Blk.newAt (by simp)
  have HRD : Hid (RD n ((w2.alloc (.cells #[.bool yd.enum, .string (strOfNums yd.name), .int .i64 yd.at1.1, .int .i64 yd.at1.2, .slice ga yd.fields.length gc, .slice pa yd.oneofs.length pc, .slice ea yd.decls.length ec, .slice qa yd.res.length qc, .slice ta yd.syms.length tc] 74)).alloc (.cells #[.slice (some ⟨b, o1, none⟩) s1.l.length c1, .int .i64 s1.cd, .int .i64 0, .int .i64 s1.ln, .int .i64 s1.cl] 54)) (fun k => w1.heap.size ≤ k ∧ k < ((w2.alloc (.cells #[.bool yd.enum, .string (strOfNums yd.name), .int .i64 yd.at1.1, .int .i64 yd.at1.2, .slice ga yd.fields.length gc, .slice pa yd.oneofs.length pc, .slice ea yd.decls.length ec, .slice qa yd.res.length qc, .slice ta yd.syms.length tc] 74)).alloc (.cells #[.slice (some ⟨b, o1, none⟩) s1.l.length c1, .int .i64 s1.cd, .int .i64 0, .int .i64 s1.ln, .int .i64 s1.cl] 54)).heap.size) ⟨yd, .slice ga yd.fields.length gc, .slice pa yd.oneofs.length pc, .slice ea yd.decls.length ec, .slice qa yd.res.length qc, .slice ta yd.syms.length tc⟩) := hid (RD.weak (fun q hq => ⟨hq.1, by have := hq.2; simp; omega⟩) _ _ (RD.keep (Keep.ofBelow (f := fun _ => True) (below_twor _ _)) (fun _ _ => trivial) _ _ hrd.out))
  clear c_s f_s l_s c_d f_d l_d c_6 f_6 l_6 c_7 f_7 l_7 hrd
  generalize ((w2.alloc (.cells #[.bool yd.enum, .string (strOfNums yd.name), .int .i64 yd.at1.1, .int .i64 yd.at1.2, .slice ga yd.fields.length gc, .slice pa yd.oneofs.length pc, .slice ea yd.decls.length ec, .slice qa yd.res.length qc, .slice ta yd.syms.length tc] 74)).alloc (.cells #[.slice (some ⟨b, o1, none⟩) s1.l.length c1, .int .i64 s1.cd, .int .i64 0, .int .i64 s1.ln, .int .i64 s1.cl] 54)) = wz at *
  have c_f := Bf.cellF
  have c_x := Bx.cellF
  have l_f := Bf.lt
  have l_x := Bx.lt
  have c_s := GZ.out.sb.cellF
  have f_s := GZ.out.sb.frz
  have l_s := GZ.out.sb.lt
  have c_d := GZ.out.db.cellF
  have f_d := GZ.out.db.frz
  have l_d := GZ.out.db.lt
  have c_6 := GZ.out.r6.cellF
  have f_6 := GZ.out.r6.frz
  have l_6 := GZ.out.r6.lt
  have c_7 := GZ.out.r7.cellF
  have f_7 := GZ.out.r7.frz
  have l_7 := GZ.out.r7.lt
  obtain ⟨la, lc, x3, HRUN, HGR, HB3, _, G3⟩ := GZ.out.moreD (by have := HTT.out; unfold tot at this; dsimp only; omega) (N := w1.heap.size) G1.out.le (fun q hq => by rcases hq with hq | hq; exact (G1.out.own.lt hq).2; have := G1.out.r7.lt; omega) HRD.out
  dsimp only at HRUN HGR HB3 G3
  obtain ⟨_, dvs, _, hdd, _⟩ := GZ.out.own.dd
  have Bx3 : Blk x3 (w2.heap.size + 1) 54 #[.slice (some ⟨b, o1, none⟩) s1.l.length c1, .int .i64 s1.cd, .int .i64 0, .int .i64 s1.ln, .int .i64 s1.cl] := growR_blk HGR.out hdd Bx (by decide)
  have c_3 := HB3.out.cellF
  have f_3 := HB3.out.frz
  have l_3 := HB3.out.lt
  clear hdd
  go_wp2_with (first | (at_builtin; refine wpList_append_ran rfl _ _ 32 32 rfl rfl _ _ (.slice la (xd.decls.length + 1) lc) x3 rfl rfl HRUN.out ?_))
  have Bx4 : Blk (x3.setCell ⟨w.heap.size + 1, 6, none⟩ (.slice la (xd.decls.length + 1) lc)) (w2.heap.size + 1) 54 #[.slice (some ⟨b, o1, none⟩) s1.l.length c1, .int .i64 s1.cd, .int .i64 0, .int .i64 s1.ln, .int .i64 s1.cl] := Bx3.other (show w2.heap.size + 1 ≠ w.heap.size + 1 by omega) _
  clear c_s f_s l_s c_d f_d l_d c_6 f_6 l_6 c_7 f_7 l_7 c_3 f_3 l_3 c_f c_x l_f l_x Bx3 HB3 HRUN HGR Bf Bx
  generalize (x3.setCell ⟨w.heap.size + 1, 6, none⟩ (.slice la (xd.decls.length + 1) lc)) = x4 at *
  have c_x := Bx4.cellF
  have l_x := Bx4.lt
  have c_s := G3.out.sb.cellF
  have f_s := G3.out.sb.frz
  have l_s := G3.out.sb.lt
  have c_d := G3.out.db.cellF
  have f_d := G3.out.db.frz
  have l_d := G3.out.db.lt
  have c_6 := G3.out.r6.cellF
  have f_6 := G3.out.r6.frz
  have l_6 := G3.out.r6.lt
  have c_7 := G3.out.r7.cellF
  have f_7 := G3.out.r7.frz
  have l_7 := G3.out.r7.lt
  go_region
  all_goals go_wp2
  all_goals exact bodyPost_ret (v := .tuple #[.agg #[.bool xd.enum, .string (strOfNums xd.name), .int .i64 xd.at1.1, .int .i64 xd.at1.2, .slice fa xd.fields.length fc, .slice oa xd.oneofs.length oc, .slice la (xd.decls.length + 1) lc, .slice ra xd.res.length rc, .slice ya xd.syms.length yc], .agg #[.slice (some ⟨b, o1, none⟩) s1.l.length c1, .int .i64 s1.cd, .int .i64 0, .int .i64 s1.ln, .int .i64 s1.cl]]) (by simp [results, Tryz.results47, go_sem, c_6, c_7, l_6, l_7]) rfl (MemR.is _ s1 o1 c1 (hid (by rw [hyd.out])) he rfl (G3.out.fin (by exact kpBy)).1 hst1 (G3.out.fin (by exact kpBy)).2)
theorem memR_enum (x : DV) (depth : Int) (sub : PS → MD × PS) (hsub : ∀ W, Below w0.heap.size w0 W → Calls Tryz.prog 22 #[.agg #[.slice (some ⟨b, off, none⟩) s.l.length cap, .int .i64 s.cd, .int .i64 0, .int .i64 s.ln, .int .i64 s.cl], .int .i64 (depth + 1)] W (DclR w0 b n (sub s) W)) (hd0 : 0 ≤ depth) (hd8 : depth ≤ 8) (hi : isM s wEnum = true) (htot : tot x.d + 3 * muM s ≤ 300000) (h : StR w0 b off cap s) (hb : Below w0.heap.size w0 w) (hw : w0.heap.size ≤ base) (hlo : base ≤ w.heap.size) (ho : OwnD w base n 78 139 74 136 126 (fun _ => False) x) : Calls Tryz.prog 47 #[.agg #[.slice (some ⟨b, off, none⟩) s.l.length cap, .int .i64 s.cd, .int .i64 0, .int .i64 s.ln, .int .i64 s.cl], .agg #[.bool x.d.enum, .string (strOfNums x.d.name), .int .i64 x.d.at1.1, .int .i64 x.d.at1.2, x.f, x.o, x.dd, x.r, x.s], .int .i64 depth] w (MemR w0 b base n ({ x.d with decls := x.d.decls ++ [(sub s).1] }, (sub s).2) w) := by
  have HH := hid hi
  have HS := hid hsub
  clear hi hsub
  obtain ⟨xd, xf, xo, xdd, xr, xs⟩ := x
  dsimp only at *
  obtain ⟨fa, fc, rfl⟩ : ∃ a c, xf = .slice a xd.fields.length c := own_shape ho.f
  obtain ⟨oa, oc, rfl⟩ : ∃ a c, xo = .slice a xd.oneofs.length c := own_shape ho.o
  obtain ⟨ra, rc, rfl⟩ : ∃ a c, xr = .slice a xd.res.length c := own_shape ho.r
  obtain ⟨ya, yc, rfl⟩ : ∃ a c, xs = .slice a xd.syms.length c := own_shape ho.s
  obtain ⟨da, dc, rfl⟩ : ∃ a c, xdd = .slice a xd.decls.length c := ho.ddS
  have HTT := hid htot
  have HLO := hid hlo
  have HB := hid hb
  have G0 := hid (Mem.start h hb hw ho hlo)
  dsimp only at G0
  clear h hb hw ho htot hlo
  go_enter Tryz.func47, Tryz.ntmps47
  go_wp2_with fail
  refine (isR w0 b off cap s _ ⟨#[109, 101, 115, 115, 97, 103, 101]⟩ wMessage rfl (by decide) G0.out.st G0.out.un).mono ?_
  rintro e w1 ⟨rfl, hb1⟩
  have G1 := hid (G0.out.kept hb1)
  have hs1 := hb1.size
  try simp at hs1
  clear hb1
  have c_s := G1.out.sb.cellF
  have f_s := G1.out.sb.frz
  have l_s := G1.out.sb.lt
  have c_d := G1.out.db.cellF
  have f_d := G1.out.db.frz
  have l_d := G1.out.db.lt
  have c_6 := G1.out.r6.cellF
  have f_6 := G1.out.r6.frz
  have l_6 := G1.out.r6.lt
  have c_7 := G1.out.r7.cellF
  have f_7 := G1.out.r7.frz
  have l_7 := G1.out.r7.lt
  rw [isR_other HH.out (by decide)]
  go_wp2_with fail
  refine (isR w0 b off cap s _ ⟨#[101, 110, 117, 109]⟩ wEnum rfl (by decide) G1.out.st G1.out.un).mono ?_
  rintro e w2 ⟨rfl, hb2⟩
  have G2 := hid (G1.out.kept hb2)
  have hs2 := hb2.size
  try simp at hs2
  clear hb2
  clear c_s f_s l_s c_d f_d l_d c_6 f_6 l_6 c_7 f_7 l_7
  have c_s := G2.out.sb.cellF
  have f_s := G2.out.sb.frz
  have l_s := G2.out.sb.lt
  have c_d := G2.out.db.cellF
  have f_d := G2.out.db.frz
  have l_d := G2.out.db.lt
  have c_6 := G2.out.r6.cellF
  have f_6 := G2.out.r6.frz
  have l_6 := G2.out.r6.lt
  have c_7 := G2.out.r7.cellF
  have f_7 := G2.out.r7.frz
  have l_7 := G2.out.r7.lt
  rw [HH.out]
  have hda : ¬ (9223372036854775807 : Int) < depth + 1 := by omega
  have hdb : (-9223372036854775808 : Int) ≤ depth + 1 := by omega
  have hdc : depth + 1 ≤ (9223372036854775807 : Int) := by omega
  go_wp2_with fail
  refine (HS.out _ G2.out.un).mono ?_
  rintro e w3 ⟨⟨y, s1, o1, c1, hyd, he, rfl, hrd, hst1⟩, hb3⟩
  have G3 := hid (G2.out.kept hb3)
  have hs3 := hb3.size
  clear hb3
  clear c_s f_s l_s c_d f_d l_d c_6 f_6 l_6 c_7 f_7 l_7
  have c_s := G3.out.sb.cellF
  have f_s := G3.out.sb.frz
  have l_s := G3.out.sb.lt
  have c_d := G3.out.db.cellF
  have f_d := G3.out.db.frz
  have l_d := G3.out.db.lt
  have c_6 := G3.out.r6.cellF
  have f_6 := G3.out.r6.frz
  have l_6 := G3.out.r6.lt
  have c_7 := G3.out.r7.cellF
  have f_7 := G3.out.r7.frz
  have l_7 := G3.out.r7.lt
  obtain ⟨⟨ga, gc, e1⟩, ⟨pa, pc, e2⟩, ⟨qa, qc, e3⟩, ⟨ta, tc, e4⟩, ⟨ea, ec, e5⟩⟩ := hrd.out.shape
  obtain ⟨yd, yf, yo, ydd, yr, ys⟩ := y
  dsimp only at *
  subst e1 e2 e3 e4 e5
  go_upto_region 3 with fail
  have GZ : Hid (Mem w0 b w base n ((w3.alloc (.cells #[.bool yd.enum, .string (strOfNums yd.name), .int .i64 yd.at1.1, .int .i64 yd.at1.2, .slice ga yd.fields.length gc, .slice pa yd.oneofs.length pc, .slice ea yd.decls.length ec, .slice qa yd.res.length qc, .slice ta yd.syms.length tc] 74)).alloc (.cells #[.slice (some ⟨b, o1, none⟩) s1.l.length c1, .int .i64 s1.cd, .int .i64 0, .int .i64 s1.ln, .int .i64 s1.cl] 54)) off cap s ⟨xd, .slice fa xd.fields.length fc, .slice oa xd.oneofs.length oc, .slice da xd.decls.length dc, .slice ra xd.res.length rc, .slice ya xd.syms.length yc⟩) := hid (G3.out.kept (below_twor _ _))
  have Bf : Blk ((w3.alloc (.cells #[.bool yd.enum, .string (strOfNums yd.name), .int .i64 yd.at1.1, .int .i64 yd.at1.2, .slice ga yd.fields.length gc, .slice pa yd.oneofs.length pc, .slice ea yd.decls.length ec, .slice qa yd.res.length qc, .slice ta yd.syms.length tc] 74)).alloc (.cells #[.slice (some ⟨b, o1, none⟩) s1.l.length c1, .int .i64 s1.cd, .int .i64 0, .int .i64 s1.ln, .int .i64 s1.cl] 54)) (w3.heap.size) 74 #[.bool yd.enum, .string (strOfNums yd.name), .int .i64 yd.at1.1, .int .i64 yd.at1.2, .slice ga yd.fields.length gc, .slice pa yd.oneofs.length pc, .slice ea yd.decls.length ec, .slice qa yd.res.length qc, .slice ta yd.syms.length tc] := (Blk.newAt rfl).kept (below_alloc _)
  have Bx : Blk ((w3.alloc (.cells #[.bool yd.enum, .string (strOfNums yd.name), .int .i64 yd.at1.1, .int .i64 yd.at1.2, .slice ga yd.fields.length gc, .slice pa yd.oneofs.length pc, .slice ea yd.decls.length ec, .slice qa yd.res.length qc, .slice ta yd.syms.length tc] 74)).alloc (.cells #[.slice (some ⟨b, o1, none⟩) s1.l.length c1, .int .i64 s1.cd, .int .i64 0, .int .i64 s1.ln, .int .i64 s1.cl] 54)) (w3.heap.size + 1) 54 #[.slice (some ⟨b, o1, none⟩) s1.l.length c1, .int .i64 s1.cd, .int .i64 0, .int .i64 s1.ln, .int .i64 s1.cl] := Blk.newAt (by simp)
  have HRD : Hid (RD n ((w3.alloc (.cells #[.bool yd.enum, .string (strOfNums yd.name), .int .i64 yd.at1.1, .int .i64 yd.at1.2, .slice ga yd.fields.length gc, .slice pa yd.oneofs.length pc, .slice ea yd.decls.length ec, .slice qa yd.res.length qc, .slice ta yd.syms.length tc] 74)).alloc (.cells #[.slice (some ⟨b, o1, none⟩) s1.l.length c1, .int .i64 s1.cd, .int .i64 0, .int .i64 s1.ln, .int .i64 s1.cl] 54)) (fun k => w2.heap.size ≤ k ∧ k < ((w3.alloc (.cells #[.bool yd.enum, .string (strOfNums yd.name), .int .i64 yd.at1.1, .int .i64 yd.at1.2, .slice ga yd.fields.length gc, .slice pa yd.oneofs.length pc, .slice ea yd.decls.length ec, .slice qa yd.res.length qc, .slice ta yd.syms.length tc] 74)).alloc (.cells #[.slice (some ⟨b, o1, none⟩) s1.l.length c1, .int .i64 s1.cd, .int .i64 0, .int .i64 s1.ln, .int .i64 s1.cl] 54)).heap.size) ⟨yd, .slice ga yd.fields.length gc, .slice pa yd.oneofs.length pc, .slice ea yd.decls.length ec, .slice qa yd.res.length qc, .slice ta yd.syms.length tc⟩) := hid (RD.weak (fun q hq => ⟨hq.1, by have := hq.2; simp; omega⟩) _ _ (RD.keep (Keep.ofBelow (f := fun _ => True) (below_twor _ _)) (fun _ _ => trivial) _ _ hrd.out))
  clear c_s f_s l_s c_d f_d l_d c_6 f_6 l_6 c_7 f_7 l_7 hrd
  generalize ((w3.alloc (.cells #[.bool yd.enum, .string (strOfNums yd.name), .int .i64 yd.at1.1, .int .i64 yd.at1.2, .slice ga yd.fields.length gc, .slice pa yd.oneofs.length pc, .slice ea yd.decls.length ec, .slice qa yd.res.length qc, .slice ta yd.syms.length tc] 74)).alloc (.cells #[.slice (some ⟨b, o1, none⟩) s1.l.length c1, .int .i64 s1.cd, .int .i64 0, .int .i64 s1.ln, .int .i64 s1.cl] 54)) = wz at *
  have c_f := Bf.cellF
  have c_x := Bx.cellF
  have l_f := Bf.lt
  have l_x := Bx.lt
  have c_s := GZ.out.sb.cellF
  have f_s := GZ.out.sb.frz
  have l_s := GZ.out.sb.lt
  have c_d := GZ.out.db.cellF
  have f_d := GZ.out.db.frz
  have l_d := GZ.out.db.lt
  have c_6 := GZ.out.r6.cellF
  have f_6 := GZ.out.r6.frz
  have l_6 := GZ.out.r6.lt
  have c_7 := GZ.out.r7.cellF
  have f_7 := GZ.out.r7.frz
  have l_7 := GZ.out.r7.lt
  obtain ⟨la, lc, x3, HRUN, HGR, HB3, _, G3⟩ := GZ.out.moreD (by have := HTT.out; unfold tot at this; dsimp only; omega) (N := w2.heap.size) G2.out.le (fun q hq => by rcases hq with hq | hq; exact (G2.out.own.lt hq).2; have := G2.out.r7.lt; omega) HRD.out
  dsimp only at HRUN HGR HB3 G3
  obtain ⟨_, dvs, _, hdd, _⟩ := GZ.out.own.dd
  have Bx3 : Blk x3 (w3.heap.size + 1) 54 #[.slice (some ⟨b, o1, none⟩) s1.l.length c1, .int .i64 s1.cd, .int .i64 0, .int .i64 s1.ln, .int .i64 s1.cl] := growR_blk HGR.out hdd Bx (by decide)
  have c_3 := HB3.out.cellF
  have f_3 := HB3.out.frz
  have l_3 := HB3.out.lt
  clear hdd
  go_wp2_with (first | (at_builtin; refine wpList_append_ran rfl _ _ 32 32 rfl rfl _ _ (.slice la (xd.decls.length + 1) lc) x3 rfl rfl HRUN.out ?_))
  have Bx4 : Blk (x3.setCell ⟨w.heap.size + 1, 6, none⟩ (.slice la (xd.decls.length + 1) lc)) (w3.heap.size + 1) 54 #[.slice (some ⟨b, o1, none⟩) s1.l.length c1, .int .i64 s1.cd, .int .i64 0, .int .i64 s1.ln, .int .i64 s1.cl] := Bx3.other (show w3.heap.size + 1 ≠ w.heap.size + 1 by omega) _
  clear c_s f_s l_s c_d f_d l_d c_6 f_6 l_6 c_7 f_7 l_7 c_3 f_3 l_3 c_f c_x l_f l_x Bx3 HB3 HRUN HGR Bf Bx
  generalize (x3.setCell ⟨w.heap.size + 1, 6, none⟩ (.slice la (xd.decls.length + 1) lc)) = x4 at *
  have c_x := Bx4.cellF
  have l_x := Bx4.lt
  have c_s := G3.out.sb.cellF
  have f_s := G3.out.sb.frz
  have l_s := G3.out.sb.lt
  have c_d := G3.out.db.cellF
  have f_d := G3.out.db.frz
  have l_d := G3.out.db.lt
  have c_6 := G3.out.r6.cellF
  have f_6 := G3.out.r6.frz
  have l_6 := G3.out.r6.lt
  have c_7 := G3.out.r7.cellF
  have f_7 := G3.out.r7.frz
  have l_7 := G3.out.r7.lt
  go_region
  all_goals go_wp2
  all_goals exact bodyPost_ret (v := .tuple #[.agg #[.bool xd.enum, .string (strOfNums xd.name), .int .i64 xd.at1.1, .int .i64 xd.at1.2, .slice fa xd.fields.length fc, .slice oa xd.oneofs.length oc, .slice la (xd.decls.length + 1) lc, .slice ra xd.res.length rc, .slice ya xd.syms.length yc], .agg #[.slice (some ⟨b, o1, none⟩) s1.l.length c1, .int .i64 s1.cd, .int .i64 0, .int .i64 s1.ln, .int .i64 s1.cl]]) (by simp [results, Tryz.results47, go_sem, c_6, c_7, l_6, l_7]) rfl (MemR.is _ s1 o1 c1 (hid (by rw [hyd.out])) he rfl (G3.out.fin (by exact kpBy)).1 hst1 (G3.out.fin (by exact kpBy)).2)
end
end Go.Proofs.YtidimdbnnnpplaaGreatDoor
