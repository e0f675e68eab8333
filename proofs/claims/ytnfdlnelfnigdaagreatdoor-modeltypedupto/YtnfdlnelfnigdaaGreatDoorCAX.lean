/-
  Walks over the program's counting of characters: count, Valid.
  Values of a kind.
  A symbol of a number.
  A value of a field.
-/
import Derived.Test.YtnfdlnelfnigdaaGreatDoorCAR
import Derived.Test.YtnfdlnelfnigdaaGreatDoorCTZ
import Derived.Deep.RegionHeld3
namespace Go.Proofs.YtnfdlnelfnigdaaGreatDoor
open Go.RowKit
set_option maxRecDepth 1000000
set_option linter.unusedVariables false
set_option linter.unusedSimpArgs false
theorem str_list8 (xs : List Int) : (strOfNums xs).toList = xs.map fun n => UInt8.ofNat n.toNat := by
  rw [strOfNums, ByteArray.toList_mk]
theorem str_cut8 (xs : List Int) (a b : Nat) : (strOfNums xs).extract a b = strOfNums ((xs.take b).drop a) := by
  apply ByteArray.ext
  apply Array.ext'
  simp [strOfNums, ByteArray.data_extract, List.map_drop, List.map_take, List.drop_take]
theorem str_eq8 {xs ys : List Int} (hx : ∀ x ∈ xs, 0 ≤ x ∧ x ≤ 255) (hy : ∀ x ∈ ys, 0 ≤ x ∧ x ≤ 255) : ((strOfNums xs).toList == (strOfNums ys).toList) = decide (xs = ys) := by
  by_cases h : xs = ys
  · subst h; simp
  · have : (strOfNums xs).toList ≠ (strOfNums ys).toList := fun e => h (strOfNums_inj xs ys hx hy (by
      apply ByteArray.ext; apply Array.ext'
      rw [str_list8, str_list8] at e
      simpa [strOfNums] using e))
    simp [h, this]
def preB (l : List Int) : Bool := decide (l.take 3 = [239, 191, 189])
theorem preB_iff (l : List Int) : preB l = true ↔ pre l := by simp [preB, pre]
theorem prefixS (l : List Int) (w : World) (hl : l.length ≤ 9223372036854775807) (hb : ∀ x ∈ l, 0 ≤ x ∧ x ≤ 255) : Calls Tryz.prog 224 #[.string (strOfNums l), .string ⟨#[239, 191, 189]⟩] w fun e w' => e = .returned (.bool (preB l)) ∧ w = w' := by
  have hs := strOfNums_size l
  have h1 : Hid ((((strOfNums l).extract 0 3).toList == [239, 191, 189]) = preB l) := by
    show _ = _
    rw [str_cut8, List.drop_zero, show ([239, 191, 189] : List UInt8) = (strOfNums [239, 191, 189]).toList by rw [str_list8]; rfl, str_eq8 (fun x hx => hb x (List.mem_of_mem_take hx)) (by simp)]
    rfl
  have h2 : Hid ((l.length : Int) < 3 → preB l = false) := fun h => by
    unfold preB
    simp
    intro e
    have := congrArg List.length e
    simp at this
    omega
  go_enter Tryz.func224, Tryz.ntmps224
  go_wp2
  · go_ret
    exact ⟨ret_bool h1.out, rfl⟩
  · go_ret
    exact ⟨ret_bool (h2.out ‹_›).symm, rfl⟩
theorem prefixW (l : List Int) (w : World) (hl : l.length ≤ 9223372036854775807) (hb : ∀ x ∈ l, 0 ≤ x ∧ x ≤ 255) : Calls Tryz.prog 215 #[.string (strOfNums l), .string ⟨#[239, 191, 189]⟩] w fun e w' => e = .returned (.bool (preB l)) ∧ w = w' := by
  go_enter Tryz.func215, Tryz.ntmps215
  go_wp2_with (go_at_call 224; refine (prefixS l _ hl hb).mono ?_; rintro e w' ⟨rfl, rfl⟩)
  go_ret
  exact ⟨rfl, rfl⟩
/-- One step of the counting. -/
theorem rn_step {xs : List Int} {pos f : Nat} {n : Int} (h : pos < xs.length) (hc : chr (xs.drop pos) ≠ 0) : rnF (f + 1) (xs.drop pos) n = rnF f (xs.drop (pos + chr (xs.drop pos))) (n + 1) := by
  rw [rnF, if_neg (by simp; omega), if_neg hc, List.drop_drop]
theorem rn_bad {xs : List Int} {pos f : Nat} {n : Int} (h : pos < xs.length) (hc : chr (xs.drop pos) = 0) : rnF (f + 1) (xs.drop pos) n = -1 := by
  rw [rnF, if_neg (by simp; omega), if_pos hc]
theorem rn_end {xs : List Int} {pos f : Nat} {n : Int} (h : ¬ pos < xs.length) : rnF f (xs.drop pos) n = n := by
  rw [List.drop_eq_nil_of_le (by omega), rnF_nil]
set_option maxRecDepth 1000000 in
set_option maxHeartbeats 1000000 in
theorem countM (Z : Nat → Prop) (a : Option Addr) (cap : Nat) (xs : List Int) (w : World) (h : ByE w Z (.slice a xs.length cap) xs) :
    Calls Tryz.prog 197 #[.slice a xs.length cap] w fun e w' => e = .returned (.tuple #[.int .i64 (max (rn xs) 0), .bool (decide (0 ≤ rn xs))]) ∧ ∃ pos, w' = w.iter (strOfNums xs) pos := by
  have hcv := by_conv h
  have hb := h.2.1
  have hmax : xs.length ≤ 9223372036854775807 := by have := h.2.2; omega
  have hsz := strOfNums_size xs
  clear h
  go_enter Tryz.func197, Tryz.ntmps197
  go_wp2
  go_loopw [2] (fun n w' => ∃ (pos b : Nat) (acc : Int), w' = w.iter (strOfNums xs) pos ∧ n = .int .i64 acc ∧ 0 ≤ acc ∧ acc ≤ pos ∧ pos ≤ xs.length ∧ Hid (rnF b (xs.drop pos) acc = rn xs) ∧ xs.length ≤ pos + b) (fun _ w' => xs.length - w'.iterPos w.heap.size)
  case atStart => exact ⟨0, xs.length, 0, rfl, rfl, by omega, by omega, by omega, by rw [List.drop_zero]; rfl, by omega⟩
  case round =>
    obtain ⟨pos, b, acc, rfl, rfl, ha0, hap, hpl, HR, hbb⟩ := hrel
    by_cases hp : pos < xs.length
    · have hps : pos < (strOfNums xs).size := by rw [hsz]; exact hp
      have hnx : ∀ ty, (Instr.next (.pointer (some ⟨w.heap.size, 0, none⟩)) true ty).run Tryz.prog (w.iter (strOfNums xs) pos) = _ := fun ty => run_next_any w (strOfNums xs) pos ty hps
      obtain ⟨d1, d2⟩ := dec_chr hb hp
      have HC : Hid (chr (xs.drop pos) ≤ xs.length - pos) := hid (by
        have := chr_len (l := xs.drop pos) (fun x hx => hb x (List.mem_of_mem_drop hx))
        simpa using this)
      have hcut : (strOfNums xs).extract pos xs.length = strOfNums (xs.drop pos) := by rw [str_cut8, List.take_length]
      have hdl : (xs.drop pos).length ≤ 9223372036854775807 := by simp; omega
      have hdb : ∀ x ∈ xs.drop pos, 0 ≤ x ∧ x ≤ 255 := fun x hx => hb x (List.mem_of_mem_drop hx)
      obtain ⟨b, rfl⟩ : ∃ b', b = b' + 1 := ⟨b - 1, by omega⟩
      by_cases hc : chr (xs.drop pos) = 0
      · obtain ⟨e1, e2⟩ := d1 hc
        have HM : Hid (rn xs = -1) := by show _ = _; rw [← HR.out, rn_bad hp hc]
        rw [e1] at hnx
        have hpre : preB (xs.drop pos) = false := by rw [Bool.eq_false_iff]; exact fun h => e2 ((preB_iff _).1 h)
        have Hdl := hid hdl
        have Hdb := hid hdb
        clear d1 d2 HR e1 e2 HC hdl hdb
        go_wp2_with (go_at_call 215; refine (prefixW (xs.drop pos) _ Hdl.out Hdb.out).mono ?_; rintro e w' ⟨rfl, rfl⟩)
        try rw [Exit.noGoto_ret]
        go_ret2
        exact ⟨by rw [HM.out]; rfl, _, rfl⟩
      · obtain ⟨e1, e2⟩ := d2 hc
        have HS : Hid (rnF b (xs.drop (pos + chr (xs.drop pos))) (acc + 1) = rn xs) := by show _ = _; rw [← HR.out, rn_step hp hc]
        rw [e1] at hnx
        clear d1 d2 HR e1
        by_cases hr : ((Utf8.decode (strOfNums xs) pos).1 : Int) = 65533
        · have hpre : preB (xs.drop pos) = true := (preB_iff _).2 (e2 (by omega))
          rw [hr] at hnx
          have Hdl := hid hdl
          have Hdb := hid hdb
          have Hc := hid hc
          clear e2 hr hdl hdb hc
          go_wp2_with (go_at_call 215; refine (prefixW (xs.drop pos) _ Hdl.out Hdb.out).mono ?_; rintro e w' ⟨rfl, rfl⟩)
          have := HC.out
          have := Hc.out
          exact ⟨⟨pos + chr (xs.drop pos), b, acc + 1, rfl, by go_num, by omega, by omega, by omega, HS, by omega⟩, by rw [World.iterPos_iter, World.iterPos_iter]; omega⟩
        · have hr' : (((Utf8.decode (strOfNums xs) pos).1 : Int) == 65533) = false := by simpa using hr
          have Hc := hid hc
          generalize ((Utf8.decode (strOfNums xs) pos).1 : Int) = rr at *
          clear e2 hr hdl hdb hc
          go_wp2
          have := HC.out
          have := Hc.out
          exact ⟨⟨pos + chr (xs.drop pos), b, acc + 1, rfl, by go_num, by omega, by omega, by omega, HS, by omega⟩, by rw [World.iterPos_iter, World.iterPos_iter]; omega⟩
    · have hnx : ∀ ty, (Instr.next (.pointer (some ⟨w.heap.size, 0, none⟩)) true ty).run Tryz.prog (w.iter (strOfNums xs) pos) = _ := fun ty => run_next_end w (strOfNums xs) pos ty (by rw [hsz]; exact hp)
      have HE : Hid (acc = rn xs) := by show _ = _; rw [← HR.out, rn_end hp]
      clear HR
      go_wp2
      go_ret2
      have := HE.out
      exact ⟨by subst this; simp [ha0, Int.max_eq_left ha0], _, rfl⟩
theorem validM (Z : Nat → Prop) (a : Option Addr) (cap : Nat) (xs : List Int) (w : World) (h : ByE w Z (.slice a xs.length cap) xs) :
    Calls Tryz.prog 176 #[.slice a xs.length cap] w fun e w' => e = .returned (.bool (decide (0 ≤ rn xs))) ∧ Below w.heap.size w w' := by
  have H := hid h
  clear h
  go_enter Tryz.func176, Tryz.ntmps176
  go_wp2_with (go_at_call 197; refine (countM Z a cap xs _ H.out).mono ?_; rintro e w' ⟨rfl, pos, rfl⟩)
  go_ret
  exact ⟨rfl, below_alloc _⟩
set_option maxHeartbeats 1000000
/-- A value of a kind that is no Enum's and no Message's. -/
def scalarB (k : Int) (v : CV CM) : Bool := vfit k v.n v.b.length v.ms.length && (!(k == 14) || decide (0 ≤ rn v.b))
theorem isScalarM (w : World) (Z : Nat → Prop) (d : Nat) (k : Int) (cs : List Value) (v : CV CM) (h : ValE w Z (MsgE w Z d) cs v) : Calls Tryz.prog 144 #[.int .i64 k, .agg cs.toArray] w fun e w' => e = .returned (.bool (scalarB k v)) ∧ Below w.heap.size w w' := by
  obtain ⟨ba, bc, ma, mc, rfl, g1, -, l1, l2, hu⟩ := val_open h
  have HF := hid fun W => fitsW k v.n ba ma v.b.length bc v.ms.length mc W hu.1 hu.2 (by omega) (by omega)
  have HV := hid fun W (hW : Below w.heap.size w W) => validM Z ba bc v.b W (g1.kept hW)
  have HX : Hid (scalarB k v = (vfit k v.n v.b.length v.ms.length && (!(k == 14) || decide (0 ≤ rn v.b)))) := hid rfl
  clear h g1 hu
  generalize decide (0 ≤ rn v.b) = q at *
  cases hq : vfit k v.n v.b.length v.ms.length with
  | false =>
    rw [hq] at HX HF
    go_enter Tryz.func144, Tryz.ntmps144
    go_wp2_with fail
    refine (HF.out _).mono ?_
    rintro e w1 ⟨rfl, hb1⟩
    have B1 : Blk w1 w.heap.size 26 #[.int .u64 v.n, .slice ba v.b.length bc, .slice ma v.ms.length mc] := (Blk.new _ _ _).kept hb1
    have hbz : Hid (Below w.heap.size w w1) := hid (bl_then (by exact blBy) hb1)
    clear hb1 HF
    have x1 := B1.cellF
    have z1 := B1.lt
    go_wp2
    go_ret
    exact ⟨ret_bool HX.out.symm, hbz.out⟩
  | true =>
    rw [hq, Bool.true_and] at HX
    rw [hq] at HF
    by_cases h14 : k = 14
    · subst h14
      have HX2 : Hid (scalarB 14 v = q) := hid (by rw [HX.out]; simp)
      go_enter Tryz.func144, Tryz.ntmps144
      go_wp2_with fail
      refine (HF.out _).mono ?_
      rintro e w1 ⟨rfl, hb1⟩
      have B1 : Blk w1 w.heap.size 26 #[.int .u64 v.n, .slice ba v.b.length bc, .slice ma v.ms.length mc] := (Blk.new _ _ _).kept hb1
      have hbz : Hid (Below w.heap.size w w1) := hid (bl_then (by exact blBy) hb1)
      clear hb1 HF
      have x1 := B1.cellF
      have z1 := B1.lt
      go_wp2_with (refine (HV.out _ hbz.out).mono ?_; rintro e w2 ⟨rfl, hb2⟩; have hb2' := hid hb2; clear hb2)
      go_ret
      exact ⟨ret_bool HX2.out.symm, bl_then hbz.out hb2'.out⟩
    · have kn : (k != 14) = true := by simpa using h14
      have kq : (k == 14) = false := by simpa using h14
      have HX2 : Hid (scalarB k v = true) := hid (by rw [HX.out, kq]; rfl)
      go_enter Tryz.func144, Tryz.ntmps144
      go_wp2_with fail
      refine (HF.out _).mono ?_
      rintro e w1 ⟨rfl, hb1⟩
      have B1 : Blk w1 w.heap.size 26 #[.int .u64 v.n, .slice ba v.b.length bc, .slice ma v.ms.length mc] := (Blk.new _ _ _).kept hb1
      have hbz : Hid (Below w.heap.size w w1) := hid (bl_then (by exact blBy) hb1)
      clear hb1 HF
      have x1 := B1.cellF
      have z1 := B1.lt
      go_wp2
      go_ret
      exact ⟨ret_bool HX2.out.symm, hbz.out⟩
def symN (n : Int) (s : SY) : Bool := s.num % 18446744073709551616 == n
theorem symFn (w : World) (s : SY) (p : Nat) (n : Int) (hp : Blk w p 22 #[.int .u64 n]) : Calls Tryz.prog 196 #[.agg #[.string (strOfNums s.name), .int .i64 s.num], .pointer (some ⟨p, 0, none⟩)] w fun e w' => e = .returned (.bool (symN n s)) ∧ Below w.heap.size w w' := by
  have HX : Hid ((IntKind.u64.wrap s.num == n) = symN n s) := hid (by unfold symN; rw [IntKind.wrap_u64])
  have x1 := hp.cellF
  have z1 := hp.lt
  go_enter Tryz.func196, Tryz.ntmps196
  go_wp2
  go_ret
  exact ⟨ret_bool HX.out, by exact blBy⟩
theorem cfSym (args : Array Value) (W : World) : (callFunc 196 args).run Tryz.prog W = .ok (.enter 196 args) W := cf_enter Tryz.func196 (by kernel_rfl) (by kernel_rfl) args W
theorem idxSym (w : World) (xs : List SY) (a : Option Addr) (c : Nat) (h : RowS w AnyZ 2 (.slice a xs.length c) xs.length (xs.flatMap cSY)) (p : Nat) (n : Int) (hp : Blk w p 22 #[.int .u64 n]) : Calls Tryz.prog 223 #[.slice a xs.length c, .func (.func 196) #[] #[.pointer (some ⟨p, 0, none⟩)]] w fun e w' => e = .returned (.int .i64 (fnd (symN n) xs 0)) ∧ Below w.heap.size w w' := by
  obtain ⟨_, _, e1, l1⟩ := rowS_sl h
  clear e1
  have m1 : (xs.length : Int) ≤ 9223372036854775807 := by omega
  have H1 := hid h
  have HP := hid hp
  have hcf := cfSym
  clear h hp
  go_enter Tryz.func223, Tryz.ntmps223
  go_wp2
  go_loopw [8] (fun r wr => ∃ j : Nat, r = .int .i64 j ∧ j ≤ xs.length ∧ Hid (fnd (symN n) xs 0 = fnd (symN n) (xs.drop j) j) ∧ Hid (Below w.heap.size w wr)) (fun r wr => xs.length - numAt wr r)
  case atStart => exact ⟨0, rfl, by omega, hid rfl, hid (Below.refl _ _)⟩
  case round =>
    obtain ⟨j, rfl, hj, hf, hb⟩ := hrel
    by_cases hlt : j < xs.length
    · have h2 : (j : Int) < (xs.length : Int) := by omega
      obtain ⟨b1, o1, rfl, hb1, c0, c1⟩ := rowY (H1.out.kept hb.out) hlt
      have HST := hid (fnd_at (p := symN n) hlt)
      generalize xs[j] = s at *
      go_wp2_with fail
      refine (symFn _ s p n (HP.out.kept (by have := hb.out; exact blBy))).mono ?_
      rintro e w1 ⟨rfl, hb1⟩
      have HB1 : Hid (Below w.heap.size w w1) := hid (bl_then (by have := hb.out; exact blBy) hb1)
      clear hb1
      cases hq : symN n s with
      | true =>
        go_wp2
        go_ret
        exact ⟨ret_int (by rw [hf.out, HST.out, hq]; simp), HB1.out⟩
      | false =>
        go_wp2
        exact ⟨⟨j + 1, by simp, by omega, hid (by rw [hf.out, HST.out, hq]; simp), HB1⟩, by simp [numAt]; omega⟩
    · have h2 : ¬ (j : Int) < (xs.length : Int) := by omega
      have HE : Hid (fnd (symN n) xs 0 = -1) := hid (by rw [hf.out, List.drop_of_length_le (by omega)]; rfl)
      go_wp2
      go_ret
      exact ⟨ret_int (by rw [HE.out]), hb.out⟩
theorem find_any8 {α : Type} (p : α → Bool) : ∀ l : List α, (l.find? p).isSome = l.any p
  | [] => rfl
  | x :: r => by
    rw [List.find?_cons, List.any_cons]
    cases h : p x with
    | true => rfl
    | false => exact find_any8 p r
/-- What firstOf answers. -/
def tSY (o : Option SY) : Value := match o with
  | some s => .tuple #[.agg #[.string (strOfNums s.name), .int .i64 s.num], .bool true]
  | none => .tuple #[.agg #[.string ⟨#[]⟩, .int .i64 0], .bool false]
theorem firstSy (w : World) (xs : List SY) (a : Option Addr) (c : Nat) (h : RowS w AnyZ 2 (.slice a xs.length c) xs.length (xs.flatMap cSY)) (fv : Value) (P : SY → Bool)
    (hidx : ∀ W, Below w.heap.size w W → Calls Tryz.prog 223 #[.slice a xs.length c, fv] W fun e w' => e = .returned (.int .i64 (fnd P xs 0)) ∧ Below W.heap.size W w') : Calls Tryz.prog 214 #[.slice a xs.length c, fv] w fun e w' => e = .returned (tSY (xs.find? P)) ∧ Below w.heap.size w w' := by
  obtain ⟨_, _, e1, l1⟩ := rowS_sl h
  clear e1
  have m1 : (xs.length : Int) ≤ 9223372036854775807 := by omega
  have HI := hid hidx
  rcases fnd_find P xs 0 with ⟨hq, hf⟩ | ⟨j, hj, hq, hf⟩
  · rw [fnd_ge P xs 0 hq] at HI
    rw [hf]
    clear h hidx hq hf
    go_enter Tryz.func214, Tryz.ntmps214
    go_wp2_with fail
    refine (HI.out _ (by first | exact Below.refl _ _ | exact blBy)).mono ?_
    rintro e w1 ⟨rfl, hb1⟩
    have hb : Hid (Below w.heap.size w w1) := hid (bl_then (by exact blBy) hb1)
    have Br : Blk w1 w.heap.size 75 #[.string ⟨#[]⟩, .int .i64 0] := (Blk.new _ _ _).kept hb1
    have xr := Br.cellF
    have yr := Br.frz
    have zr := Br.lt
    clear hb1
    go_wp2
    exact bodyPost_ret (v := .tuple #[.agg #[.string ⟨#[]⟩, .int .i64 0], .bool false]) (by simp [results, Tryz.results214, go_sem, xr, zr, yr]) rfl ⟨rfl, by have := hb.out; exact blBy⟩
  · rw [hq] at HI
    rw [hf]
    simp only [Nat.zero_add] at HI
    have HY := hid fun W (hW : Below w.heap.size w W) => rowY (h.kept hW) hj
    have r1 : ((j : Int) < 0) = False := eq_false (by omega)
    have r2 : (j : Int) < (xs.length : Int) := by omega
    clear h hidx hq hf
    generalize xs[j] = s at *
    go_enter Tryz.func214, Tryz.ntmps214
    go_wp2_with fail
    refine (HI.out _ (by first | exact Below.refl _ _ | exact blBy)).mono ?_
    rintro e w1 ⟨rfl, hb1⟩
    have hb : Hid (Below w.heap.size w w1) := hid (bl_then (by exact blBy) hb1)
    obtain ⟨b, o, rfl, hbl, c0, c1⟩ := HY.out _ hb.out
    have Br : Blk w1 w.heap.size 75 #[.string ⟨#[]⟩, .int .i64 0] := (Blk.new _ _ _).kept hb1
    have xr := Br.cellF
    have yr := Br.frz
    have zr := Br.lt
    clear hb1
    go_wp2
    exact bodyPost_ret (v := .tuple #[.agg #[.string (strOfNums s.name), .int .i64 s.num], .bool true]) (by simp [results, Tryz.results214, go_sem, xr, zr, yr]) rfl ⟨rfl, by have := hb.out; exact blBy⟩
theorem symT (w : World) (nm : List Int) (en : Bool) (a1 : Option Addr) (n1 c1 : Nat) (a2 : Option Addr) (n2 c2 : Nat) (a4 : Option Addr) (n4 c4 : Nat) (xs : List SY) (a : Option Addr) (c : Nat) (h : RowS w AnyZ 2 (.slice a xs.length c) xs.length (xs.flatMap cSY)) (p : Nat) (n : Int) (hp : Blk w p 22 #[.int .u64 n]) : Calls Tryz.prog 195 #[.agg #[.string (strOfNums nm), .bool en, .slice a1 n1 c1, .slice a2 n2 c2, .slice a xs.length c, .slice a4 n4 c4], .func (.func 196) #[] #[.pointer (some ⟨p, 0, none⟩)]] w fun e w' => e = .returned (tSY (xs.find? (symN n))) ∧ Below w.heap.size w w' := by
  have HI := hid fun W (hW : Below w.heap.size w W) => firstSy W xs a c (h.kept hW) (.func (.func 196) #[] #[.pointer (some ⟨p, 0, none⟩)]) (symN n) (fun W2 hW2 => idxSym W2 xs a c ((h.kept hW).kept hW2) p n ((hp.kept hW).kept hW2))
  clear h hp
  generalize xs.find? (symN n) = r at *
  go_enter Tryz.func195, Tryz.ntmps195
  go_wp2_with fail
  refine (HI.out _ (by exact blBy)).mono ?_
  rintro e w2 ⟨rfl, hb2⟩
  have hb2' : Hid (Below w.heap.size w w2) := hid (bl_then (by exact blBy) hb2)
  have Br : Blk w2 (w.heap.size + 1) 75 #[.string ⟨#[]⟩, .int .i64 0] := (Blk.newAt (by simp)).kept hb2
  have xr := Br.cellF
  have yr := Br.frz
  have zr := Br.lt
  clear hb2
  cases r with
  | none =>
    unfold tSY
    go_wp2
    exact bodyPost_ret (v := .tuple #[.agg #[.string ⟨#[]⟩, .int .i64 0], .bool false]) (by simp [results, Tryz.results195, go_sem, xr, zr, yr]) rfl ⟨rfl, by have := hb2'.out; exact blBy⟩
  | some s =>
    unfold tSY
    go_wp2
    exact bodyPost_ret (v := .tuple #[.agg #[.string (strOfNums s.name), .int .i64 s.num], .bool true]) (by simp [results, Tryz.results195, go_sem, xr, zr, yr]) rfl ⟨rfl, by have := hb2'.out; exact blBy⟩
theorem hasSymbolT (w : World) (y : TV) (hy : TyR w y) (n : Int) : Calls Tryz.prog 175 #[.agg (cTV y).toArray, .int .u64 n] w fun e w' => e = .returned (.bool (y.t.ss.any (symN n))) ∧ Below w.heap.size w w' := by
  obtain ⟨a1, c1, a2, c2, a3, c3, a4, c4, e1, e2, e3, e4⟩ := shT_of hy
  have ec : cTV y = [.string (strOfNums y.t.name), .bool y.t.enum, .slice a1 y.t.fs.length c1, .slice a2 y.t.os.length c2, .slice a3 y.t.ss.length c3, .slice a4 y.t.rs.length c4] := by unfold cTV; rw [e1, e2, e3, e4]
  have HSY := hid fun W (hW : Below w.heap.size w W) => (show RowS W AnyZ 2 (.slice a3 y.t.ss.length c3) y.t.ss.length (y.t.ss.flatMap cSY) by rw [← e3]; exact (hy.kept hW).s)
  have HX : Hid ((y.t.ss.find? (symN n)).isSome = y.t.ss.any (symN n)) := hid (by rw [find_any8])
  rw [ec]
  clear hy e1 e2 e3 e4 ec
  go_enter Tryz.func175, Tryz.ntmps175
  go_wp2_with fail
  refine (symT _ y.t.name y.t.enum a1 y.t.fs.length c1 a2 y.t.os.length c2 a4 y.t.rs.length c4 y.t.ss a3 c3 (HSY.out _ (by exact blBy)) _ n (by first | exact Blk.newAt (by simp) | exact (Blk.new _ _ _).kept (below_alloc _) | exact Blk.new _ _ _)).mono ?_
  rintro e w2 ⟨rfl, hb2⟩
  have hb2' : Hid (Below w.heap.size w w2) := hid (bl_then (by exact blBy) hb2)
  clear hb2
  cases hq : y.t.ss.find? (symN n) with
  | none =>
    rw [hq] at HX
    unfold tSY
    go_wp2
    go_ret
    exact ⟨ret_bool HX.out, by have := hb2'.out; exact blBy⟩
  | some s =>
    rw [hq] at HX
    unfold tSY
    go_wp2
    go_ret
    exact ⟨ret_bool HX.out, by have := hb2'.out; exact blBy⟩
/-- A value of a field, but for what a message holds. -/
def valB (l : List TV) (o : FT) (v : CV CM) : Bool := if o.kind = 17 then (v.n == 0) && (((v.b.length : Int) == 0) && ((v.ms.length : Int) == 1)) else if o.kind = 16 then vfit 16 v.n v.b.length v.ms.length && (match l[o.ref.toNat]? with | some y => y.t.ss.any (symN v.n) | none => false) else scalarB o.kind v
theorem valIsTypedM (w : World) (l : List TV) (ta : Option Addr) (tc : Nat) (h : TbR w (.slice ta l.length tc) l) (o : FT) (hr : 0 ≤ o.ref ∧ o.ref.toNat < l.length) (Z : Nat → Prop) (d : Nat) (cs : List Value) (v : CV CM) (hv : ValE w Z (MsgE w Z d) cs v) : Calls Tryz.prog 142 #[.agg #[.slice ta l.length tc], .agg #[.string (strOfNums o.name), .int .i64 o.num, .int .i64 o.kind, .int .i64 o.ref, .int .i64 o.lab, .int .i64 o.one, .int .i64 o.key], .agg cs.toArray] w fun e w' => e = .returned (.bool (valB l o v)) ∧ Below w.heap.size w w' := by
  have HV := hid hv
  obtain ⟨ba, bc, ma, mc, rfl, g1, -, l1, l2, hu⟩ := val_open hv
  have m1 : (v.b.length : Int) ≤ 9223372036854775807 := by omega
  have m2 : (v.ms.length : Int) ≤ 9223372036854775807 := by omega
  clear hv
  by_cases h17 : o.kind = 17
  · have k1 : (o.kind == 17) = true := by simpa using h17
    have HX : Hid (valB l o v = ((v.n == 0) && (((v.b.length : Int) == 0) && ((v.ms.length : Int) == 1)))) := hid (by unfold valB; rw [if_pos h17])
    clear h hr HV
    go_enter Tryz.func142, Tryz.ntmps142
    go_wp2
    all_goals (go_ret; exact ⟨ret_bool (by rw [HX.out]; simp [*]), by exact blBy⟩)
  by_cases h16 : o.kind = 16
  · have k0 : (o.kind == 17) = false := by simpa using h17
    have k1 : (o.kind == 16) = true := by simpa using h16
    obtain ⟨j, hj⟩ := Int.eq_ofNat_of_zero_le hr.1
    have hjl : j < l.length := by have := hr.2; omega
    have ht : o.ref.toNat = j := by omega
    obtain ⟨_, _, el, l63⟩ := rowS_sl h.row
    clear el
    have m3 : (l.length : Int) ≤ 9223372036854775807 := by omega
    have k5 : (j : Int) < (l.length : Int) := by omega
    have HX : Hid (valB l o v = (vfit 16 v.n v.b.length v.ms.length && l[j].t.ss.any (symN v.n))) := hid (by unfold valB; rw [if_neg h17, if_pos h16, ht, List.getElem?_eq_getElem hjl])
    obtain ⟨tb, tof, rfl, hbl, c0, c1, c2, c3, c4, c5⟩ := row6 h.row hjl
    have HTY := hid (h.ty _ (List.getElem_mem hjl))
    have HF := hid fun W => fitsW 16 v.n ba ma v.b.length bc v.ms.length mc W hu.1 hu.2 (by omega) (by omega)
    generalize valB l o v = res at *
    generalize l[j] = y at *
    obtain ⟨a1, n1, a2, n2, a3, n3, a4, n4, e1, e2, e3, e4⟩ := shT_of HTY.out
    have ecy : cTV y = [.string (strOfNums y.t.name), .bool y.t.enum, .slice a1 y.t.fs.length n1, .slice a2 y.t.os.length n2, .slice a3 y.t.ss.length n3, .slice a4 y.t.rs.length n4] := by unfold cTV; rw [e1, e2, e3, e4]
    rw [e1] at c2
    rw [e2] at c3
    rw [e3] at c4
    rw [e4] at c5
    have HSY := hid fun W (hW : Below w.heap.size w W) => hasSymbolT W y (HTY.out.kept hW) v.n
    rw [ecy] at HSY
    generalize o.kind = kd at *
    generalize o.ref = rf at *
    subst h16 hj
    clear h hr HV g1 hu ht h17 e1 e2 e3 e4 ecy HTY k0 k1
    cases hq : vfit 16 v.n v.b.length v.ms.length with
    | false =>
      rw [hq, Bool.false_and] at HX
      rw [hq] at HF
      go_enter Tryz.func142, Tryz.ntmps142
      go_upto_region 5 with fail
      have Bwar : Hid (Blk (((w.alloc (.cells #[.slice (some ⟨tb, tof, none⟩) l.length tc] 68)).alloc (.cells #[.string (strOfNums o.name), .int .i64 o.num, .int .i64 16, .int .i64 (j : Int), .int .i64 o.lab, .int .i64 o.one, .int .i64 o.key] 77)).alloc (.cells #[.int .u64 v.n, .slice ba v.b.length bc, .slice ma v.ms.length mc] 26)) w.heap.size 68 #[.slice (some ⟨tb, tof, none⟩) l.length tc]) := hid (((Blk.new _ _ _).kept (below_alloc _)).kept (below_alloc _))
      have Bwao : Hid (Blk (((w.alloc (.cells #[.slice (some ⟨tb, tof, none⟩) l.length tc] 68)).alloc (.cells #[.string (strOfNums o.name), .int .i64 o.num, .int .i64 16, .int .i64 (j : Int), .int .i64 o.lab, .int .i64 o.one, .int .i64 o.key] 77)).alloc (.cells #[.int .u64 v.n, .slice ba v.b.length bc, .slice ma v.ms.length mc] 26)) (w.heap.size + 1) 77 #[.string (strOfNums o.name), .int .i64 o.num, .int .i64 16, .int .i64 (j : Int), .int .i64 o.lab, .int .i64 o.one, .int .i64 o.key]) := hid ((Blk.newAt (by simp)).kept (below_alloc _))
      have Bwav : Hid (Blk (((w.alloc (.cells #[.slice (some ⟨tb, tof, none⟩) l.length tc] 68)).alloc (.cells #[.string (strOfNums o.name), .int .i64 o.num, .int .i64 16, .int .i64 (j : Int), .int .i64 o.lab, .int .i64 o.one, .int .i64 o.key] 77)).alloc (.cells #[.int .u64 v.n, .slice ba v.b.length bc, .slice ma v.ms.length mc] 26)) (w.heap.size + 1 + 1) 26 #[.int .u64 v.n, .slice ba v.b.length bc, .slice ma v.ms.length mc]) := hid (Blk.newAt (by simp))
      have Hwa : Hid (Below w.heap.size w (((w.alloc (.cells #[.slice (some ⟨tb, tof, none⟩) l.length tc] 68)).alloc (.cells #[.string (strOfNums o.name), .int .i64 o.num, .int .i64 16, .int .i64 (j : Int), .int .i64 o.lab, .int .i64 o.one, .int .i64 o.key] 77)).alloc (.cells #[.int .u64 v.n, .slice ba v.b.length bc, .slice ma v.ms.length mc] 26))) := hid (by exact blBy)
      generalize (((w.alloc (.cells #[.slice (some ⟨tb, tof, none⟩) l.length tc] 68)).alloc (.cells #[.string (strOfNums o.name), .int .i64 o.num, .int .i64 16, .int .i64 (j : Int), .int .i64 o.lab, .int .i64 o.one, .int .i64 o.key] 77)).alloc (.cells #[.int .u64 v.n, .slice ba v.b.length bc, .slice ma v.ms.length mc] 26)) = wa at *
      refine wp_region_held_drew (S := (fun W => (∀ k, W.cell? ⟨w.heap.size, k, none⟩ = #[.slice (some ⟨tb, tof, none⟩) l.length tc][k]?) ∧ (∀ k, W.cell? ⟨w.heap.size + 1, k, none⟩ = #[.string (strOfNums o.name), .int .i64 o.num, .int .i64 16, .int .i64 (j : Int), .int .i64 o.lab, .int .i64 o.one, .int .i64 o.key][k]?) ∧ (∀ k, W.cell? ⟨w.heap.size + 1 + 1, k, none⟩ = #[.int .u64 v.n, .slice ba v.b.length bc, .slice ma v.ms.length mc][k]?) ∧ W.cell? ⟨tb, tof + j * 6, none⟩ = some (.string (strOfNums y.t.name)) ∧ W.cell? ⟨tb, tof + j * 6 + 1, none⟩ = some (.bool y.t.enum) ∧ W.cell? ⟨tb, tof + j * 6 + 2, none⟩ = some (.slice a1 y.t.fs.length n1) ∧ W.cell? ⟨tb, tof + j * 6 + 3, none⟩ = some (.slice a2 y.t.os.length n2) ∧ W.cell? ⟨tb, tof + j * 6 + 4, none⟩ = some (.slice a3 y.t.ss.length n3) ∧ W.cell? ⟨tb, tof + j * 6 + 5, none⟩ = some (.slice a4 y.t.rs.length n4))) (by kernel_rfl) ?_ (fun hHeld => ?_)
      · exact ⟨(Bwar.out.kept (below_drew1 _)).cellF, (Bwao.out.kept (below_drew1 _)).cellF, (Bwav.out.kept (below_drew1 _)).cellF, cell_below c0 (below_trans Hwa.out (below_drew1 _)), cell_below c1 (below_trans Hwa.out (below_drew1 _)), cell_below c2 (below_trans Hwa.out (below_drew1 _)), cell_below c3 (below_trans Hwa.out (below_drew1 _)), cell_below c4 (below_trans Hwa.out (below_drew1 _)), cell_below c5 (below_trans Hwa.out (below_drew1 _))⟩
      refine wpAnyH_take (i := 0) (v := ?_) rfl (by kernel_rfl) (by kernel_rfl) (by kernel_rfl) (fun _ _ _ h => h) (Or.inl ⟨by rfl, ?_⟩) (by assumption) ?_
      rotate_left
      · (intro w hSw; (try dsimp only at hSw); go_simp; (try with_reducible rfl))
      try simp only [Act.put, List.getElem_toArray, List.getElem_cons_succ, List.getElem_cons_zero, List.setIfInBounds_toArray, List.set_cons_zero, List.set_cons_succ]
      refine wpAnyH_ready (rs := [1]) (by kernel_rfl) (by simp) ?_
      refine AllReadyH.cons rfl (fun K hK => ?_) AllReadyH.nil
      go_simp
      go_wp2_with (go_at_call 174; refine (HF.out _).mono ?_; rintro e u1 ⟨rfl, hbx⟩; have HXB : Hid (Below wa.heap.size wa u1) := hid (bl_then (below_drew1 _) hbx); clear hbx)
      have Bu1r : Hid (Blk u1 w.heap.size 68 #[.slice (some ⟨tb, tof, none⟩) l.length tc]) := hid (Bwar.out.kept HXB.out)
      have Bu1o : Hid (Blk u1 (w.heap.size + 1) 77 #[.string (strOfNums o.name), .int .i64 o.num, .int .i64 16, .int .i64 (j : Int), .int .i64 o.lab, .int .i64 o.one, .int .i64 o.key]) := hid (Bwao.out.kept HXB.out)
      have Bu1v : Hid (Blk u1 (w.heap.size + 1 + 1) 26 #[.int .u64 v.n, .slice ba v.b.length bc, .slice ma v.ms.length mc]) := hid (Bwav.out.kept HXB.out)
      have Hu1 : Hid (Below w.heap.size w u1) := hid (below_trans Hwa.out HXB.out)
      refine hK.out _ _ ?_ (fun hHeld => ?_)
      · first | assumption | exact ⟨Bu1r.out.cellF, Bu1o.out.cellF, Bu1v.out.cellF, cell_below c0 Hu1.out, cell_below c1 Hu1.out, cell_below c2 Hu1.out, cell_below c3 Hu1.out, cell_below c4 Hu1.out, cell_below c5 Hu1.out⟩
      clear hK K
      try simp only [Act.put, List.getElem_toArray, List.getElem_cons_succ, List.getElem_cons_zero, List.setIfInBounds_toArray, List.set_cons_zero, List.set_cons_succ]
      refine wpAnyH_take (i := 2) (v := ?_) rfl (by kernel_rfl) (by kernel_rfl) (by kernel_rfl) (fun _ _ _ h => h) (Or.inl ⟨by rfl, ?_⟩) (by assumption) ?_
      rotate_left
      · (intro w hSw; (try dsimp only at hSw); go_simp; (try with_reducible rfl))
      try simp only [Act.put, List.getElem_toArray, List.getElem_cons_succ, List.getElem_cons_zero, List.setIfInBounds_toArray, List.set_cons_zero, List.set_cons_succ]
      refine wpAnyH_take (i := 3) (v := undef) rfl (by kernel_rfl) (by kernel_rfl) (by kernel_rfl) (fun _ _ _ h => h) (Or.inr ⟨by kernel_rfl, rfl⟩) (by assumption) ?_
      try simp only [Act.put, List.getElem_toArray, List.getElem_cons_succ, List.getElem_cons_zero, List.setIfInBounds_toArray, List.set_cons_zero, List.set_cons_succ]
      refine wpAnyH_take (i := 4) (v := undef) rfl (by kernel_rfl) (by kernel_rfl) (by kernel_rfl) (fun _ _ _ h => h) (Or.inr ⟨by kernel_rfl, rfl⟩) (by assumption) ?_
      try simp only [Act.put, List.getElem_toArray, List.getElem_cons_succ, List.getElem_cons_zero, List.setIfInBounds_toArray, List.set_cons_zero, List.set_cons_succ]
      refine wpAnyH_take (i := 5) (v := undef) rfl (by kernel_rfl) (by kernel_rfl) (by kernel_rfl) (fun _ _ _ h => h) (Or.inr ⟨by kernel_rfl, rfl⟩) (by assumption) ?_
      try simp only [Act.put, List.getElem_toArray, List.getElem_cons_succ, List.getElem_cons_zero, List.setIfInBounds_toArray, List.set_cons_zero, List.set_cons_succ]
      refine wpAnyH_take (i := 6) (v := undef) rfl (by kernel_rfl) (by kernel_rfl) (by kernel_rfl) (fun _ _ _ h => h) (Or.inr ⟨by kernel_rfl, rfl⟩) (by assumption) ?_
      try simp only [Act.put, List.getElem_toArray, List.getElem_cons_succ, List.getElem_cons_zero, List.setIfInBounds_toArray, List.set_cons_zero, List.set_cons_succ]
      refine wpAnyH_take (i := 7) (v := undef) rfl (by kernel_rfl) (by kernel_rfl) (by kernel_rfl) (fun _ _ _ h => h) (Or.inr ⟨by kernel_rfl, rfl⟩) (by assumption) ?_
      try simp only [Act.put, List.getElem_toArray, List.getElem_cons_succ, List.getElem_cons_zero, List.setIfInBounds_toArray, List.set_cons_zero, List.set_cons_succ]
      refine wpAnyH_take (i := 8) (v := undef) rfl (by kernel_rfl) (by kernel_rfl) (by kernel_rfl) (fun _ _ _ h => h) (Or.inr ⟨by kernel_rfl, rfl⟩) (by assumption) ?_
      try simp only [Act.put, List.getElem_toArray, List.getElem_cons_succ, List.getElem_cons_zero, List.setIfInBounds_toArray, List.set_cons_zero, List.set_cons_succ]
      refine wpAnyH_take (i := 9) (v := undef) rfl (by kernel_rfl) (by kernel_rfl) (by kernel_rfl) (fun _ _ _ h => h) (Or.inr ⟨by kernel_rfl, rfl⟩) (by assumption) ?_
      try simp only [Act.put, List.getElem_toArray, List.getElem_cons_succ, List.getElem_cons_zero, List.setIfInBounds_toArray, List.set_cons_zero, List.set_cons_succ]
      refine wpAnyH_take (i := 10) (v := undef) rfl (by kernel_rfl) (by kernel_rfl) (by kernel_rfl) (fun _ _ _ h => h) (Or.inr ⟨by kernel_rfl, rfl⟩) (by assumption) ?_
      try simp only [Act.put, List.getElem_toArray, List.getElem_cons_succ, List.getElem_cons_zero, List.setIfInBounds_toArray, List.set_cons_zero, List.set_cons_succ]
      refine wpAnyH_take (i := 11) (v := undef) rfl (by kernel_rfl) (by kernel_rfl) (by kernel_rfl) (fun _ _ _ h => h) (Or.inr ⟨by kernel_rfl, rfl⟩) (by assumption) ?_
      try simp only [Act.put, List.getElem_toArray, List.getElem_cons_succ, List.getElem_cons_zero, List.setIfInBounds_toArray, List.set_cons_zero, List.set_cons_succ]
      refine wpAnyH_take (i := 12) (v := ?_) rfl (by kernel_rfl) (by kernel_rfl) (by kernel_rfl) (fun _ _ _ h => h) (Or.inl ⟨by rfl, ?_⟩) (by assumption) ?_
      rotate_left
      · (intro w hSw; (try dsimp only at hSw); go_simp; (try with_reducible rfl))
      try simp only [Act.put, List.getElem_toArray, List.getElem_cons_succ, List.getElem_cons_zero, List.setIfInBounds_toArray, List.set_cons_zero, List.set_cons_succ]
      refine wpAnyH_take (i := 13) (v := ?_) rfl (by kernel_rfl) (by kernel_rfl) (by kernel_rfl) (fun _ _ _ h => h) (Or.inl ⟨by rfl, ?_⟩) (by assumption) ?_
      rotate_left
      · (intro w hSw; (try dsimp only at hSw); go_simp; (try with_reducible rfl))
      try simp only [Act.put, List.getElem_toArray, List.getElem_cons_succ, List.getElem_cons_zero, List.setIfInBounds_toArray, List.set_cons_zero, List.set_cons_succ]
      refine wpAnyH_done (by kernel_rfl) ?_ _
      go_wp2
      go_ret
      exact ⟨ret_bool HX.out.symm, by have := Hu1.out; exact blBy⟩
    | true =>
      rw [hq, Bool.true_and] at HX
      rw [hq] at HF
      go_enter Tryz.func142, Tryz.ntmps142
      go_upto_region 5 with fail
      have Bwar : Hid (Blk (((w.alloc (.cells #[.slice (some ⟨tb, tof, none⟩) l.length tc] 68)).alloc (.cells #[.string (strOfNums o.name), .int .i64 o.num, .int .i64 16, .int .i64 (j : Int), .int .i64 o.lab, .int .i64 o.one, .int .i64 o.key] 77)).alloc (.cells #[.int .u64 v.n, .slice ba v.b.length bc, .slice ma v.ms.length mc] 26)) w.heap.size 68 #[.slice (some ⟨tb, tof, none⟩) l.length tc]) := hid (((Blk.new _ _ _).kept (below_alloc _)).kept (below_alloc _))
      have Bwao : Hid (Blk (((w.alloc (.cells #[.slice (some ⟨tb, tof, none⟩) l.length tc] 68)).alloc (.cells #[.string (strOfNums o.name), .int .i64 o.num, .int .i64 16, .int .i64 (j : Int), .int .i64 o.lab, .int .i64 o.one, .int .i64 o.key] 77)).alloc (.cells #[.int .u64 v.n, .slice ba v.b.length bc, .slice ma v.ms.length mc] 26)) (w.heap.size + 1) 77 #[.string (strOfNums o.name), .int .i64 o.num, .int .i64 16, .int .i64 (j : Int), .int .i64 o.lab, .int .i64 o.one, .int .i64 o.key]) := hid ((Blk.newAt (by simp)).kept (below_alloc _))
      have Bwav : Hid (Blk (((w.alloc (.cells #[.slice (some ⟨tb, tof, none⟩) l.length tc] 68)).alloc (.cells #[.string (strOfNums o.name), .int .i64 o.num, .int .i64 16, .int .i64 (j : Int), .int .i64 o.lab, .int .i64 o.one, .int .i64 o.key] 77)).alloc (.cells #[.int .u64 v.n, .slice ba v.b.length bc, .slice ma v.ms.length mc] 26)) (w.heap.size + 1 + 1) 26 #[.int .u64 v.n, .slice ba v.b.length bc, .slice ma v.ms.length mc]) := hid (Blk.newAt (by simp))
      have Hwa : Hid (Below w.heap.size w (((w.alloc (.cells #[.slice (some ⟨tb, tof, none⟩) l.length tc] 68)).alloc (.cells #[.string (strOfNums o.name), .int .i64 o.num, .int .i64 16, .int .i64 (j : Int), .int .i64 o.lab, .int .i64 o.one, .int .i64 o.key] 77)).alloc (.cells #[.int .u64 v.n, .slice ba v.b.length bc, .slice ma v.ms.length mc] 26))) := hid (by exact blBy)
      generalize (((w.alloc (.cells #[.slice (some ⟨tb, tof, none⟩) l.length tc] 68)).alloc (.cells #[.string (strOfNums o.name), .int .i64 o.num, .int .i64 16, .int .i64 (j : Int), .int .i64 o.lab, .int .i64 o.one, .int .i64 o.key] 77)).alloc (.cells #[.int .u64 v.n, .slice ba v.b.length bc, .slice ma v.ms.length mc] 26)) = wa at *
      refine wp_region_held_drew (S := (fun W => (∀ k, W.cell? ⟨w.heap.size, k, none⟩ = #[.slice (some ⟨tb, tof, none⟩) l.length tc][k]?) ∧ (∀ k, W.cell? ⟨w.heap.size + 1, k, none⟩ = #[.string (strOfNums o.name), .int .i64 o.num, .int .i64 16, .int .i64 (j : Int), .int .i64 o.lab, .int .i64 o.one, .int .i64 o.key][k]?) ∧ (∀ k, W.cell? ⟨w.heap.size + 1 + 1, k, none⟩ = #[.int .u64 v.n, .slice ba v.b.length bc, .slice ma v.ms.length mc][k]?) ∧ W.cell? ⟨tb, tof + j * 6, none⟩ = some (.string (strOfNums y.t.name)) ∧ W.cell? ⟨tb, tof + j * 6 + 1, none⟩ = some (.bool y.t.enum) ∧ W.cell? ⟨tb, tof + j * 6 + 2, none⟩ = some (.slice a1 y.t.fs.length n1) ∧ W.cell? ⟨tb, tof + j * 6 + 3, none⟩ = some (.slice a2 y.t.os.length n2) ∧ W.cell? ⟨tb, tof + j * 6 + 4, none⟩ = some (.slice a3 y.t.ss.length n3) ∧ W.cell? ⟨tb, tof + j * 6 + 5, none⟩ = some (.slice a4 y.t.rs.length n4))) (by kernel_rfl) ?_ (fun hHeld => ?_)
      · exact ⟨(Bwar.out.kept (below_drew1 _)).cellF, (Bwao.out.kept (below_drew1 _)).cellF, (Bwav.out.kept (below_drew1 _)).cellF, cell_below c0 (below_trans Hwa.out (below_drew1 _)), cell_below c1 (below_trans Hwa.out (below_drew1 _)), cell_below c2 (below_trans Hwa.out (below_drew1 _)), cell_below c3 (below_trans Hwa.out (below_drew1 _)), cell_below c4 (below_trans Hwa.out (below_drew1 _)), cell_below c5 (below_trans Hwa.out (below_drew1 _))⟩
      refine wpAnyH_take (i := 0) (v := ?_) rfl (by kernel_rfl) (by kernel_rfl) (by kernel_rfl) (fun _ _ _ h => h) (Or.inl ⟨by rfl, ?_⟩) (by assumption) ?_
      rotate_left
      · (intro w hSw; (try dsimp only at hSw); go_simp; (try with_reducible rfl))
      try simp only [Act.put, List.getElem_toArray, List.getElem_cons_succ, List.getElem_cons_zero, List.setIfInBounds_toArray, List.set_cons_zero, List.set_cons_succ]
      refine wpAnyH_ready (rs := [1]) (by kernel_rfl) (by simp) ?_
      refine AllReadyH.cons rfl (fun K hK => ?_) AllReadyH.nil
      go_simp
      go_wp2_with (go_at_call 174; refine (HF.out _).mono ?_; rintro e u1 ⟨rfl, hbx⟩; have HXB : Hid (Below wa.heap.size wa u1) := hid (bl_then (below_drew1 _) hbx); clear hbx)
      have Bu1r : Hid (Blk u1 w.heap.size 68 #[.slice (some ⟨tb, tof, none⟩) l.length tc]) := hid (Bwar.out.kept HXB.out)
      have Bu1o : Hid (Blk u1 (w.heap.size + 1) 77 #[.string (strOfNums o.name), .int .i64 o.num, .int .i64 16, .int .i64 (j : Int), .int .i64 o.lab, .int .i64 o.one, .int .i64 o.key]) := hid (Bwao.out.kept HXB.out)
      have Bu1v : Hid (Blk u1 (w.heap.size + 1 + 1) 26 #[.int .u64 v.n, .slice ba v.b.length bc, .slice ma v.ms.length mc]) := hid (Bwav.out.kept HXB.out)
      have Hu1 : Hid (Below w.heap.size w u1) := hid (below_trans Hwa.out HXB.out)
      refine hK.out _ _ ?_ (fun hHeld => ?_)
      · first | assumption | exact ⟨Bu1r.out.cellF, Bu1o.out.cellF, Bu1v.out.cellF, cell_below c0 Hu1.out, cell_below c1 Hu1.out, cell_below c2 Hu1.out, cell_below c3 Hu1.out, cell_below c4 Hu1.out, cell_below c5 Hu1.out⟩
      clear hK K
      try simp only [Act.put, List.getElem_toArray, List.getElem_cons_succ, List.getElem_cons_zero, List.setIfInBounds_toArray, List.set_cons_zero, List.set_cons_succ]
      refine wpAnyH_take (i := 2) (v := ?_) rfl (by kernel_rfl) (by kernel_rfl) (by kernel_rfl) (fun _ _ _ h => h) (Or.inl ⟨by rfl, ?_⟩) (by assumption) ?_
      rotate_left
      · (intro w hSw; (try dsimp only at hSw); go_simp; (try with_reducible rfl))
      try simp only [Act.put, List.getElem_toArray, List.getElem_cons_succ, List.getElem_cons_zero, List.setIfInBounds_toArray, List.set_cons_zero, List.set_cons_succ]
      refine wpAnyH_take (i := 3) (v := ?_) rfl (by kernel_rfl) (by kernel_rfl) (by kernel_rfl) (fun _ _ _ h => h) (Or.inl ⟨by rfl, ?_⟩) (by assumption) ?_
      rotate_left
      · (intro w hSw; (try dsimp only at hSw); go_simp; (try with_reducible rfl))
      try simp only [Act.put, List.getElem_toArray, List.getElem_cons_succ, List.getElem_cons_zero, List.setIfInBounds_toArray, List.set_cons_zero, List.set_cons_succ]
      refine wpAnyH_take (i := 4) (v := ?_) rfl (by kernel_rfl) (by kernel_rfl) (by kernel_rfl) (fun _ _ _ h => h) (Or.inl ⟨by rfl, ?_⟩) (by assumption) ?_
      rotate_left
      · (intro w hSw; (try dsimp only at hSw); go_simp; (try with_reducible rfl))
      try simp only [Act.put, List.getElem_toArray, List.getElem_cons_succ, List.getElem_cons_zero, List.setIfInBounds_toArray, List.set_cons_zero, List.set_cons_succ]
      refine wpAnyH_take (i := 5) (v := ?_) rfl (by kernel_rfl) (by kernel_rfl) (by kernel_rfl) (fun _ _ _ h => h) (Or.inl ⟨by rfl, ?_⟩) (by assumption) ?_
      rotate_left
      · (intro w hSw; (try dsimp only at hSw); go_simp; (try with_reducible rfl))
      try simp only [Act.put, List.getElem_toArray, List.getElem_cons_succ, List.getElem_cons_zero, List.setIfInBounds_toArray, List.set_cons_zero, List.set_cons_succ]
      refine wpAnyH_take (i := 6) (v := ?_) rfl (by kernel_rfl) (by kernel_rfl) (by kernel_rfl) (fun _ _ _ h => h) (Or.inl ⟨by rfl, ?_⟩) (by assumption) ?_
      rotate_left
      · (intro w hSw; (try dsimp only at hSw); go_simp; (try with_reducible rfl))
      try simp only [Act.put, List.getElem_toArray, List.getElem_cons_succ, List.getElem_cons_zero, List.setIfInBounds_toArray, List.set_cons_zero, List.set_cons_succ]
      refine wpAnyH_take (i := 7) (v := ?_) rfl (by kernel_rfl) (by kernel_rfl) (by kernel_rfl) (fun _ _ _ h => h) (Or.inl ⟨by rfl, ?_⟩) (by assumption) ?_
      rotate_left
      · (intro w hSw; (try dsimp only at hSw); go_simp; (try with_reducible rfl))
      try simp only [Act.put, List.getElem_toArray, List.getElem_cons_succ, List.getElem_cons_zero, List.setIfInBounds_toArray, List.set_cons_zero, List.set_cons_succ]
      refine wpAnyH_take (i := 8) (v := ?_) rfl (by kernel_rfl) (by kernel_rfl) (by kernel_rfl) (fun _ _ _ h => h) (Or.inl ⟨by rfl, ?_⟩) (by assumption) ?_
      rotate_left
      · (intro w hSw; (try dsimp only at hSw); go_simp; (try with_reducible rfl))
      try simp only [Act.put, List.getElem_toArray, List.getElem_cons_succ, List.getElem_cons_zero, List.setIfInBounds_toArray, List.set_cons_zero, List.set_cons_succ]
      refine wpAnyH_take (i := 9) (v := ?_) rfl (by kernel_rfl) (by kernel_rfl) (by kernel_rfl) (fun _ _ _ h => h) (Or.inl ⟨by rfl, ?_⟩) (by assumption) ?_
      rotate_left
      · (intro w hSw; (try dsimp only at hSw); go_simp; (try with_reducible rfl))
      try simp only [Act.put, List.getElem_toArray, List.getElem_cons_succ, List.getElem_cons_zero, List.setIfInBounds_toArray, List.set_cons_zero, List.set_cons_succ]
      refine wpAnyH_take (i := 10) (v := ?_) rfl (by kernel_rfl) (by kernel_rfl) (by kernel_rfl) (fun _ _ _ h => h) (Or.inl ⟨by rfl, ?_⟩) (by assumption) ?_
      rotate_left
      · (intro w hSw; (try dsimp only at hSw); go_simp; (try with_reducible rfl))
      try simp only [Act.put, List.getElem_toArray, List.getElem_cons_succ, List.getElem_cons_zero, List.setIfInBounds_toArray, List.set_cons_zero, List.set_cons_succ]
      refine wpAnyH_ready (rs := [11]) (by kernel_rfl) (by simp) ?_
      refine AllReadyH.cons rfl (fun K hK => ?_) AllReadyH.nil
      go_simp
      go_wp2_with (go_at_call 175; refine (HSY.out _ (by have := Hu1.out; exact blBy)).mono ?_; rintro e u2 ⟨rfl, hbx⟩; have HXC : Hid (Below u1.heap.size u1 u2) := hid (by first | exact hbx | exact bl_then (below_drew1 _) hbx); clear hbx)
      have Bu2r : Hid (Blk u2 w.heap.size 68 #[.slice (some ⟨tb, tof, none⟩) l.length tc]) := hid (Bu1r.out.kept HXC.out)
      have Bu2o : Hid (Blk u2 (w.heap.size + 1) 77 #[.string (strOfNums o.name), .int .i64 o.num, .int .i64 16, .int .i64 (j : Int), .int .i64 o.lab, .int .i64 o.one, .int .i64 o.key]) := hid (Bu1o.out.kept HXC.out)
      have Bu2v : Hid (Blk u2 (w.heap.size + 1 + 1) 26 #[.int .u64 v.n, .slice ba v.b.length bc, .slice ma v.ms.length mc]) := hid (Bu1v.out.kept HXC.out)
      have Hu2 : Hid (Below w.heap.size w u2) := hid (below_trans Hu1.out HXC.out)
      refine hK.out _ _ ?_ (fun hHeld => ?_)
      · first | assumption | exact ⟨Bu2r.out.cellF, Bu2o.out.cellF, Bu2v.out.cellF, cell_below c0 Hu2.out, cell_below c1 Hu2.out, cell_below c2 Hu2.out, cell_below c3 Hu2.out, cell_below c4 Hu2.out, cell_below c5 Hu2.out⟩
      clear hK K
      try simp only [Act.put, List.getElem_toArray, List.getElem_cons_succ, List.getElem_cons_zero, List.setIfInBounds_toArray, List.set_cons_zero, List.set_cons_succ]
      refine wpAnyH_take (i := 12) (v := ?_) rfl (by kernel_rfl) (by kernel_rfl) (by kernel_rfl) (fun _ _ _ h => h) (Or.inl ⟨by rfl, ?_⟩) (by assumption) ?_
      rotate_left
      · (intro w hSw; (try dsimp only at hSw); go_simp; (try with_reducible rfl))
      try simp only [Act.put, List.getElem_toArray, List.getElem_cons_succ, List.getElem_cons_zero, List.setIfInBounds_toArray, List.set_cons_zero, List.set_cons_succ]
      refine wpAnyH_take (i := 13) (v := ?_) rfl (by kernel_rfl) (by kernel_rfl) (by kernel_rfl) (fun _ _ _ h => h) (Or.inl ⟨by rfl, ?_⟩) (by assumption) ?_
      rotate_left
      · (intro w hSw; (try dsimp only at hSw); go_simp; (try with_reducible rfl))
      try simp only [Act.put, List.getElem_toArray, List.getElem_cons_succ, List.getElem_cons_zero, List.setIfInBounds_toArray, List.set_cons_zero, List.set_cons_succ]
      refine wpAnyH_done (by kernel_rfl) ?_ _
      go_wp2
      go_ret
      exact ⟨ret_bool HX.out.symm, by have := Hu2.out; exact blBy⟩
  · have k0 : (o.kind == 17) = false := by simpa using h17
    have k1 : (o.kind == 16) = false := by simpa using h16
    have HX : Hid (valB l o v = scalarB o.kind v) := hid (by unfold valB; rw [if_neg h17, if_neg h16])
    have HS := hid fun W (hW : Below w.heap.size w W) => isScalarM W Z d o.kind [.int .u64 v.n, .slice ba v.b.length bc, .slice ma v.ms.length mc] v (HV.out.kept hW)
    clear h hr HV
    go_enter Tryz.func142, Tryz.ntmps142
    go_wp2_with fail
    refine (HS.out _ (by exact blBy)).mono ?_
    rintro e w1 ⟨rfl, hb1⟩
    have hbz : Hid (Below w.heap.size w w1) := hid (bl_then (by exact blBy) hb1)
    clear hb1
    go_wp2
    go_ret
    exact ⟨ret_bool HX.out.symm, hbz.out⟩
end Go.Proofs.YtnfdlnelfnigdaaGreatDoor
