/-
  A symbol of a number.
  A field by its name, in a list of fields.
  A path cut at its first dot.
  The way of a path.
  The way of a path: what the program answers.
-/
import Derived.Test.YtkifjpaoncjokaaGreatDoorCAS
import Derived.Test.YtkifjpaoncjokaaGreatDoorCAP
import Derived.Test.YtkifjpaoncjokaaGreatDoorCTY
import Derived.Test.YtkifjpaoncjokaaGreatDoorCTP
namespace Go.Proofs.YtkifjpaoncjokaaGreatDoor
open Go.RowKit
set_option maxRecDepth 1000000
set_option linter.unusedVariables false
set_option linter.unusedSimpArgs false
set_option maxHeartbeats 1000000
def symN (n : Int) (s : SY) : Bool := s.num % 18446744073709551616 == n
theorem symFn (w : World) (s : SY) (p : Nat) (n : Int) (hp : Blk w p 35 #[.int .u64 n]) : Calls Tryz.prog 184 #[.agg #[.string (strOfNums s.name), .int .i64 s.num], .pointer (some ⟨p, 0, none⟩)] w fun e w' => e = .returned (.bool (symN n s)) ∧ Below w.heap.size w w' := by
  have HX : Hid ((IntKind.u64.wrap s.num == n) = symN n s) := hid (by unfold symN; rw [IntKind.wrap_u64])
  have x1 := hp.cellF
  have z1 := hp.lt
  go_enter Tryz.func184, Tryz.ntmps184
  go_wp2
  go_ret
  exact ⟨ret_bool HX.out, by exact blBy⟩
theorem cfSym (args : Array Value) (W : World) : (callFunc 184 args).run Tryz.prog W = .ok (.enter 184 args) W := cf_enter Tryz.func184 (by kernel_rfl) (by kernel_rfl) args W
theorem idxSym (w : World) (xs : List SY) (a : Option Addr) (c : Nat) (h : RowS w AnyZ 2 (.slice a xs.length c) xs.length (xs.flatMap cSY)) (p : Nat) (n : Int) (hp : Blk w p 35 #[.int .u64 n]) : Calls Tryz.prog 195 #[.slice a xs.length c, .func (.func 184) #[] #[.pointer (some ⟨p, 0, none⟩)]] w fun e w' => e = .returned (.int .i64 (fnd (symN n) xs 0)) ∧ Below w.heap.size w w' := by
  obtain ⟨_, _, e1, l1⟩ := rowS_sl h
  clear e1
  have m1 : (xs.length : Int) ≤ 9223372036854775807 := by omega
  have H1 := hid h
  have HP := hid hp
  have hcf := cfSym
  clear h hp
  go_enter Tryz.func195, Tryz.ntmps195
  go_wp2
  go_loopw [8] (fun r wr => ∃ j : Nat, r = .int .i64 j ∧ j ≤ xs.length ∧ Hid (fnd (symN n) xs 0 = fnd (symN n) (xs.drop j) j) ∧ Hid (Below w.heap.size w wr)) (fun r wr => xs.length - numAt wr r)
  case atStart => exact ⟨0, rfl, by omega, hid rfl, hid (Below.refl _ _)⟩
  case round =>
    obtain ⟨j, rfl, hj, hf, hb⟩ := hrel
    by_cases hlt : j < xs.length
    · have h2 : (j : Int) < (xs.length : Int) := by omega
      obtain ⟨b1, o1, rfl, hb1, c0, c1⟩ := rowY (H1.out.kept hb.out) hlt
      have HST := hid (fnd_at (p := symN n) hlt)
      generalize xs[j] = s at *
      go_wp2_with fail
      refine (symFn _ s p n (HP.out.kept (by have := hb.out; exact blBy))).mono ?_
      rintro e w1 ⟨rfl, hb1⟩
      have HB1 : Hid (Below w.heap.size w w1) := hid (bl_then (by have := hb.out; exact blBy) hb1)
      clear hb1
      cases hq : symN n s with
      | true =>
        go_wp2
        go_ret
        exact ⟨ret_int (by rw [hf.out, HST.out, hq]; simp), HB1.out⟩
      | false =>
        go_wp2
        exact ⟨⟨j + 1, by simp, by omega, hid (by rw [hf.out, HST.out, hq]; simp), HB1⟩, by simp [numAt]; omega⟩
    · have h2 : ¬ (j : Int) < (xs.length : Int) := by omega
      have HE : Hid (fnd (symN n) xs 0 = -1) := hid (by rw [hf.out, List.drop_of_length_le (by omega)]; rfl)
      go_wp2
      go_ret
      exact ⟨ret_int (by rw [HE.out]), hb.out⟩
theorem find_any8 {α : Type} (p : α → Bool) : ∀ l : List α, (l.find? p).isSome = l.any p
  | [] => rfl
  | x :: r => by
    rw [List.find?_cons, List.any_cons]
    cases h : p x with
    | true => rfl
    | false => exact find_any8 p r
/-- What firstOf answers. -/
def tSY (o : Option SY) : Value := match o with
  | some s => .tuple #[.agg #[.string (strOfNums s.name), .int .i64 s.num], .bool true]
  | none => .tuple #[.agg #[.string ⟨#[]⟩, .int .i64 0], .bool false]
theorem firstSy (w : World) (xs : List SY) (a : Option Addr) (c : Nat) (h : RowS w AnyZ 2 (.slice a xs.length c) xs.length (xs.flatMap cSY)) (fv : Value) (P : SY → Bool)
    (hidx : ∀ W, Below w.heap.size w W → Calls Tryz.prog 195 #[.slice a xs.length c, fv] W fun e w' => e = .returned (.int .i64 (fnd P xs 0)) ∧ Below W.heap.size W w') : Calls Tryz.prog 192 #[.slice a xs.length c, fv] w fun e w' => e = .returned (tSY (xs.find? P)) ∧ Below w.heap.size w w' := by
  obtain ⟨_, _, e1, l1⟩ := rowS_sl h
  clear e1
  have m1 : (xs.length : Int) ≤ 9223372036854775807 := by omega
  have HI := hid hidx
  rcases fnd_find P xs 0 with ⟨hq, hf⟩ | ⟨j, hj, hq, hf⟩
  · rw [fnd_ge P xs 0 hq] at HI
    rw [hf]
    clear h hidx hq hf
    go_enter Tryz.func192, Tryz.ntmps192
    go_wp2_with fail
    refine (HI.out _ (by first | exact Below.refl _ _ | exact blBy)).mono ?_
    rintro e w1 ⟨rfl, hb1⟩
    have hb : Hid (Below w.heap.size w w1) := hid (bl_then (by exact blBy) hb1)
    have Br : Blk w1 w.heap.size 58 #[.string ⟨#[]⟩, .int .i64 0] := (Blk.new _ _ _).kept hb1
    have xr := Br.cellF
    have yr := Br.frz
    have zr := Br.lt
    clear hb1
    go_wp2
    exact bodyPost_ret (v := .tuple #[.agg #[.string ⟨#[]⟩, .int .i64 0], .bool false]) (by simp [results, Tryz.results192, go_sem, xr, zr, yr]) rfl ⟨rfl, by have := hb.out; exact blBy⟩
  · rw [hq] at HI
    rw [hf]
    simp only [Nat.zero_add] at HI
    have HY := hid fun W (hW : Below w.heap.size w W) => rowY (h.kept hW) hj
    have r1 : ((j : Int) < 0) = False := eq_false (by omega)
    have r2 : (j : Int) < (xs.length : Int) := by omega
    clear h hidx hq hf
    generalize xs[j] = s at *
    go_enter Tryz.func192, Tryz.ntmps192
    go_wp2_with fail
    refine (HI.out _ (by first | exact Below.refl _ _ | exact blBy)).mono ?_
    rintro e w1 ⟨rfl, hb1⟩
    have hb : Hid (Below w.heap.size w w1) := hid (bl_then (by exact blBy) hb1)
    obtain ⟨b, o, rfl, hbl, c0, c1⟩ := HY.out _ hb.out
    have Br : Blk w1 w.heap.size 58 #[.string ⟨#[]⟩, .int .i64 0] := (Blk.new _ _ _).kept hb1
    have xr := Br.cellF
    have yr := Br.frz
    have zr := Br.lt
    clear hb1
    go_wp2
    exact bodyPost_ret (v := .tuple #[.agg #[.string (strOfNums s.name), .int .i64 s.num], .bool true]) (by simp [results, Tryz.results192, go_sem, xr, zr, yr]) rfl ⟨rfl, by have := hb.out; exact blBy⟩
theorem symT (w : World) (nm : List Int) (en : Bool) (a1 : Option Addr) (n1 c1 : Nat) (a2 : Option Addr) (n2 c2 : Nat) (a4 : Option Addr) (n4 c4 : Nat) (xs : List SY) (a : Option Addr) (c : Nat) (h : RowS w AnyZ 2 (.slice a xs.length c) xs.length (xs.flatMap cSY)) (p : Nat) (n : Int) (hp : Blk w p 35 #[.int .u64 n]) : Calls Tryz.prog 183 #[.agg #[.string (strOfNums nm), .bool en, .slice a1 n1 c1, .slice a2 n2 c2, .slice a xs.length c, .slice a4 n4 c4], .func (.func 184) #[] #[.pointer (some ⟨p, 0, none⟩)]] w fun e w' => e = .returned (tSY (xs.find? (symN n))) ∧ Below w.heap.size w w' := by
  have HI := hid fun W (hW : Below w.heap.size w W) => firstSy W xs a c (h.kept hW) (.func (.func 184) #[] #[.pointer (some ⟨p, 0, none⟩)]) (symN n) (fun W2 hW2 => idxSym W2 xs a c ((h.kept hW).kept hW2) p n ((hp.kept hW).kept hW2))
  clear h hp
  generalize xs.find? (symN n) = r at *
  go_enter Tryz.func183, Tryz.ntmps183
  go_wp2_with fail
  refine (HI.out _ (by exact blBy)).mono ?_
  rintro e w2 ⟨rfl, hb2⟩
  have hb2' : Hid (Below w.heap.size w w2) := hid (bl_then (by exact blBy) hb2)
  have Br : Blk w2 (w.heap.size + 1) 58 #[.string ⟨#[]⟩, .int .i64 0] := (Blk.newAt (by simp)).kept hb2
  have xr := Br.cellF
  have yr := Br.frz
  have zr := Br.lt
  clear hb2
  cases r with
  | none =>
    unfold tSY
    go_wp2
    exact bodyPost_ret (v := .tuple #[.agg #[.string ⟨#[]⟩, .int .i64 0], .bool false]) (by simp [results, Tryz.results183, go_sem, xr, zr, yr]) rfl ⟨rfl, by have := hb2'.out; exact blBy⟩
  | some s =>
    unfold tSY
    go_wp2
    exact bodyPost_ret (v := .tuple #[.agg #[.string (strOfNums s.name), .int .i64 s.num], .bool true]) (by simp [results, Tryz.results183, go_sem, xr, zr, yr]) rfl ⟨rfl, by have := hb2'.out; exact blBy⟩
theorem hasSymbolT (w : World) (y : TV) (hy : TyR w y) (n : Int) : Calls Tryz.prog 176 #[.agg (cTV y).toArray, .int .u64 n] w fun e w' => e = .returned (.bool (y.t.ss.any (symN n))) ∧ Below w.heap.size w w' := by
  obtain ⟨a1, c1, a2, c2, a3, c3, a4, c4, e1, e2, e3, e4⟩ := shT_of hy
  have ec : cTV y = [.string (strOfNums y.t.name), .bool y.t.enum, .slice a1 y.t.fs.length c1, .slice a2 y.t.os.length c2, .slice a3 y.t.ss.length c3, .slice a4 y.t.rs.length c4] := by unfold cTV; rw [e1, e2, e3, e4]
  have HSY := hid fun W (hW : Below w.heap.size w W) => (show RowS W AnyZ 2 (.slice a3 y.t.ss.length c3) y.t.ss.length (y.t.ss.flatMap cSY) by rw [← e3]; exact (hy.kept hW).s)
  have HX : Hid ((y.t.ss.find? (symN n)).isSome = y.t.ss.any (symN n)) := hid (by rw [find_any8])
  rw [ec]
  clear hy e1 e2 e3 e4 ec
  go_enter Tryz.func176, Tryz.ntmps176
  go_wp2_with fail
  refine (symT _ y.t.name y.t.enum a1 y.t.fs.length c1 a2 y.t.os.length c2 a4 y.t.rs.length c4 y.t.ss a3 c3 (HSY.out _ (by exact blBy)) _ n (by first | exact Blk.newAt (by simp) | exact (Blk.new _ _ _).kept (below_alloc _) | exact Blk.new _ _ _)).mono ?_
  rintro e w2 ⟨rfl, hb2⟩
  have hb2' : Hid (Below w.heap.size w w2) := hid (bl_then (by exact blBy) hb2)
  clear hb2
  cases hq : y.t.ss.find? (symN n) with
  | none =>
    rw [hq] at HX
    unfold tSY
    go_wp2
    go_ret
    exact ⟨ret_bool HX.out, by have := hb2'.out; exact blBy⟩
  | some s =>
    rw [hq] at HX
    unfold tSY
    go_wp2
    go_ret
    exact ⟨ret_bool HX.out, by have := hb2'.out; exact blBy⟩
/-- What firstOf answers, of fields. -/
def tFN (o : Option FT) : Value := match o with
  | some s => .tuple #[.agg #[.string (strOfNums s.name), .int .i64 s.num, .int .i64 s.kind, .int .i64 s.ref, .int .i64 s.lab, .int .i64 s.one, .int .i64 s.key], .bool true]
  | none => .tuple #[.agg #[.string ⟨#[]⟩, .int .i64 0, .int .i64 0, .int .i64 0, .int .i64 0, .int .i64 0, .int .i64 0], .bool false]
theorem nmdFn (f : FT) (w : World) (p : Nat) (nm : List Int) (hp : Blk w p 9 #[.string (strOfNums nm)]) (hx : TxA f.name) (hn : TxA nm) : Calls Tryz.prog 64 #[.agg #[.string (strOfNums f.name), .int .i64 f.num, .int .i64 f.kind, .int .i64 f.ref, .int .i64 f.lab, .int .i64 f.one, .int .i64 f.key], .pointer (some ⟨p, 0, none⟩)] w fun e w' => e = .returned (.bool (nmP nm f)) ∧ Below w.heap.size w w' := by
  have xp := hp.cellF
  have zp := hp.lt
  have HS := hid (str_eq hx.1 hn.1)
  clear hp
  go_enter Tryz.func64, Tryz.ntmps64
  go_wp2
  go_ret
  exact ⟨ret_bool (by have := HS.out; unfold nmP; rw [← this]), by exact blBy⟩
theorem idxNmd (fs : List FT) (w : World) (a : Option Addr) (c p : Nat) (P : FT → Bool) (h : RowS w AnyZ 7 (.slice a fs.length c) fs.length (fs.flatMap cFT))
    (hc : ∀ f ∈ fs, ∀ (W : World), Below w.heap.size w W → Calls Tryz.prog 64 #[.agg #[.string (strOfNums f.name), .int .i64 f.num, .int .i64 f.kind, .int .i64 f.ref, .int .i64 f.lab, .int .i64 f.one, .int .i64 f.key], .pointer (some ⟨p, 0, none⟩)] W fun e w' => e = .returned (.bool (P f)) ∧ Below W.heap.size W w') : Calls Tryz.prog 93 #[.slice a fs.length c, .func (.func 64) #[] #[.pointer (some ⟨p, 0, none⟩)]] w fun e w' => e = .returned (.int .i64 (fnd P fs 0)) ∧ Below w.heap.size w w' := by
  obtain ⟨_, _, e, hn⟩ := rowS_sl h
  clear e
  have h1 : (fs.length : Int) ≤ 9223372036854775807 := by omega
  have HR := hid h
  have HC := hid hc
  clear h hc
  go_enter Tryz.func93, Tryz.ntmps93
  go_wp2
  go_loopw [8] (fun r wr => ∃ j : Nat, r = .int .i64 j ∧ j ≤ fs.length ∧ Hid (fnd P fs 0 = fnd P (fs.drop j) j) ∧ Hid (Below w.heap.size w wr)) (fun r wr => fs.length - numAt wr r)
  case atStart => exact ⟨0, rfl, by omega, hid rfl, hid (Below.refl _ _)⟩
  case round =>
    obtain ⟨j, rfl, hj, hf, hb⟩ := hrel
    by_cases hlt : j < fs.length
    · have h2 : (j : Int) < (fs.length : Int) := by omega
      obtain ⟨b, o, rfl, hbl, c0, c1, c2, c3, c4, c5, c6⟩ := row7 (HR.out.kept hb.out) hlt
      have HST := hid (fnd_at (p := P) hlt)
      have HCj := hid (HC.out _ (List.getElem_mem hlt))
      clear HC
      generalize fs[j] = f at *
      go_wp2_with fail
      refine (HCj.out wr hb.out).mono ?_
      rintro e w1 ⟨rfl, hb1⟩
      have HB1 := hid (bl_then hb.out hb1)
      clear hb1
      cases hq : P f with
      | true =>
        go_wp2
        go_ret
        exact ⟨ret_int (by rw [hf.out, HST.out, hq]; simp), HB1.out⟩
      | false =>
        go_wp2
        exact ⟨⟨j + 1, by simp, by omega, hid (by rw [hf.out, HST.out, hq]; simp), HB1⟩, by simp [numAt]; omega⟩
    · have h2 : ¬ (j : Int) < (fs.length : Int) := by omega
      have HE : Hid (fnd P fs 0 = -1) := hid (by rw [hf.out, List.drop_of_length_le (by omega)]; rfl)
      go_wp2
      go_ret
      exact ⟨ret_int (by rw [HE.out]), hb.out⟩
theorem firstFt (w : World) (xs : List FT) (a : Option Addr) (c : Nat) (h : RowS w AnyZ 7 (.slice a xs.length c) xs.length (xs.flatMap cFT)) (fv : Value) (P : FT → Bool)
    (hidx : ∀ W, Below w.heap.size w W → Calls Tryz.prog 93 #[.slice a xs.length c, fv] W fun e w' => e = .returned (.int .i64 (fnd P xs 0)) ∧ Below W.heap.size W w') : Calls Tryz.prog 63 #[.slice a xs.length c, fv] w fun e w' => e = .returned (tFN (xs.find? P)) ∧ Below w.heap.size w w' := by
  obtain ⟨_, _, e1, l1⟩ := rowS_sl h
  clear e1
  have m1 : (xs.length : Int) ≤ 9223372036854775807 := by omega
  have HI := hid hidx
  rcases fnd_find P xs 0 with ⟨hq, hf⟩ | ⟨j, hj, hq, hf⟩
  · rw [fnd_ge P xs 0 hq] at HI
    rw [hf]
    clear h hidx hq hf
    go_enter Tryz.func63, Tryz.ntmps63
    go_wp2_with fail
    refine (HI.out _ (by first | exact Below.refl _ _ | exact blBy)).mono ?_
    rintro e w1 ⟨rfl, hb1⟩
    have hb : Hid (Below w.heap.size w w1) := hid (bl_then (by exact blBy) hb1)
    have Br : Blk w1 w.heap.size 65 #[.string ⟨#[]⟩, .int .i64 0, .int .i64 0, .int .i64 0, .int .i64 0, .int .i64 0, .int .i64 0] := (Blk.new _ _ _).kept hb1
    have xr := Br.cellF
    have yr := Br.frz
    have zr := Br.lt
    clear hb1
    go_wp2
    exact bodyPost_ret (v := .tuple #[.agg #[.string ⟨#[]⟩, .int .i64 0, .int .i64 0, .int .i64 0, .int .i64 0, .int .i64 0, .int .i64 0], .bool false]) (by simp [results, Tryz.results63, go_sem, xr, zr, yr]) rfl ⟨rfl, by have := hb.out; exact blBy⟩
  · rw [hq] at HI
    rw [hf]
    simp only [Nat.zero_add] at HI
    have HY := hid fun W (hW : Below w.heap.size w W) => row7 (h.kept hW) hj
    have r1 : ((j : Int) < 0) = False := eq_false (by omega)
    have r2 : (j : Int) < (xs.length : Int) := by omega
    clear h hidx hq hf
    generalize xs[j] = s at *
    go_enter Tryz.func63, Tryz.ntmps63
    go_wp2_with fail
    refine (HI.out _ (by first | exact Below.refl _ _ | exact blBy)).mono ?_
    rintro e w1 ⟨rfl, hb1⟩
    have hb : Hid (Below w.heap.size w w1) := hid (bl_then (by exact blBy) hb1)
    obtain ⟨b, o, rfl, hbl, c0, c1, c2, c3, c4, c5, c6⟩ := HY.out _ hb.out
    have Br : Blk w1 w.heap.size 65 #[.string ⟨#[]⟩, .int .i64 0, .int .i64 0, .int .i64 0, .int .i64 0, .int .i64 0, .int .i64 0] := (Blk.new _ _ _).kept hb1
    have xr := Br.cellF
    have yr := Br.frz
    have zr := Br.lt
    clear hb1
    go_wp2
    exact bodyPost_ret (v := .tuple #[.agg #[.string (strOfNums s.name), .int .i64 s.num, .int .i64 s.kind, .int .i64 s.ref, .int .i64 s.lab, .int .i64 s.one, .int .i64 s.key], .bool true]) (by simp [results, Tryz.results63, go_sem, xr, zr, yr]) rfl ⟨rfl, by have := hb.out; exact blBy⟩
theorem namedF (w : World) (fs : List FT) (a : Option Addr) (c : Nat) (h : RowS w AnyZ 7 (.slice a fs.length c) fs.length (fs.flatMap cFT)) (hf : ∀ f ∈ fs, TxA f.name) (nm : List Int) (hn : TxA nm) : Calls Tryz.prog 39 #[.slice a fs.length c, .string (strOfNums nm)] w fun e w' => e = .returned (tFN (fs.find? (nmP nm))) ∧ Below w.heap.size w w' := by
  have HI := hid fun W (hW : Below w.heap.size w W) p (hp : Blk W p 9 #[.string (strOfNums nm)]) => firstFt W fs a c (h.kept hW) (.func (.func 64) #[] #[.pointer (some ⟨p, 0, none⟩)]) (nmP nm) (fun W2 hW2 => idxNmd fs W2 a c p (nmP nm) ((h.kept hW).kept hW2) (fun f hff W3 hW3 => nmdFn f W3 p nm ((hp.kept hW2).kept hW3) (hf f hff) hn))
  clear h hf hn
  generalize fs.find? (nmP nm) = r at *
  generalize fs.length = n at *
  go_enter Tryz.func39, Tryz.ntmps39
  go_wp2_with fail
  refine (HI.out _ (by exact blBy) w.heap.size (by first | exact (Blk.new _ _ _).kept (below_alloc _) | exact Blk.new _ _ _)).mono ?_
  rintro e w2 ⟨rfl, hb2⟩
  have hb2' : Hid (Below w.heap.size w w2) := hid (bl_then (by exact blBy) hb2)
  have Br : Blk w2 (w.heap.size + 1) 65 #[.string ⟨#[]⟩, .int .i64 0, .int .i64 0, .int .i64 0, .int .i64 0, .int .i64 0, .int .i64 0] := (Blk.newAt (by simp)).kept hb2
  have xr := Br.cellF
  have yr := Br.frz
  have zr := Br.lt
  clear hb2
  cases r with
  | none =>
    unfold tFN
    go_wp2
    exact bodyPost_ret (v := .tuple #[.agg #[.string ⟨#[]⟩, .int .i64 0, .int .i64 0, .int .i64 0, .int .i64 0, .int .i64 0, .int .i64 0], .bool false]) (by simp [results, Tryz.results39, go_sem, xr, zr, yr]) rfl ⟨rfl, by have := hb2'.out; exact blBy⟩
  | some s =>
    unfold tFN
    go_wp2
    exact bodyPost_ret (v := .tuple #[.agg #[.string (strOfNums s.name), .int .i64 s.num, .int .i64 s.kind, .int .i64 s.ref, .int .i64 s.lab, .int .i64 s.one, .int .i64 s.key], .bool true]) (by simp [results, Tryz.results39, go_sem, xr, zr, yr]) rfl ⟨rfl, by have := hb2'.out; exact blBy⟩
def ctN : List Int → List Int
  | [] => []
  | c :: r => if c = 46 then [] else c :: ctN r
def ctR : List Int → List Int
  | [] => []
  | c :: r => if c = 46 then r else ctR r
def ctG : List Int → Bool
  | [] => false
  | c :: r => if c = 46 then true else ctG r
theorem cut_I : ∀ l : List Int, (∀ c ∈ l, 0 ≤ c ∧ c ≤ 255) → Lib.cut (l.map b8) [46] = ((ctN l).map b8, (ctR l).map b8, ctG l)
  | [], _ => by rfl
  | c :: r, h => by
    have ih := cut_I r (fun c hc => h c (by simp [hc]))
    have hd := b8_dot (h c (by simp))
    unfold Lib.cut at ih ⊢
    rw [Lib.index_one] at ih ⊢
    rw [List.map_cons, ctN, ctR, ctG]
    by_cases e : c = 46
    · have hx : Lib.indexByte (b8 c :: r.map b8) 46 = 0 := by rw [Lib.indexByte, if_pos (by simpa using hd.2 e)]
      rw [hx, if_pos e, if_pos e, if_pos e, if_pos (by omega)]
      simp
    · have e1 : (b8 c == 46) = false := by simpa using fun q => e (hd.1 q)
      rw [if_neg e, if_neg e, if_neg e]
      have hg := Lib.indexByte_ge (r.map b8) 46
      by_cases q : Lib.indexByte (r.map b8) 46 = -1
      · have hx : Lib.indexByte (b8 c :: r.map b8) 46 = -1 := by rw [Lib.indexByte, if_neg (by rw [e1]; simp), if_pos (by simpa using q)]
        rw [hx, if_neg (by omega)]
        rw [q, if_neg (by omega)] at ih
        simp only [Prod.mk.injEq] at ih
        simp only [List.map_cons, Prod.mk.injEq]
        exact ⟨by rw [← ih.1], ih.2.1, ih.2.2⟩
      · obtain ⟨i, hi⟩ : ∃ i : Nat, Lib.indexByte (r.map b8) 46 = i := ⟨(Lib.indexByte (r.map b8) 46).toNat, by omega⟩
        have hx : Lib.indexByte (b8 c :: r.map b8) 46 = (i : Int) + 1 := by rw [Lib.indexByte, if_neg (by rw [e1]; simp), if_neg (by simpa using q), hi]
        rw [hi, if_pos (by omega)] at ih
        rw [hx, if_pos (by omega)]
        simp only [Prod.mk.injEq] at ih
        have e2 : ((i : Int) + 1).toNat = i + 1 := by omega
        have e3 : ((i : Int)).toNat = i := by omega
        rw [e3] at ih
        rw [e2]
        simp only [List.map_cons, Prod.mk.injEq]
        refine ⟨by rw [List.take_succ_cons, ih.1], ?_, ih.2.2⟩
        rw [← ih.2.1]
        simp
theorem ctN_mem : ∀ (l : List Int) c, c ∈ ctN l → c ∈ l
  | [], c, h => by simp [ctN] at h
  | a :: r, c, h => by
    rw [ctN] at h
    split at h
    · simp at h
    · rcases List.mem_cons.1 h with rfl | h
      · simp
      · exact List.mem_cons_of_mem _ (ctN_mem r c h)
theorem ctR_mem : ∀ (l : List Int) c, c ∈ ctR l → c ∈ l
  | [], c, h => by simp [ctR] at h
  | a :: r, c, h => by
    rw [ctR] at h
    split at h
    · exact List.mem_cons_of_mem _ h
    · exact List.mem_cons_of_mem _ (ctR_mem r c h)
theorem ctN_len : ∀ l : List Int, (ctN l).length ≤ l.length
  | [] => by simp [ctN]
  | a :: r => by
    have := ctN_len r
    rw [ctN]
    split <;> simp <;> omega
theorem ctR_len : ∀ l : List Int, (ctR l).length ≤ l.length
  | [] => by simp [ctR]
  | a :: r => by
    have := ctR_len r
    rw [ctR]
    split <;> simp <;> omega
theorem ctR_lt : ∀ l : List Int, ctG l = true → (ctR l).length < l.length
  | [], h => by simp [ctG] at h
  | a :: r, h => by
    rw [ctG] at h
    rw [ctR]
    split
    · simp
    · rw [if_neg (by assumption)] at h
      have := ctR_lt r h
      simp
      omega
theorem TxA.ofMem {xs ys : List Int} (h : TxA xs) (hm : ∀ c ∈ ys, c ∈ xs) (hl : ys.length ≤ xs.length) : TxA ys := ⟨fun c hc => h.1 c (hm c hc), by have := h.2; omega⟩
def ctD : List Int → Nat
  | [] => 0
  | c :: r => if c = 46 then ctD r + 1 else ctD r
theorem ctD_R : ∀ l : List Int, ctG l = true → ctD (ctR l) + 1 = ctD l
  | [], h => by simp [ctG] at h
  | a :: r, h => by
    rw [ctG] at h
    rw [ctR, ctD]
    split
    · rfl
    · rw [if_neg (by assumption)] at h
      exact ctD_R r h
theorem ctD_le : ∀ l : List Int, ctD l ≤ l.length
  | [] => Nat.le_refl _
  | a :: r => by
    rw [ctD, List.length_cons]
    have := ctD_le r
    split <;> omega
/-- A path that is not too long, of not too many names. -/
def PLn (p : List Int) : Prop := p.length ≤ 140737488355328 ∧ ctD p ≤ 4000000
theorem PLn.of {p : List Int} (h : p.length ≤ 4000000) : PLn p := ⟨by omega, Nat.le_trans (ctD_le p) h⟩
theorem wr_dot (i : Nat) (h : (i : Int) + 1 ≤ 9223372036854775807) : IntKind.i64.wrap ((i : Int) + 1) = (i : Int) + 1 := by
  rw [IntKind.wrap_i64]
  omega
theorem cutDotL (s : ByteArray) (w : World) (h63 : s.size ≤ 9223372036854775807) : Calls Tryz.prog 62 #[.string s, .string dotS] w fun e w' => e = .returned (.tuple #[.string ⟨(Lib.cut s.data.toList dotS.data.toList).1.toArray⟩, .string ⟨(Lib.cut s.data.toList dotS.data.toList).2.1.toArray⟩, .bool (Lib.cut s.data.toList dotS.data.toList).2.2]) ∧ ∃ n, w' = w.drewN n := by
  have e46 : dotS.data.toList = [46] := by rfl
  have esz : dotS.size = 1 := by rfl
  rcases Lib.indexB_cases s dotS with hix | ⟨i, hix, hroom⟩
  · obtain ⟨e1, e2, e3⟩ := Lib.cutB_miss s dotS hix
    rw [e1, e2, e3]
    replace hix : Lib.index s.data.toList dotS.data.toList = -1 := hix
    rw [e46, Lib.index_one] at hix
    have HI : Hid (∀ W, Calls Tryz.prog 92 #[.string s, .string dotS] W fun e w' => e = .returned (.int .i64 (-1)) ∧ w' = W) := hid (fun W => by rw [← hix]; exact Tryz.stringslite_Index_one s 46 W)
    clear hix e46 esz e1 e2 e3
    go_enter Tryz.func62, Tryz.ntmps62
    go_wp2_with fail
    refine (HI.out _).mono ?_
    rintro e w' ⟨rfl, rfl⟩
    go_wp2
    exact bodyPost_ret (v := .tuple #[.string s, .string ⟨#[]⟩, .bool false]) (by simp [results, Tryz.results62, go_sem]) rfl ⟨rfl, 0, rfl⟩
  · obtain ⟨e1, e2, e3⟩ := Lib.cutB_hit s dotS i hix
    rw [e1, e2, e3]
    replace hix : Lib.index s.data.toList dotS.data.toList = (i : Int) := hix
    rw [e46, Lib.index_one] at hix
    rw [esz] at hroom
    have HI : Hid (∀ W, Calls Tryz.prog 92 #[.string s, .string dotS] W fun e w' => e = .returned (.int .i64 (i : Int)) ∧ w' = W) := hid (fun W => by rw [← hix]; exact Tryz.stringslite_Index_one s 46 W)
    have c1 : (0 : Int) ≤ ↑i := by omega
    have c2 : (↑i : Int) ≤ ↑s.size := by omega
    have c3 : (0 : Int) ≤ ↑i + 1 := by omega
    have c4 : (↑i + 1 : Int) ≤ ↑s.size := by omega
    have wi : IntKind.i64.wrap ((i : Int) + 1) = (i : Int) + 1 := wr_dot i (by omega)
    clear hix e46 e1 e2 e3
    go_enter Tryz.func62, Tryz.ntmps62
    go_wp2_with fail
    refine (HI.out _).mono ?_
    rintro e w' ⟨rfl, rfl⟩
    go_wp2
    go_region
    go_wp2
    exact bodyPost_ret (v := .tuple #[.string (s.extract 0 i), .string (s.extract (i + 1) s.size), .bool true]) (by simp [results, Tryz.results62, go_sem]) rfl ⟨by rw [esz], 1, rfl⟩
theorem cutDot (s : ByteArray) (w : World) (h63 : s.size ≤ 9223372036854775807) : Calls Tryz.prog 38 #[.string s, .string dotS] w fun e w' => e = .returned (.tuple #[.string ⟨(Lib.cut s.data.toList dotS.data.toList).1.toArray⟩, .string ⟨(Lib.cut s.data.toList dotS.data.toList).2.1.toArray⟩, .bool (Lib.cut s.data.toList dotS.data.toList).2.2]) ∧ ∃ n, w' = w.drewN n := by
  have HC := hid (fun W => cutDotL s W h63)
  generalize ByteArray.mk (Lib.cut s.data.toList dotS.data.toList).1.toArray = r1 at *
  generalize ByteArray.mk (Lib.cut s.data.toList dotS.data.toList).2.1.toArray = r2 at *
  generalize (Lib.cut s.data.toList dotS.data.toList).2.2 = r3 at *
  go_enter Tryz.func38, Tryz.ntmps38
  go_wp2_with fail
  refine (HC.out _).mono ?_
  rintro e w' ⟨rfl, n, rfl⟩
  go_wp2
  exact bodyPost_ret (v := .tuple #[.string r1, .string r2, .bool r3]) (by simp [results, Tryz.results38, go_sem]) rfl ⟨rfl, n, rfl⟩
theorem cutT (xs : List Int) (m : Int) (w : World) (hs : xs.length ≤ 9223372036854775807) (hb : ∀ c ∈ xs, 0 ≤ c ∧ c ≤ 255) (hm : w.cell? ⟨0, 0, none⟩ = some (.int .i64 m)) : Calls Tryz.prog 38 #[.string (strOfNums xs), .string dotS] w fun e w' => e = .returned (.tuple #[.string (strOfNums (ctN xs)), .string (strOfNums (ctR xs)), .bool (ctG xs)]) ∧ Below w.heap.size w w' := by
  refine (cutDot (strOfNums xs) w (by rw [strOfNums_size]; exact hs)).mono ?_
  rintro e w' ⟨rfl, n, rfl⟩
  have e1 : (strOfNums xs).data.toList = xs.map b8 := by simp [strOfNums, b8]
  have e2 : dotS.data.toList = [46] := by rfl
  rw [e1, e2, cut_I xs hb]
  exact ⟨by congr 1, below_drewN _ _⟩
set_option maxHeartbeats 2000000
def isWyB (f : FT) : Bool := decide (f.lab = 1) && decide (f.kind = 17)
def wayM (l : List TV) : Nat → List FT → List Int → Option (List Int)
  | 0, _, _ => none
  | n + 1, fs, p => match fs.find? (nmP (ctN p)) with
    | none => none
    | some f => if ctG p = true then (if isWyB f = true then (wayM l n ((l[f.ref.toNat]?).elim [] (·.t.fs)) (ctR p)).map (f.num :: ·) else none) else some [f.num]
/-- What wayOf answers. -/
def WayA (w : World) (o : Option (List Int)) (e : Ending) (w' : World) : Prop := Below w.heap.size w w' ∧ match o with
  | none => e = .returned (.tuple #[.slice none 0 0, .bool false])
  | some r => ∃ a c, e = .returned (.tuple #[.slice a r.length c, .bool true]) ∧ w'.ownsRow w.heap.size 3 1 (.slice a r.length c) r.length (r.flatMap cI64)
theorem WayA.no {w w' : World} (h : Below w.heap.size w w') : WayA w none (.returned (.tuple #[.slice none 0 0, .bool false])) w' := ⟨h, rfl⟩
theorem WayA.yes {w w' : World} {r : List Int} {a : Option Addr} {c n : Nat} (hn : n = r.length) (h : Below w.heap.size w w') (ho : w'.ownsRow w.heap.size 3 1 (.slice a n c) r.length (r.flatMap cI64)) : WayA w (some r) (.returned (.tuple #[.slice a n c, .bool true])) w' := by
  subst hn
  exact ⟨h, a, c, rfl, ho⟩
/-- One more. -/
theorem appendWy (base : Nat) (v : Value) (l : List Int) (y : Int) (w : World) (h : w.ownsRow base 3 1 v l.length (l.flatMap cI64)) (hb : base ≤ w.heap.size) (hn : l.length ≤ 4000000) :
    ∃ a c w', Hid ((Builtin.append_ #[73, 73] 73 #[v, .slice (some ⟨w.heap.size, 0, none⟩) 1 1]).run Tryz.prog (w.alloc (.cells #[.int .i64 y] 3)) = .ok (.slice a (l.length + 1) c) w') ∧ Hid (w'.ownsRow base 3 1 (.slice a (l.length + 1) c) (l ++ [y]).length ((l ++ [y]).flatMap cI64)) ∧ Hid (Grow w w' v (.slice a (l.length + 1) c)) := by
  obtain ⟨v', w', h1, h2, h3⟩ := append_st 3 73 1 8 (.int .i64 0) Tryz.underlying73 Tryz.infoIn rfl (by decide) (by decide) base v l.length (l.flatMap cI64) w #[.int .i64 y] rfl (fun u hu => by simp at hu; subst hu; rfl) h hb hn
  obtain ⟨a, c, rfl⟩ := own_shape h2
  exact ⟨a, c, w', hid h1, hid (by rw [List.flatMap_append, List.length_append]; exact h2), hid h3⟩
theorem isWyT (w : World) (f : FT) : Calls Tryz.prog 40 #[.agg #[.string (strOfNums f.name), .int .i64 f.num, .int .i64 f.kind, .int .i64 f.ref, .int .i64 f.lab, .int .i64 f.one, .int .i64 f.key]] w fun e w' => e = .returned (.bool (isWyB f)) ∧ Below w.heap.size w w' := by
  have e : isWyB f = ((f.lab == 1) && (f.kind == 17)) := by
    unfold isWyB
    rw [Bool.eq_iff_iff]
    simp
  rw [e]
  clear e
  cases h1 : f.lab == 1 with
  | false =>
    go_enter Tryz.func40, Tryz.ntmps40
    go_wp2
    go_ret
    exact ⟨rfl, by exact blBy⟩
  | true =>
    cases h2 : f.kind == 17 with
    | false =>
      go_enter Tryz.func40, Tryz.ntmps40
      go_wp2
      go_ret
      exact ⟨rfl, by exact blBy⟩
    | true =>
      go_enter Tryz.func40, Tryz.ntmps40
      go_wp2
      go_ret
      exact ⟨rfl, by exact blBy⟩
def strAt (v : Value) : Nat := match v with
  | .string s => s.size
  | _ => 0
set_option maxHeartbeats 600000
theorem grow_blkW {w w' : World} {v v' : Value} {base e size n p : Nat} {fl : List Value} {t : TypeId} {cs : Array Value} (g : Grow w w' v v') (ho : w.ownsRow base e size v n fl) (hB : Blk w p t cs) (ht : t ≠ e) : Blk w' p t cs := (g.block p hB.lt (fun hk => by
    obtain ⟨_, _, cur, h3⟩ := own_type ho hk
    rw [show w.heap[p]? = _ from hB] at h3
    cases h3
    exact ht rfl)).trans hB
theorem own_othW {w : World} {base e size n q j : Nat} {v u : Value} {fl : List Value} (h : w.ownsRow base e size v n fl) {t : TypeId} {cs : Array Value} (hq : Blk w q t cs) (ht : t ≠ e) : (w.setCell ⟨q, j, none⟩ u).ownsRow base e size v n fl :=
  own_keep (f := (· ≠ q)) h (fun k hk e => by
    obtain ⟨_, _, cur, h3⟩ := own_type h hk
    rw [e, show w.heap[q]? = _ from hq] at h3
    cases h3
    exact ht rfl) (Keep.setCell _ _ _ (fun h => h rfl))
theorem Blk.set6 {w : World} {p : Nat} {t : TypeId} {x0 x1 x2 x3 x4 x5 a b c d e f : Value} (h : Blk w p t #[x0, x1, x2, x3, x4, x5]) : Blk ((((((w.setCell ⟨p, 0, none⟩ a).setCell ⟨p, 1, none⟩ b).setCell ⟨p, 2, none⟩ c).setCell ⟨p, 3, none⟩ d).setCell ⟨p, 4, none⟩ e).setCell ⟨p, 5, none⟩ f) p t #[a, b, c, d, e, f] := (((((h.set 0 a).set 1 b).set 2 c).set 3 d).set 4 e).set 5 f
theorem own_set6 {w : World} {p : Nat} {t : TypeId} {cs : Array Value} {a b c d e f v : Value} {base ty size n : Nat} {fl : List Value} (h : Blk w p t cs) (ho : w.ownsRow base ty size v n fl) (ht : t ≠ ty) : ((((((w.setCell ⟨p, 0, none⟩ a).setCell ⟨p, 1, none⟩ b).setCell ⟨p, 2, none⟩ c).setCell ⟨p, 3, none⟩ d).setCell ⟨p, 4, none⟩ e).setCell ⟨p, 5, none⟩ f).ownsRow base ty size v n fl := own_othW (own_othW (own_othW (own_othW (own_othW (own_othW ho h ht) (h.set 0 a) ht) ((h.set 0 a).set 1 b) ht) (((h.set 0 a).set 1 b).set 2 c) ht) ((((h.set 0 a).set 1 b).set 2 c).set 3 d) ht) (((((h.set 0 a).set 1 b).set 2 c).set 3 d).set 4 e) ht
theorem wayOfT (w : World) (l : List TV) (ta : Option Addr) (tc : Nat) (h : TbR w (.slice ta l.length tc) l) (hk : ∀ x ∈ l, OkV x) (hg : goodB l = true) (mx : Int) (hm0 : w.cell? ⟨0, 0, none⟩ = some (.int .i64 mx)) (x : TV) (hx : x ∈ l) (p0 : List Int) (hp : TxA p0) (hl : PLn p0) : Calls Tryz.prog 23 #[.slice ta l.length tc, .agg (cTV x).toArray, .string (strOfNums p0)] w (WayA w (wayM l (p0.length + 1) x.t.fs p0)) := by
  obtain ⟨_, _, e, hln⟩ := rowS_sl h.row
  clear e
  have l63 : (l.length : Int) ≤ 9223372036854775807 := by omega
  have HT := hid h
  have HK := hid hk
  have HG := hid hg
  have HM := hid hm0
  obtain ⟨R, eR⟩ : ∃ R, R = wayM l (p0.length + 1) x.t.fs p0 := ⟨_, rfl⟩
  rw [← eR]
  have HST : Hid (p0.length < p0.length + 1 ∧ ([] : List Int).length + ctD p0 ≤ 4000000 ∧ TxA p0 ∧ x ∈ l ∧ R = (wayM l (p0.length + 1) x.t.fs p0).map ([] ++ ·)) := hid ⟨by omega, by simpa using hl.2, hp, hx, by rw [eR]; simp⟩
  clear eR
  obtain ⟨a1, c1, a2, c2, a3, c3, a4, c4, e1, e2, e3, e4⟩ := shT_of (h.ty x hx)
  have ec : cTV x = [.string (strOfNums x.t.name), .bool x.t.enum, .slice a1 x.t.fs.length c1, .slice a2 x.t.os.length c2, .slice a3 x.t.ss.length c3, .slice a4 x.t.rs.length c4] := by unfold cTV; rw [e1, e2, e3, e4]
  have HBX : Hid (Blk (w.alloc (.cells (cTV x).toArray 63)) w.heap.size 63 (cTV x).toArray) := hid (Blk.new _ _ _)
  rw [ec] at HBX
  rw [ec]
  have HB0 : Hid (Below w.heap.size w (w.alloc (.cells #[.string (strOfNums x.t.name), .bool x.t.enum, .slice a1 x.t.fs.length c1, .slice a2 x.t.os.length c2, .slice a3 x.t.ss.length c3, .slice a4 x.t.rs.length c4] 63))) := hid (by exact blBy)
  have HSZ : Hid (w.heap.size + 1 ≤ (w.alloc (.cells #[.string (strOfNums x.t.name), .bool x.t.enum, .slice a1 x.t.fs.length c1, .slice a2 x.t.os.length c2, .slice a3 x.t.ss.length c3, .slice a4 x.t.rs.length c4] 63)).heap.size) := hid (by simp)
  clear h hk hg hm0 hx hp hl e1 e2 e3 e4
  go_enter Tryz.func23, Tryz.ntmps23
  go_wp2
  go_loopw [2, 8] (fun s2 s8 wr => ∃ (p acc : List Int) (n : Nat) (y : TV) (oa : Option Addr) (oc : Nat), s2 = .string (strOfNums p) ∧ s8 = .slice oa acc.length oc ∧ Hid (p.length < n ∧ acc.length + ctD p ≤ 4000000 ∧ TxA p ∧ y ∈ l ∧ R = (wayM l n y.t.fs p).map (acc ++ ·)) ∧ Hid (Blk wr w.heap.size 63 (cTV y).toArray) ∧ Hid (wr.ownsRow (w.heap.size + 1) 3 1 (.slice oa acc.length oc) acc.length (acc.flatMap cI64)) ∧ Hid (w.heap.size + 1 ≤ wr.heap.size) ∧ Hid (Below w.heap.size w wr)) (fun s2 s8 wr => strAt s2)
  case atStart => exact ⟨p0, [], p0.length + 1, x, none, 0, rfl, rfl, HST, hid (by rw [ec]; exact HBX.out), hid (World.ownsRow_nil _ _ _ _), HSZ, HB0⟩
  case round =>
    obtain ⟨p, acc, n, y, oa, oc, rfl, rfl, HP, BX, HO, HZ, hb⟩ := hrel
    clear HST HBX HB0 HSZ ec
    obtain ⟨n, rfl⟩ : ∃ k, n = k + 1 := ⟨n - 1, by have := HP.out.1; omega⟩
    obtain ⟨a1, c1, a2, c2, a3, c3, a4, c4, e1, e2, e3, e4⟩ := shT_of (HT.out.ty y HP.out.2.2.2.1)
    have ec : cTV y = [.string (strOfNums y.t.name), .bool y.t.enum, .slice a1 y.t.fs.length c1, .slice a2 y.t.os.length c2, .slice a3 y.t.ss.length c3, .slice a4 y.t.rs.length c4] := by unfold cTV; rw [e1, e2, e3, e4]
    have HFS := hid fun W (hW : Below w.heap.size w W) => (show RowS W AnyZ 7 (.slice a1 y.t.fs.length c1) y.t.fs.length (y.t.fs.flatMap cFT) by rw [← e1]; exact ((HT.out.ty y HP.out.2.2.2.1).kept hW).f)
    rw [ec] at BX
    clear e1 e2 e3 e4 ec
    have xb := BX.out.cellF
    have zb := BX.out.lt
    go_wp2_with fail
    refine (cutT p mx wr HP.out.2.2.1.2 HP.out.2.2.1.1 (cell_below HM.out hb.out)).mono ?_
    rintro e w1 ⟨rfl, hb1⟩
    have BX1 := hid (BX.out.kept hb1)
    have HO1 := hid (own_kept HO.out hb1)
    have HZ1 : Hid (w.heap.size + 1 ≤ w1.heap.size) := hid (by have := HZ.out; have := hb1.size; omega)
    have hbb : Hid (Below w.heap.size w w1) := hid (bl_then hb.out hb1)
    clear hb1 xb zb BX HO HZ hb
    have xb := BX1.out.cellF
    have zb := BX1.out.lt
    have HNM := hid (namedF w1 y.t.fs a1 c1 (HFS.out _ hbb.out) (fun f hf => (HK.out y HP.out.2.2.2.1).ok.fs f hf) (ctN p) (TxA.ofMem HP.out.2.2.1 (ctN_mem p) (ctN_len p)))
    have HWY : Hid (R = ((match y.t.fs.find? (nmP (ctN p)) with
      | none => none
      | some f => if ctG p = true then (if isWyB f = true then (wayM l n ((l[f.ref.toNat]?).elim [] (·.t.fs)) (ctR p)).map (f.num :: ·) else none) else some [f.num]) : Option (List Int)).map (acc ++ ·)) := hid (by
      rw [HP.out.2.2.2.2]
      rfl)
    have HFM : Hid (∀ f, y.t.fs.find? (nmP (ctN p)) = some f → f ∈ y.t.fs) := hid (fun f hf => List.mem_of_find?_eq_some hf)
    generalize y.t.fs.find? (nmP (ctN p)) = q at *
    go_wp2_with fail
    refine HNM.out.mono ?_
    rintro e w2 ⟨rfl, hb2⟩
    replace BX1 := hid (BX1.out.kept hb2)
    replace HO1 := hid (own_kept HO1.out hb2)
    replace HZ1 : Hid (w.heap.size + 1 ≤ w2.heap.size) := hid (by have := HZ1.out; have := hb2.size; omega)
    replace hbb : Hid (Below w.heap.size w w2) := hid (bl_then hbb.out hb2)
    clear hb2 xb zb HNM HFS
    have xb := BX1.out.cellF
    have zb := BX1.out.lt
    cases q with
    | none =>
      obtain rfl : R = none := HWY.out
      unfold tFN
      go_wp2
      exact bodyPost_ret (v := .tuple #[.slice none 0 0, .bool false]) (by simp [results, Tryz.results23, go_sem]) rfl (WayA.no (by have := hbb.out; exact blBy))
    | some f =>
      have HFF := hid (HFM.out f rfl)
      obtain ⟨k, ek⟩ : ∃ k : Nat, f.ref = (k : Int) := ⟨f.ref.toNat, by have := good_refs HG.out HP.out.2.2.2.1 HFF.out; omega⟩
      have hkl : k < l.length := by have := good_refs HG.out HP.out.2.2.2.1 HFF.out; omega
      obtain ⟨f1, f2, f3, f4, f5, f6, f7⟩ := f
      dsimp only at ek
      subst ek
      clear HFM HFF
      unfold tFN
      dsimp only at HWY ⊢
      have HO2 := hid (own_kept HO1.out (below_alloc (w := w2) (.cells #[.string (strOfNums f1), .int .i64 f2, .int .i64 f3, .int .i64 (k : Int), .int .i64 f5, .int .i64 f6, .int .i64 f7] 65)))
      have BX2 := hid (BX1.out.kept (below_alloc (w := w2) (.cells #[.string (strOfNums f1), .int .i64 f2, .int .i64 f3, .int .i64 (k : Int), .int .i64 f5, .int .i64 f6, .int .i64 f7] 65)))
      have BF2 : Hid (Blk (w2.alloc (.cells #[.string (strOfNums f1), .int .i64 f2, .int .i64 f3, .int .i64 (k : Int), .int .i64 f5, .int .i64 f6, .int .i64 f7] 65)) w2.heap.size 65 #[.string (strOfNums f1), .int .i64 f2, .int .i64 f3, .int .i64 (k : Int), .int .i64 f5, .int .i64 f6, .int .i64 f7]) := hid (Blk.new _ _ _)
      have HZ2 : Hid (w.heap.size + 1 ≤ (w2.alloc (.cells #[.string (strOfNums f1), .int .i64 f2, .int .i64 f3, .int .i64 (k : Int), .int .i64 f5, .int .i64 f6, .int .i64 f7] 65)).heap.size) := hid (by have := HZ1.out; simp; omega)
      have hb3 : Hid (Below w.heap.size w (w2.alloc (.cells #[.string (strOfNums f1), .int .i64 f2, .int .i64 f3, .int .i64 (k : Int), .int .i64 f5, .int .i64 f6, .int .i64 f7] 65))) := hid (bl_alloc hbb.out _)
      cases hG : ctG p with
      | false =>
        rw [hG] at HWY
        obtain rfl : R = some (acc ++ [f2]) := HWY.out
        obtain ⟨la, lc, x1, HRUN, HV2, HG1⟩ := appendWy (w.heap.size + 1) _ acc f2 _ HO2.out HZ2.out (by have := HP.out.2.1; omega)
        have HB1 : Hid (Below w.heap.size w x1) := hid (hb3.out.trans (grow_bel HG1.out HO2.out (by omega) hb3.out.size))
        rw [show (w2.alloc (.cells #[.string (strOfNums f1), .int .i64 f2, .int .i64 f3, .int .i64 (k : Int), .int .i64 f5, .int .i64 f6, .int .i64 f7] 65)).heap.size = w2.heap.size + 1 from by simp] at HRUN
        go_wp2_with (first | (at_builtin; refine wpList_append_ran rfl (.tmp 37) (.tmp 40) 73 73 rfl rfl (.slice oa acc.length oc) (.slice (some ⟨w2.heap.size + 1, 0, none⟩) 1 1) (.slice la (acc.length + 1) lc) x1 rfl rfl HRUN.out ?_))
        exact bodyPost_ret (v := .tuple #[.slice la (acc.length + 1) lc, .bool true]) (by simp [results, Tryz.results23, go_sem]) rfl (WayA.yes (by simp) HB1.out (own_mono HV2.out (by omega)))
      | true =>
        have HWC := hid (fun W => isWyT W ⟨f1, f2, f3, (k : Int), f5, f6, f7⟩)
        dsimp only at HWC
        rw [hG] at HWY
        simp only [if_true] at HWY
        cases hw : isWyB ⟨f1, f2, f3, (k : Int), f5, f6, f7⟩ with
        | false =>
          rw [hw] at HWC HWY
          obtain rfl : R = none := HWY.out
          go_wp2_with fail
          refine (HWC.out _).mono ?_
          rintro e w3 ⟨rfl, hbx⟩
          replace hb3 := hid (bl_then hb3.out hbx)
          clear hbx
          go_wp2
          exact bodyPost_ret (v := .tuple #[.slice none 0 0, .bool false]) (by simp [results, Tryz.results23, go_sem]) rfl (WayA.no (by have := hb3.out; exact blBy))
        | true =>
          rw [hw] at HWC HWY
          simp only [if_true] at HWY
          have kk : (k : Int) < (l.length : Int) := by omega
          rw [Int.toNat_natCast, List.getElem?_eq_getElem hkl] at HWY
          have HPN : Hid ((ctR p).length < n ∧ (acc ++ [f2]).length + ctD (ctR p) ≤ 4000000 ∧ TxA (ctR p) ∧ l[k] ∈ l ∧ R = (wayM l n l[k].t.fs (ctR p)).map ((acc ++ [f2]) ++ ·)) := hid ⟨by have := ctR_lt p hG; have := HP.out.1; omega, by have := ctD_R p hG; have := HP.out.2.1; simp; omega, TxA.ofMem HP.out.2.2.1 (ctR_mem p) (ctR_len p), List.getElem_mem hkl, by
            rw [HWY.out]
            show Option.map _ (Option.map _ _) = _
            rw [Option.map_map]
            congr 1
            funext z
            simp⟩
          have HLT : Hid ((strOfNums (ctR p)).size < (strOfNums p).size) := hid (by rw [strOfNums_size, strOfNums_size]; exact ctR_lt p hG)
          clear HWY hw hG
          replace hkl := hid hkl
          go_wp2_with fail
          refine (HWC.out _).mono ?_
          rintro e w3 ⟨rfl, hbx⟩
          have BX3 := hid (BX2.out.kept hbx)
          have BF3 := hid (BF2.out.kept hbx)
          have HO3 := hid (own_kept HO2.out hbx)
          have HZ3 : Hid (w.heap.size + 1 ≤ w3.heap.size) := hid (by have := HZ2.out; have := hbx.size; omega)
          have hb4 : Hid (Below w.heap.size w w3) := hid (bl_then hb3.out hbx)
          obtain ⟨la, lc, x1, HRUN, HV2, HG1⟩ := appendWy (w.heap.size + 1) _ acc f2 w3 HO3.out HZ3.out (by have := HP.out.2.1; omega)
          have BX4 := hid (grow_blkW HG1.out HO3.out BX3.out (by decide))
          have BF4 := hid (grow_blkW HG1.out HO3.out BF3.out (by decide))
          have HZ4 : Hid (w.heap.size + 1 ≤ x1.heap.size) := hid (by have := HZ3.out; have := HG1.out.size; omega)
          have HB1 : Hid (Below w.heap.size w x1) := hid (hb4.out.trans (grow_bel HG1.out HO3.out (by omega) hb4.out.size))
          obtain ⟨tb, tof, eta, hbl, d0, d1, d2, d3, d4, d5⟩ := row6 (HT.out.kept HB1.out).row hkl.out
          obtain ⟨a1', c1', a2', c2', a3', c3', a4', c4', e1, e2, e3, e4⟩ := shT_of (HT.out.ty _ (List.getElem_mem hkl.out))
          have ec : cTV (l[k]'hkl.out) = [.string (strOfNums (l[k]'hkl.out).t.name), .bool (l[k]'hkl.out).t.enum, .slice a1' (l[k]'hkl.out).t.fs.length c1', .slice a2' (l[k]'hkl.out).t.os.length c2', .slice a3' (l[k]'hkl.out).t.ss.length c3', .slice a4' (l[k]'hkl.out).t.rs.length c4'] := by unfold cTV; rw [e1, e2, e3, e4]
          have EC := hid ec
          rw [e1] at d2
          rw [e2] at d3
          rw [e3] at d4
          rw [e4] at d5
          subst eta
          clear hbx e1 e2 e3 e4 ec xb zb BX1 HO1 HZ1 hbb HO2 BX2 BF2 HZ2 hb3 HWC
          have HX6 := hid (fun a b c d e f => BX4.out.set6 (a := a) (b := b) (c := c) (d := d) (e := e) (f := f))
          generalize l[k]'hkl.out = z at *
          have xf := BF3.out.cellF
          have zf := BF3.out.lt
          have xf4 := BF4.out.cellF
          have zf4 := BF4.out.lt
          have xx := BX4.out.cellF
          have yx := BX4.out.frz
          have zx := BX4.out.lt
          go_wp2_with (first | (at_builtin; refine wpList_append_ran rfl (.tmp 37) (.tmp 40) 73 73 rfl rfl (.slice oa acc.length oc) (.slice (some ⟨w3.heap.size, 0, none⟩) 1 1) (.slice la (acc.length + 1) lc) x1 rfl rfl HRUN.out ?_))
          refine ⟨⟨ctR p, acc ++ [f2], n, z, la, lc, rfl, by simp, HPN, hid (by rw [EC.out]; exact HX6.out _ _ _ _ _ _), hid (own_set6 BX4.out (by have := HV2.out; rw [List.length_append] at *; exact this) (by decide)), hid (by have := HZ4.out; simpa using this), hid (by have := HB1.out; exact blBy)⟩, ?_⟩
          show strAt (.string (strOfNums (ctR p))) < strAt (.string (strOfNums p))
          exact HLT.out
end Go.Proofs.YtkifjpaoncjokaaGreatDoor
