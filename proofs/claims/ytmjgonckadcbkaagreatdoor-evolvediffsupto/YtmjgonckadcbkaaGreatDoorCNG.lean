/-
  A table is good: what the document answers.
  Both answers about names are one.
  Both answers about an enum are one.
  Both answers about a message are one.
  Both answers about a table are one.
  EvolveFresh: a message's new numbers; any two kinds.
  EvolveAdditive: what additive means.
  The document's changes are those of good tables: mathematics.
  The document's changes of two good tables, in memory.
-/
import Derived.Test.YtmjgonckadcbkaaGreatDoorCND
import Derived.Test.YtmjgonckadcbkaaGreatDoorNF
import Derived.Test.YtmjgonckadcbkaaGreatDoorCTP
import Derived.Test.YtmjgonckadcbkaaGreatDoorCEV14
import Derived.Test.YtmjgonckadcbkaaGreatDoorCEV25
import Derived.Test.YtmjgonckadcbkaaGreatDoorCEV7
namespace Go.Proofs.YtmjgonckadcbkaaGreatDoor
open Go.RowKit
set_option maxRecDepth 1000000
set_option linter.unusedVariables false
set_option linter.unusedSimpArgs false
set_option maxHeartbeats 1000000
def gtD (l : List TV) (i : Nat) (t : TT) : Bool := nmdB l i t && (if t.enum = true then enmB t else msgD l t)
def gdA (l : List TV) : Nat → List TV → Bool
  | _, [] => true
  | i, x :: r => gtD l i x.t && gdA l (i + 1) r
def goodD (l : List TV) : Bool := decide (l.length ≤ 128) && gdA l 0 l
theorem goodR (w : World) (l : List TV) (ta : Option Addr) (tc : Nat) (h : TbR w (.slice ta l.length tc) l) (hk : ∀ x ∈ l, OkV x) (hz : ∀ x ∈ l, x.t.name.length < 4000000) : Calls Tryz.prog 8 #[.agg #[.slice ta l.length tc]] w fun e w' => e = .returned (.bool (goodD l)) ∧ Below w.heap.size w w' := by
  obtain ⟨_, _, e, hn⟩ := rowS_sl h.row
  clear e
  have h1 : (l.length : Int) ≤ 9223372036854775807 := by omega
  have HT := hid h
  have HK := hid hk
  have HZ := hid hz
  clear h hk hz
  have HX : Hid (goodD l = (decide (l.length ≤ 128) && gdA l 0 l)) := hid rfl
  generalize goodD l = res at *
  by_cases hbig : 128 < l.length
  case pos =>
    have h2 : (128 : Int) < (l.length : Int) := by omega
    have HE : Hid (res = false) := hid (by rw [HX.out, decide_eq_false (by omega)]; rfl)
    go_enter Tryz.func8, Tryz.ntmps8
    go_wp2
    go_ret
    exact ⟨ret_bool HE.out.symm, by exact blBy⟩
  have h2 : ¬ (128 : Int) < (l.length : Int) := by omega
  replace HX := hid (show res = gdA l 0 l by rw [HX.out, decide_eq_true (by omega)]; rfl)
  go_enter Tryz.func8, Tryz.ntmps8
  go_wp2
  go_loopw [3] (fun r wr => ∃ i : Nat, r = .int .i64 i ∧ i ≤ l.length ∧ Hid (res = gdA l i (l.drop i)) ∧ Hid (Blk wr w.heap.size 24 #[.slice ta l.length tc]) ∧ Hid (Below w.heap.size w wr)) (fun r wr => l.length - numAt wr r)
  case atStart => exact ⟨0, rfl, by omega, HX, hid (Blk.new _ _ _), hid (by exact blBy)⟩
  case round =>
    clear HX
    obtain ⟨i, rfl, hi, HX, Ba, hb⟩ := hrel
    have xa := Ba.out.cellF
    have za := Ba.out.lt
    by_cases hlt : i < l.length
    case neg =>
      have h3 : ¬ (i : Int) < (l.length : Int) := by omega
      have HE : Hid (res = true) := hid (by rw [HX.out, List.drop_of_length_le (by omega)]; rfl)
      go_wp2
      go_ret
      exact ⟨ret_bool HE.out.symm, hb.out⟩
    have h3 : (i : Int) < (l.length : Int) := by omega
    have HST : Hid (gdA l i (l.drop i) = (gtD l i l[i].t && gdA l (i + 1) (l.drop (i + 1)))) := hid (by rw [List.drop_eq_getElem_cons hlt, gdA])
    rw [HST.out] at HX
    clear HST
    have HTY := hid (HT.out.ty _ (List.getElem_mem hlt))
    have HOK := hid (HK.out _ (List.getElem_mem hlt))
    have HNM : Hid (∀ W, Below w.heap.size w W → Calls Tryz.prog 27 #[.agg #[.slice ta l.length tc], .int .i64 (i : Int)] W fun e w' => e = .returned (.bool (nmdB l i l[i].t)) ∧ Below W.heap.size W w') := hid fun W hW => namedR W l ta tc i (HT.out.kept hW) (fun x hx => (HK.out x hx).ok.nm) HZ.out hlt
    obtain ⟨tb, tof, rfl, hbl, c0, c1, c2, c3, c4, c5⟩ := row6 (HT.out.row.kept hb.out) hlt
    generalize l[i] = x at *
    obtain ⟨t, f, o, s, r⟩ := x
    obtain ⟨fa, fc, ef, -⟩ := rowS_sl HTY.out.f
    obtain ⟨oa, oc, eo, -⟩ := rowS_sl HTY.out.o
    obtain ⟨sa, sc, es, -⟩ := rowS_sl HTY.out.s
    obtain ⟨ra, rc, er, -⟩ := rowS_sl HTY.out.r
    dsimp only at ef eo es er
    subst ef eo es er
    dsimp only at c0 c1 c2 c3 c4 c5 HX HNM
    go_wp2_with fail
    have Bx : Blk (wr.alloc (.cells #[.string (strOfNums t.name), .bool t.enum, .slice fa t.fs.length fc, .slice oa t.os.length oc, .slice sa t.ss.length sc, .slice ra t.rs.length rc] 50)) wr.heap.size 50 #[.string (strOfNums t.name), .bool t.enum, .slice fa t.fs.length fc, .slice oa t.os.length oc, .slice sa t.ss.length sc, .slice ra t.rs.length rc] := Blk.new _ _ _
    have Ba1 := Ba.out.kept (below_alloc (w := wr) (.cells #[.string (strOfNums t.name), .bool t.enum, .slice fa t.fs.length fc, .slice oa t.os.length oc, .slice sa t.ss.length sc, .slice ra t.rs.length rc] 50))
    have hb1 : Hid (Below w.heap.size w (wr.alloc (.cells #[.string (strOfNums t.name), .bool t.enum, .slice fa t.fs.length fc, .slice oa t.os.length oc, .slice sa t.ss.length sc, .slice ra t.rs.length rc] 50))) := hid (by have := hb.out; exact blBy)
    refine (HNM.out _ hb1.out).mono ?_
    rintro e w1 ⟨rfl, hb2⟩
    replace Ba1 := Ba1.kept hb2
    replace Bx := Bx.kept hb2
    replace hb2 : Hid (Below w.heap.size w w1) := hid (bl_then hb1.out hb2)
    have HBA := hid Ba1
    have HBX := hid Bx
    clear xa za Ba c0 c1 c2 c3 c4 c5 hbl
    have xa := Ba1.cellF
    have za := Ba1.lt
    have xx := Bx.cellF
    have zx := Bx.lt
    clear Ba1 Bx hb1 hb
    generalize wr.heap.size = xp at *
    have HD : Hid (gtD l i t = (nmdB l i t && (if t.enum = true then enmB t else msgD l t))) := hid rfl
    rw [HD.out] at HX
    cases q0 : nmdB l i t with
    | false =>
      have HE : Hid (res = false) := hid (by rw [HX.out, q0]; rfl)
      go_wp2
      go_ret
      exact ⟨ret_bool HE.out.symm, hb2.out⟩
    | true =>
    replace HX := hid (show res = ((if t.enum = true then enmB t else msgD l t) && gdA l (i + 1) (l.drop (i + 1))) by rw [HX.out, q0]; rfl)
    cases qe : t.enum with
    | true =>
      have HEN : Hid (∀ W, Below w.heap.size w W → Calls Tryz.prog 28 #[.agg #[.string (strOfNums t.name), .bool true, .slice fa t.fs.length fc, .slice oa t.os.length oc, .slice sa t.ss.length sc, .slice ra t.rs.length rc]] W fun e w' => e = .returned (.bool (enmB t)) ∧ Below W.heap.size W w') := hid (fun W hW => by have := enumR W t fa oa sa ra fc oc sc rc (HTY.out.kept hW) (fun x hx => (HOK.out.ok.ss x hx).1); rw [qe] at this; exact this)
      replace HX := hid (show res = (enmB t && gdA l (i + 1) (l.drop (i + 1))) by rw [HX.out, qe]; rfl)
      go_wp2_with fail
      refine (HEN.out _ (by have := hb2.out; exact blBy)).mono ?_
      rintro e w2 ⟨rfl, hb3⟩
      have HBA2 := hid (HBA.out.kept hb3)
      have HBX2 := hid (HBX.out.kept hb3)
      replace hb3 : Hid (Below w.heap.size w w2) := hid (bl_then hb2.out hb3)
      clear xa za xx zx
      have xa := HBA2.out.cellF
      have za := HBA2.out.lt
      have xx := HBX2.out.cellF
      have zx := HBX2.out.lt
      cases q1 : enmB t with
      | false =>
        have HE : Hid (res = false) := hid (by rw [HX.out, q1]; rfl)
        go_wp2
        go_ret
        exact ⟨ret_bool HE.out.symm, hb3.out⟩
      | true =>
        have HE : Hid (res = gdA l (i + 1) (l.drop (i + 1))) := hid (by rw [HX.out, q1]; rfl)
        go_wp2
        exact ⟨⟨i + 1, by simp, by omega, HE, HBA2, hb3⟩, by simp [numAt]; omega⟩
    | false =>
      have HEN : Hid (∀ W, Below w.heap.size w W → Calls Tryz.prog 29 #[.agg #[.slice (some ⟨tb, tof, none⟩) l.length tc], .agg #[.string (strOfNums t.name), .bool false, .slice fa t.fs.length fc, .slice oa t.os.length oc, .slice sa t.ss.length sc, .slice ra t.rs.length rc]] W fun e w' => e = .returned (.bool (msgD l t)) ∧ Below W.heap.size W w') := hid (fun W hW => by have := messageR W l _ tc t fa oa sa ra fc oc sc rc (HT.out.kept hW) (HTY.out.kept hW) HOK.out.ok; rw [qe] at this; exact this)
      replace HX := hid (show res = (msgD l t && gdA l (i + 1) (l.drop (i + 1))) by rw [HX.out, qe]; rfl)
      go_wp2_with fail
      refine (HEN.out _ (by have := hb2.out; exact blBy)).mono ?_
      rintro e w2 ⟨rfl, hb3⟩
      have HBA2 := hid (HBA.out.kept hb3)
      have HBX2 := hid (HBX.out.kept hb3)
      replace hb3 : Hid (Below w.heap.size w w2) := hid (bl_then hb2.out hb3)
      clear xa za xx zx
      have xa := HBA2.out.cellF
      have za := HBA2.out.lt
      have xx := HBX2.out.cellF
      have zx := HBX2.out.lt
      cases q1 : msgD l t with
      | false =>
        have HE : Hid (res = false) := hid (by rw [HX.out, q1]; rfl)
        go_wp2
        go_ret
        exact ⟨ret_bool HE.out.symm, hb3.out⟩
      | true =>
        have HE : Hid (res = gdA l (i + 1) (l.drop (i + 1))) := hid (by rw [HX.out, q1]; rfl)
        go_wp2
        exact ⟨⟨i + 1, by simp, by omega, HE, HBA2, hb3⟩, by simp [numAt]; omega⟩
theorem byteAt {x : List Int} (hb : ∀ c ∈ x, 0 ≤ c ∧ c ≤ 255) {j : Nat} (hj : j < x.length) : (((strOfNums x).data[j]!).toNat : Int) = x[j] := by
  have hs : j < (strOfNums x).data.size := by have := strOfNums_size x; rw [ByteArray.size] at this; omega
  rw [getElem!_pos (strOfNums x).data j hs]
  have e : (strOfNums x).data[j] = UInt8.ofNat (x[j]).toNat := by simp [strOfNums]
  have := hb _ (List.getElem_mem hj)
  rw [e, UInt8.toNat_ofNat']
  omega
theorem lastD_spec {x : List Int} (hb : ∀ c ∈ x, 0 ≤ c ∧ c ≤ 255) : (lastD x = -1 ∧ ∀ c ∈ x, c ≠ 46) ∨ ∃ a b : List Int, x = a ++ 46 :: b ∧ (∀ c ∈ b, c ≠ 46) ∧ lastD x = a.length := by
  rcases Lib.lastIndexByte_spec (strOfNums x) 46 with ⟨e, h⟩ | ⟨i, hi, e, h1, h2⟩
  · refine .inl ⟨e, fun c hc => ?_⟩
    obtain ⟨j, hj, rfl⟩ := List.mem_iff_getElem.1 hc
    rw [← byteAt hb hj]
    exact h j (by rw [strOfNums_size]; exact hj)
  · rw [strOfNums_size] at hi
    refine .inr ⟨x.take i, x.drop (i + 1), ?_, fun c hc => ?_, ?_⟩
    · rw [byteAt hb hi] at h1
      rw [← h1, List.getElem_cons_drop, List.take_append_drop]
    · obtain ⟨j, hj, rfl⟩ := List.mem_iff_getElem.1 hc
      rw [List.length_drop] at hj
      rw [List.getElem_drop, ← byteAt hb (show i + 1 + j < x.length by omega)]
      exact h2 _ (by omega) (by rw [strOfNums_size]; omega)
    · rw [List.length_take, Nat.min_eq_left (by omega)]; exact e
theorem cutI_app : ∀ (a b : List Int), cutI (a ++ 46 :: b) = cutI a ++ cutI b
  | [], b => by simp [cutI]
  | c :: r, b => by
    rw [List.cons_append, cutI, cutI, cutI_app r b]
    obtain ⟨p, q, e⟩ := cutI_ne r
    rw [e]
    split <;> rfl
theorem headA_find (hd : List Int) : ∀ l : List TV, headA hd l = (match l.find? (fun v => v.t.name == hd) with
  | none => false
  | some v => !v.t.enum)
  | [] => rfl
  | v :: r => by
    rw [headA, List.find?_cons, headA_find hd r]
    by_cases h : v.t.name = hd
    · rw [show nameP hd v = true from decide_eq_true h, show (v.t.name == hd) = true by simpa using h]; rfl
    · rw [show nameP hd v = false from decide_eq_false h, show (v.t.name == hd) = false by simpa using h]; rfl
theorem standEq (l : List TV) (i : Nat) {x : List Int} (hb : ∀ c ∈ x, 0 ≤ c ∧ c ≤ 255) : standB l i x = (decide ((cutI x).length = 1) || headA (x.take (hdN x)) (l.take i)) := by
  rcases lastD_spec hb with ⟨e, h⟩ | ⟨a, b, rfl, h, e⟩
  · rw [cutI_none x h]
    unfold standB
    rw [if_pos (by rw [e]; omega)]
    rfl
  · have ec : cutI (a ++ 46 :: b) = cutI a ++ [b] := by rw [cutI_app, cutI_none b h]
    have hl : 1 ≤ (cutI a).length := by rw [cutI_len]; omega
    have el : lastP (a ++ 46 :: b) = b := by unfold lastP; rw [ec]; simp
    have eh : hdN (a ++ 46 :: b) = a.length := by unfold hdN; rw [el]; simp; omega
    unfold standB
    rw [if_neg (by rw [e]; omega), e, Int.toNat_natCast, headA_find, eh, decide_eq_false (by rw [ec, List.length_append]; simp only [List.length_cons, List.length_nil]; omega)]
    simp only [Bool.false_or]
    cases List.find? (fun v => v.t.name == List.take a.length (a ++ 46 :: b)) (List.take i l) <;> rfl
theorem any_name (l : List TV) (x : List Int) : l.any (nameP x) = named l x := by
  unfold named
  congr 1
  funext v
  unfold nameP
  by_cases h : v.t.name = x <;> simp [h]
theorem nmdEq (l : List TV) (i : Nat) (t : TT) (hb : ∀ c ∈ t.name, 0 ≤ c ∧ c ≤ 255) : nmdB l i t = (!named (l.take i) t.name && (fullB t && standB l i t.name)) := by
  unfold nmdB fullB
  rw [any_name, standEq l i hb, Bool.and_assoc]
  congr 2
  rw [cutI_len]
  split <;> (congr 1; try (apply propext; omega))
theorem pw_and {α : Type} {R S : α → α → Prop} : ∀ l : List α, l.Pairwise (fun a b => R a b ∧ S a b) ↔ l.Pairwise R ∧ l.Pairwise S
  | [] => by simp
  | x :: r => by
    rw [List.pairwise_cons, List.pairwise_cons, List.pairwise_cons, pw_and r]
    constructor
    · rintro ⟨h1, h2, h3⟩
      exact ⟨⟨fun a ha => (h1 a ha).1, h2⟩, fun a ha => (h1 a ha).2, h3⟩
    · rintro ⟨⟨h1, h2⟩, h3, h4⟩
      exact ⟨fun a ha => ⟨h1 a ha, h3 a ha⟩, h2, h4⟩
theorem enmA_iff : ∀ (r pre : List SY), enmA pre r = true ↔ (∀ s ∈ r, nmB s.name = true ∧ 0 ≤ s.num ∧ s.num < 2147483648) ∧ r.Pairwise (fun a b => a.name ≠ b.name ∧ a.num ≠ b.num) ∧ ∀ p ∈ pre, ∀ s ∈ r, p.name ≠ s.name ∧ p.num ≠ s.num
  | [], pre => by simp [enmA]
  | s :: r, pre => by
    rw [enmA, Bool.and_eq_true, Bool.and_eq_true, Bool.and_eq_true, enmA_iff r (pre ++ [s]), decide_eq_true_eq, List.pairwise_cons]
    have hd : ((!pre.any (dupP s)) = true) ↔ ∀ p ∈ pre, p.name ≠ s.name ∧ p.num ≠ s.num := by
      rw [Bool.not_eq_true', List.any_eq_false]
      constructor
      · intro h p hp
        have := h p hp
        unfold dupP at this
        simp at this
        exact this
      · intro h p hp
        have := h p hp
        unfold dupP
        simp
        exact this
    rw [hd]
    constructor
    · rintro ⟨h1, h2, h3, h4, h5, h6⟩
      refine ⟨fun x hx => ?_, ⟨fun x hx => h6 s (by simp) x hx, h5⟩, fun p hp x hx => ?_⟩
      · rcases List.mem_cons.1 hx with rfl | hx
        · exact ⟨h1, h2⟩
        · exact h4 x hx
      · rcases List.mem_cons.1 hx with rfl | hx
        · exact h3 p hp
        · exact h6 p (by simp [hp]) x hx
    · rintro ⟨h1, ⟨h2, h3⟩, h4⟩
      refine ⟨(h1 s (by simp)).1, (h1 s (by simp)).2, fun p hp => h4 p hp s (by simp), fun x hx => h1 x (by simp [hx]), h3, fun p hp x hx => ?_⟩
      rcases List.mem_append.1 hp with hp | hp
      · exact h4 p hp x (by simp [hx])
      · simp at hp; subst hp; exact h2 x hx
theorem isKeyS (x : List Int) : WideAt.IsKeyLit (litS x) := trivial
theorem isKeyI (x : Int) : WideAt.IsKeyLit (litI x) := trivial
theorem dfS_iff {ns : List (List Int)} (ht : ∀ x ∈ ns, TxA x) : dfB (ns.map litS) = true ↔ ns.Pairwise (· ≠ ·) := by
  rw [dfB_iff _ (fun x hx => by obtain ⟨y, _, rfl⟩ := List.mem_map.1 hx; exact isKeyS y), List.Nodup, List.pairwise_map]
  exact List.Pairwise.iff_of_mem (fun ha hb => ⟨fun h e => h (by rw [e]), fun h e => h (litS_inj (ht _ ha) (ht _ hb) e)⟩)
theorem dfI_iff (ns : List Int) : dfB (ns.map litI) = true ↔ ns.Pairwise (· ≠ ·) := by
  rw [dfB_iff _ (fun x hx => by obtain ⟨y, _, rfl⟩ := List.mem_map.1 hx; exact isKeyI y), List.Nodup, List.pairwise_map]
  exact List.Pairwise.iff_of_mem (fun ha hb => ⟨fun h e => h (by rw [e]), fun h e => h (by unfold litI at e; injection e)⟩)
theorem enumEq (t : TT) (hk : ∀ x ∈ t.ss, TxA x.name) : enmB t = (decide (t.fs.length + t.os.length + t.rs.length = 0) && symB t.ss) := by
  rw [Bool.eq_iff_iff]
  unfold enmB
  cases hs : t.ss with
  | nil => simp [symB]
  | cons s r =>
    rw [hs] at hk
    rw [symB_is (by simp)]
    simp only [Bool.and_eq_true, decide_eq_true_eq, enmA_iff, List.length_cons, List.getElem?_cons_zero, Option.map_some, Option.getD_some, List.getElem_cons_zero]
    rw [dfS_iff (fun x hx => by obtain ⟨y, hy, rfl⟩ := List.mem_map.1 hx; exact hk y hy), dfI_iff, List.pairwise_map, List.pairwise_map, pw_and, List.all_eq_true, List.all_eq_true]
    constructor
    · rintro ⟨⟨h1, h2⟩, h3, h4, h5, h6, h7, ⟨h8, h9⟩, h10⟩
      refine ⟨by omega, h2, h3, fun x hx => ?_, fun x hx => ?_, h8, h9⟩
      · have := (h7 x hx).2; simp; omega
      · obtain ⟨y, hy, rfl⟩ := List.mem_map.1 hx; exact (h7 y hy).1
    · rintro ⟨h1, h2, h3, h4, h5, h6, h7⟩
      refine ⟨⟨by omega, h2⟩, h3, by omega, by omega, by omega, fun x hx => ⟨h5 _ (List.mem_map.2 ⟨x, hx, rfl⟩), ?_⟩, ⟨h6, h7⟩, by simp⟩
      have := h4 x hx
      simp at this
      omega
theorem nmsA_iff : ∀ (r pre : List (List Int)), nmsA pre r = true ↔ (∀ s ∈ r, nmB s = true) ∧ r.Pairwise (· ≠ ·) ∧ ∀ p ∈ pre, ∀ s ∈ r, p ≠ s
  | [], pre => by simp [nmsA]
  | s :: r, pre => by
    rw [nmsA, Bool.and_eq_true, Bool.and_eq_true, nmsA_iff r (pre ++ [s]), List.pairwise_cons]
    have hd : ((!pre.any (sameP s)) = true) ↔ ∀ p ∈ pre, p ≠ s := by
      rw [Bool.not_eq_true', List.any_eq_false]
      constructor
      · intro h p hp e
        exact h p hp (decide_eq_true e.symm)
      · intro h p hp q
        exact h p hp (of_decide_eq_true q).symm
    rw [hd]
    constructor
    · rintro ⟨h1, h3, h4, h5, h6⟩
      refine ⟨fun x hx => ?_, ⟨fun x hx => h6 s (by simp) x hx, h5⟩, fun p hp x hx => ?_⟩
      · rcases List.mem_cons.1 hx with rfl | hx
        · exact h1
        · exact h4 x hx
      · rcases List.mem_cons.1 hx with rfl | hx
        · exact h3 p hp
        · exact h6 p (by simp [hp]) x hx
    · rintro ⟨h1, ⟨h2, h3⟩, h4⟩
      refine ⟨h1 s (by simp), fun p hp => h4 p hp s (by simp), fun x hx => h1 x (by simp [hx]), h3, fun p hp x hx => ?_⟩
      rcases List.mem_append.1 hp with hp | hp
      · exact h4 p hp x (by simp [hx])
      · simp at hp; subst hp; exact h2 x hx
theorem riseA_iff : ∀ (fs : List FT) (z : Int), riseA fs z = true ↔ z ≤ 536870911 ∧ fs.Pairwise (fun a b => a.num < b.num) ∧ ∀ f ∈ fs, z < f.num ∧ f.num ≤ 536870911
  | [], z => by simp [riseA]
  | f :: r, z => by
    rw [riseA, List.pairwise_cons]
    by_cases h : f.num ≤ z
    · rw [if_pos h]
      constructor
      · intro q; cases q
      · rintro ⟨_, _, h2⟩
        have := h2 f (by simp)
        omega
    · rw [if_neg h, riseA_iff r f.num]
      constructor
      · rintro ⟨h1, h2, h3⟩
        refine ⟨by omega, ⟨fun g hg => (h3 g hg).1, h2⟩, fun g hg => ?_⟩
        rcases List.mem_cons.1 hg with rfl | hg
        · omega
        · have := h3 g hg; omega
      · rintro ⟨h1, ⟨h2, h3⟩, h4⟩
        exact ⟨(h4 f (by simp)).2, h3, fun g hg => ⟨h2 g hg, (h4 g (by simp [hg])).2⟩⟩
theorem flA_iff (l : List TV) (k : Nat) (rs : List RG) (fs : List FT) : ∀ (n i : Nat), i + n = fs.length → (flA l k rs fs i (fs.drop i) = true ↔ (∀ f ∈ fs.drop i, docB l k f = true ∧ rs.all (outP f.num) = true) ∧ (fs.drop i).Pairwise (fun a b => a.num < b.num) ∧ (i = 0 ∨ ∀ f ∈ fs.drop i, (fs[i - 1]?.map FT.num).getD 0 < f.num))
  | 0, i, h => by
    rw [List.drop_of_length_le (by omega)]
    simp [flA]
  | n + 1, i, h => by
    have hi : i < fs.length := by omega
    rw [List.drop_eq_getElem_cons hi, flA, Bool.and_eq_true, Bool.and_eq_true, Bool.and_eq_true, flA_iff l k rs fs n (i + 1) (by omega), List.pairwise_cons]
    have e : (fs[i + 1 - 1]?.map FT.num).getD 0 = fs[i].num := by rw [Nat.add_sub_cancel, List.getElem?_eq_getElem hi]; rfl
    rw [e]
    unfold riseP
    rw [decide_eq_true_eq]
    generalize (fs[i - 1]?.map FT.num).getD 0 = pv
    generalize fs[i] = f
    generalize fs.drop (i + 1) = r
    constructor
    · rintro ⟨h1, h2, h3, h4, h5, h6⟩
      have h6' : ∀ g ∈ r, f.num < g.num := fun g hg => by rcases h6 with h6 | h6; omega; exact h6 g hg
      refine ⟨fun g hg => ?_, ⟨h6', h5⟩, ?_⟩
      · rcases List.mem_cons.1 hg with rfl | hg
        · exact ⟨h1, h3⟩
        · exact h4 g hg
      · rcases h2 with h2 | h2
        · exact .inl h2
        · refine .inr fun g hg => ?_
          rcases List.mem_cons.1 hg with rfl | hg
          · exact h2
          · have := h6' g hg; omega
    · rintro ⟨h1, ⟨h2, h3⟩, h4⟩
      exact ⟨(h1 f (by simp)).1, h4.imp id (fun q => q f (by simp)), (h1 f (by simp)).2, fun g hg => h1 g (by simp [hg]), h3, .inr h2⟩
theorem rgA_iff (rs : List RG) : ∀ (n i : Nat), i + n = rs.length → (rgA rs i (rs.drop i) = true ↔ (∀ g ∈ rs.drop i, 1 ≤ g.lo ∧ g.hi ≤ 536870911 ∧ g.lo ≤ g.hi) ∧ (rs.drop i).Pairwise (fun a b => a.hi < b.lo) ∧ (i = 0 ∨ ∀ g ∈ rs.drop i, (rs[i - 1]?.map RG.hi).getD 0 < g.lo))
  | 0, i, h => by
    rw [List.drop_of_length_le (by omega)]
    simp [rgA]
  | n + 1, i, h => by
    have hi : i < rs.length := by omega
    rw [List.drop_eq_getElem_cons hi, rgA, Bool.and_eq_true, rgA_iff rs n (i + 1) (by omega), List.pairwise_cons]
    have e : (rs[i + 1 - 1]?.map RG.hi).getD 0 = rs[i].hi := by rw [Nat.add_sub_cancel, List.getElem?_eq_getElem hi]; rfl
    rw [e]
    unfold rgP
    rw [Bool.and_eq_true, Bool.and_eq_true, Bool.and_eq_true, decide_eq_true_eq, decide_eq_true_eq, decide_eq_true_eq, decide_eq_true_eq]
    generalize (rs[i - 1]?.map RG.hi).getD 0 = pv
    generalize rs[i] = f
    generalize rs.drop (i + 1) = r
    constructor
    · rintro ⟨⟨h1, h2, h3, h0⟩, h4, h5, h6⟩
      have h6' : ∀ g ∈ r, f.hi < g.lo := fun g hg => by rcases h6 with h6 | h6; omega; exact h6 g hg
      refine ⟨fun g hg => ?_, ⟨h6', h5⟩, ?_⟩
      · rcases List.mem_cons.1 hg with rfl | hg
        · exact ⟨h1, h2, h3⟩
        · exact h4 g hg
      · rcases h0 with h2 | h2
        · exact .inl h2
        · refine .inr fun g hg => ?_
          rcases List.mem_cons.1 hg with rfl | hg
          · exact h2
          · have := h6' g hg; omega
    · rintro ⟨h1, ⟨h2, h3⟩, h4⟩
      have := h1 f (by simp)
      exact ⟨⟨this.1, this.2.1, this.2.2, h4.imp id (fun q => q f (by simp))⟩, fun g hg => h1 g (by simp [hg]), h3, .inr h2⟩
theorem freeA_iff (fs : List FT) : ∀ (rs : List RG) (z : Int), freeA fs rs z = true ↔ z ≤ 536870911 ∧ (∀ g ∈ rs, z < g.lo ∧ g.hi ≤ 536870911 ∧ g.lo ≤ g.hi ∧ hitB fs g = false) ∧ rs.Pairwise (fun a b => a.hi < b.lo)
  | [], z => by simp [freeA]
  | g :: r, z => by
    rw [freeA, List.pairwise_cons]
    by_cases h : g.lo ≤ z ∨ g.hi < g.lo
    · rw [if_pos h]
      constructor
      · intro q; cases q
      · rintro ⟨_, h2, _⟩
        have := h2 g (by simp)
        omega
    · rw [if_neg h]
      cases hh : hitB fs g with
      | true =>
        rw [if_pos rfl]
        constructor
        · intro q; cases q
        · rintro ⟨_, h2, _⟩
          have := (h2 g (by simp)).2.2.2
          rw [hh] at this; cases this
      | false =>
        rw [if_neg (by simp), freeA_iff fs r g.hi]
        constructor
        · rintro ⟨h1, h2, h3⟩
          refine ⟨by omega, fun x hx => ?_, fun x hx => (h2 x hx).1, h3⟩
          rcases List.mem_cons.1 hx with rfl | hx
          · exact ⟨by omega, h1, by omega, hh⟩
          · have := h2 x hx; exact ⟨by omega, this.2⟩
        · rintro ⟨h1, h2, h3, h4⟩
          exact ⟨(h2 g (by simp)).2.1, fun x hx => ⟨h3 x hx, (h2 x (by simp [hx])).2⟩, h4⟩
theorem hit_out (fs : List FT) (rs : List RG) : (∀ g ∈ rs, hitB fs g = false) ↔ ∀ f ∈ fs, rs.all (outP f.num) = true := by
  unfold hitB outP
  simp only [List.any_eq_false, List.all_eq_true, decide_eq_true_eq, Bool.not_eq_true', decide_eq_false_iff_not]
  exact ⟨fun h f hf g hg => h g hg f hf, fun h g hg f hf => h f hf g hg⟩
theorem messageEq (l : List TV) (t : TT) (hk : OkT t) : msgD l t = (decide (t.ss.length = 0) && msgB l t) := by
  rw [Bool.eq_iff_iff]
  have htx : ∀ x ∈ t.os ++ t.fs.map FT.name, TxA x := fun x hx => by
    rcases List.mem_append.1 hx with q | q
    · exact hk.os x q
    · obtain ⟨y, hy, rfl⟩ := List.mem_map.1 q
      exact hk.fs y hy
  unfold msgD msgB cntB nmsB
  have hf := flA_iff l t.os.length t.rs t.fs t.fs.length 0 (by omega)
  have hr := rgA_iff t.rs t.rs.length 0 (by omega)
  rw [List.drop_zero] at hf hr
  simp only [Bool.and_eq_true, decide_eq_true_eq, hf, hr, nmsA_iff, riseA_iff, freeA_iff, dfS_iff htx]
  constructor
  · rintro ⟨⟨h1, h2, h3, h4⟩, h5, ⟨h6, h7, -⟩, ⟨h8, h9, -⟩, h10, h11, -⟩
    have hd : ∀ f ∈ t.fs, (1 ≤ f.num ∧ f.num ≤ 536870911) ∧ fldB l t.os.length f = true := fun f hf => by
      have := (h6 f hf).1
      unfold docB at this
      rw [Bool.and_eq_true, decide_eq_true_eq] at this
      exact this
    refine ⟨h1, ⟨h2, h3⟩, List.all_eq_true.2 fun f hf => (hd f hf).2, ⟨by omega, h7, fun f hf => by have := (hd f hf).1; omega⟩, ⟨by omega, fun g hg => ?_, h11⟩, h5, List.all_eq_true.2 h8, h9⟩
    have := h10 g hg
    exact ⟨by omega, this.2.1, this.2.2, (hit_out t.fs t.rs).2 (fun f hf => (h6 f hf).2) g hg⟩
  · rintro ⟨h1, ⟨h2, h3⟩, h4, ⟨-, h5, h6⟩, ⟨-, h7, h8⟩, h9, h10, h11⟩
    refine ⟨⟨h1, h2, h3, mem_few h9⟩, h9, ⟨fun f hf => ⟨?_, ?_⟩, h5, .inl trivial⟩, ⟨List.all_eq_true.1 h10, h11, by simp⟩, fun g hg => ?_, h8, .inl trivial⟩
    · unfold docB
      rw [Bool.and_eq_true, decide_eq_true_eq]
      have := h6 f hf
      exact ⟨by omega, List.all_eq_true.1 h4 f hf⟩
    · exact (hit_out t.fs t.rs).1 (fun g hg => (h7 g hg).2.2.2) f hf
    · have := h7 g hg
      exact ⟨by omega, this.2.1, this.2.2.1⟩
theorem stepEq (l : List TV) (i : Nat) (t : TT) (hk : OkT t) : gtD l i t = stepB l i t := by
  unfold gtD stepB typB
  rw [nmdEq l i t hk.nm.1, enumEq t (fun x hx => (hk.ss x hx).1), messageEq l t hk]
  simp only [Bool.and_assoc]
theorem goodA_eq (l : List TV) (hk : ∀ x ∈ l, OkV x) : ∀ (r : List TV) (i : Nat), (∀ x ∈ r, OkV x) → gdA l i r = goodA l r i
  | [], _, _ => rfl
  | x :: r, i, h => by rw [gdA, goodA, stepEq l i x.t (h x (by simp)).ok, goodA_eq l hk r (i + 1) (fun y hy => h y (by simp [hy]))]
theorem goodEq (l : List TV) (hk : ∀ x ∈ l, OkV x) : goodD l = goodB l := by
  unfold goodD goodB
  rw [goodA_eq l hk l 0 hk]
/-- Diff, as the laws ask it. -/
structure DfN (w : World) (a b : List TV) (v : Value) (c e : Int) (w' : World) : Prop where
  l : Below w.heap.size w w'
  no : ¬ (goodB a = true ∧ goodB b = true) → v = .slice none 0 0 ∧ c = 0 ∧ e = 18
  yes : goodB a = true ∧ goodB b = true → ∃ va vc, v = .slice va (difL a b).length vc ∧ c = wsC (difL a b) ∧ e = 0 ∧ RowS w' AnyZ 4 (.slice va (difL a b).length vc) (difL a b).length ((difL a b).flatMap cCH)
theorem diffN (w : World) (a b : List TV) (ta tb : Option Addr) (tc td : Nat) (ha : TbR w (.slice ta a.length tc) a) (hb : TbR w (.slice tb b.length td) b) (ka : ∀ x ∈ a, OkV x) (kb : ∀ x ∈ b, OkV x) (na : ∀ x ∈ a, x.t.name.length < 4000000) (nb : ∀ x ∈ b, x.t.name.length < 4000000) (m : Int) (hm : w.cell? ⟨0, 0, none⟩ = some (.int .i64 m)) : Calls Tryz.prog 6 #[.agg #[.slice ta a.length tc], .agg #[.slice tb b.length td]] w fun e w' => ∃ v n c r, e = .returned (.tuple #[v, .int .i64 c, .int .i64 r]) ∧ (∃ a' d', v = .slice a' n d') ∧ DfN w a b v c r w' := by
  refine (diffT w a b ta tb tc td ha hb ka kb (fun x hx => by have := na x hx; omega) (fun x hx => by have := nb x hx; omega) m hm).mono ?_
  rintro e w' ⟨h1, h2, h3⟩
  by_cases h : goodB a = true ∧ goodB b = true
  · obtain ⟨va, vc, rfl, h4⟩ := h2 h
    exact ⟨_, _, _, _, rfl, ⟨_, _, rfl⟩, h1, fun q => absurd h q, fun _ => ⟨va, vc, rfl, rfl, rfl, own_row h4 (fun _ _ => trivial)⟩⟩
  · exact ⟨_, _, _, _, h3 h, ⟨_, _, rfl⟩, h1, fun _ => ⟨rfl, rfl, rfl⟩, fun q => absurd q h⟩
theorem good_keys {l : List TV} (hg : goodB l = true) {k : Nat} (hk : k < l.length) : ∀ f ∈ l[k].t.fs, 0 ≤ f.lab ∧ (f.lab ≠ 5 → f.key = 0) ∧ f.kind ≤ 17 := by
  have h := good_at hg hk
  unfold stepB at h
  simp only [Bool.and_eq_true] at h
  have h2 := h.2.2.2
  unfold typB at h2
  intro f hf
  by_cases he : l[k].t.enum = true
  · rw [if_pos he, Bool.and_eq_true, decide_eq_true_eq] at h2
    have hz : l[k].t.fs = [] := List.eq_nil_of_length_eq_zero (by omega)
    rw [hz] at hf
    cases hf
  · rw [if_neg he, Bool.and_eq_true, decide_eq_true_eq] at h2
    have h3 := h2.2
    unfold msgB at h3
    simp only [Bool.and_eq_true, decide_eq_true_eq, List.all_eq_true] at h3
    have h4 := h3.2.1 f hf
    unfold fldB at h4
    simp only [Bool.and_eq_true, decide_eq_true_eq] at h4
    obtain ⟨p1, p2, p3, p4, p5⟩ := h4
    refine ⟨?_, fun h5 => ?_, p1.2⟩
    · unfold labB at p3
      split at p3
      · omega
      · split at p3
        · omega
        · have := of_decide_eq_true p3
          omega
    · unfold keyB at p5
      rw [if_neg h5] at p5
      exact of_decide_eq_true p5
theorem good_FdK {a b : List TV} (ga : goodB a = true) (gb : goodB b = true) (ka : ∀ x ∈ a, OkV x) (kb : ∀ x ∈ b, OkV x) {i k : Nat} (hi : i < a.length) (hk : k < b.length) (he : a[i].t.enum = false) (he2 : b[k].t.enum = false) : ∀ f ∈ a[i].t.fs, ∀ g ∈ b[k].t.fs, FdK a b a[i].t b[k].t f g := by
  have p1 := good_TyG ga ka hi
  have p2 := good_TyG gb kb hk
  intro f hf g hg
  obtain ⟨l1, y1, k1⟩ := good_keys ga hi f hf
  obtain ⟨l2, y2, k2⟩ := good_keys gb hk g hg
  exact ⟨p1.fd he f hf, p2.fd he2 g hg, k1, k2, l1, l2, y1, y2, p1.fs f hf, p2.fs g hg, p1.os, p2.os, fun x hx => (ka x hx).ok.nm, fun x hx => (kb x hx).ok.nm⟩
theorem good_sy {l : List TV} (hg : goodB l = true) {k : Nat} (hk : k < l.length) (he : l[k].t.enum = true) : l[k].t.ss.Pairwise (fun x y => x.num ≠ y.num) := by
  have h := good_at hg hk
  unfold stepB at h
  simp only [Bool.and_eq_true] at h
  have h2 := h.2.2.2
  unfold typB at h2
  rw [if_pos he, Bool.and_eq_true, decide_eq_true_eq] at h2
  have h3 := h2.2
  cases hs : l[k].t.ss with
  | nil => rw [hs] at h3; simp [symB] at h3
  | cons s r =>
    rw [hs] at h3
    unfold symB at h3
    simp only [Bool.and_eq_true] at h3
    exact nums_pw h3.2.2.2.2.2
/-- What the document tells of an enum; of a message. -/
def enD (nm : List Int) (xs ys : List SY) : List CH := xs.flatMap (sdL nm ys) ++ ys.flatMap (sd2 nm xs)
def meD (nm : List Int) (a b : List TV) (s t : TT) : List CH := (s.fs.flatMap (mdL nm a b s t) ++ (frshL s.fs t.fs).map (fun n => (⟨2, 6, nm, n⟩ : CH))) ++ rdL nm s.rs t.rs
theorem enD_is (nm : List Int) (xs ys : List SY) (h : ys.Pairwise (fun x y => x.num ≠ y.num)) : enD nm xs ys = syL nm xs ys := by
  unfold enD syL
  rw [show sdL nm ys = sy1 nm ys from funext (sd_is h), show sd2 nm xs = sy2 nm xs from funext fun s => (sy2_is nm xs s).symm]
theorem meD_is (nm : List Int) (a b : List TV) (s t : TT) (h : Rise t.fs) (h1 : Srt s.rs 0) (h2 : Srt t.rs 0) : meD nm a b s t = mbL nm a b s t ++ rsL nm s.rs t.rs := by
  unfold meD mbL
  rw [show mdL nm a b s t = mb1 nm a b s t from funext (md_is (rise_pw h)), rd_is h1 h2]
theorem findI_casesI (l : List TV) (nm : List Int) : (findI l nm < 0 ∧ l.findIdx? (nameP nm) = none) ∨ ∃ (k : Nat) (hk : k < l.length), findI l nm = k ∧ l.findIdx? (nameP nm) = some k := by
  rw [findI_idx]
  cases h : l.findIdx? (nameP nm) with
  | none => exact .inl ⟨by decide, rfl⟩
  | some k =>
    rw [List.findIdx?_eq_some_iff_getElem] at h
    obtain ⟨hk, h1, h2⟩ := h
    exact .inr ⟨k, hk, rfl, rfl⟩
theorem df1_cases (a b : List TV) (x : TV) : (findI b x.t.name < 0 ∧ df1 a b x = [⟨4, 1, x.t.name, 0⟩]) ∨ ∃ (k : Nat) (hk : k < b.length), findI b x.t.name = k ∧ df1 a b x = tyL x.t.name a b x.t b[k].t := by
  unfold df1
  rcases findI_casesI b x.t.name with ⟨h1, h2⟩ | ⟨k, hk, h1, h2⟩
  · exact .inl ⟨h1, by rw [h2]⟩
  · refine .inr ⟨k, hk, h1, ?_⟩
    rw [h2]
    simp only [List.getElem?_eq_getElem hk]
theorem df2_cases (a : List TV) (y : TV) : (findI a y.t.name < 0 ∧ df2 a y = [⟨2, 11, y.t.name, 0⟩]) ∨ (0 ≤ findI a y.t.name ∧ df2 a y = []) := by
  unfold df2
  rcases findI_casesI a y.t.name with ⟨h1, h2⟩ | ⟨k, hk, h1, h2⟩
  · exact .inl ⟨h1, by rw [h2]⟩
  · exact .inr ⟨by omega, by rw [h2]⟩
/-- The three ways of a type that both tables have. -/
theorem tyL_sort {nm : List Int} {a b : List TV} {s t : TT} (h : s.enum ≠ t.enum) : tyL nm a b s t = [⟨4, 2, nm, 0⟩] := by unfold tyL; rw [if_neg h]
theorem tyL_enum {nm : List Int} {a b : List TV} {s t : TT} (h : s.enum = true) (h2 : t.enum = true) (hu : t.ss.Pairwise (fun x y => x.num ≠ y.num)) : tyL nm a b s t = enD nm s.ss t.ss := by
  unfold tyL
  rw [if_pos (h.trans h2.symm), if_pos h, enD_is nm _ _ hu]
theorem tyL_msg {nm : List Int} {a b : List TV} {s t : TT} (h : s.enum = false) (h2 : t.enum = false) (hr : Rise t.fs) (h3 : Srt s.rs 0) (h4 : Srt t.rs 0) : tyL nm a b s t = meD nm a b s t := by
  unfold tyL
  rw [if_pos (h.trans h2.symm), if_neg (by rw [h]; simp), meD_is nm a b s t hr h3 h4]
set_option maxHeartbeats 2000000
theorem diffR18 (w : World) (a b : List TV) (ta tb : Option Addr) (tc td : Nat) (ha : TbR w (.slice ta a.length tc) a) (hb : TbR w (.slice tb b.length td) b) (ga : goodB a = true) (gb : goodB b = true) (ka : ∀ x ∈ a, OkV x) (kb : ∀ x ∈ b, OkV x) : Calls Tryz.prog 9 #[.agg #[.slice ta a.length tc], .agg #[.slice tb b.length td]] w fun e w' => ∃ va vc, e = .returned (.tuple #[.slice va (difL a b).length vc, .int .i64 (wsC (difL a b))]) ∧ RowS w' AnyZ 4 (.slice va (difL a b).length vc) (difL a b).length ((difL a b).flatMap cCH) ∧ Below w.heap.size w w' := by
  have HA := hid ha
  have HB := hid hb
  have la := good_len ga
  have lb := good_len gb
  have HKA := hid ka
  have HKB := hid kb
  have HGA := hid ga
  have HGB := hid gb
  have m1 : (a.length : Int) ≤ 9223372036854775807 := by omega
  have m2 : (b.length : Int) ≤ 9223372036854775807 := by omega
  have HE1 : Hid (∀ j, ((a.take j).flatMap (df1 a b)).length ≤ 76800) := hid fun j => by
    have := flat_leM (df1 a b) 600 (a.take j) (fun x hx => by
      obtain ⟨i, hi, rfl⟩ := List.getElem_of_mem (List.mem_of_mem_take hx)
      exact df1_le (good_TyG ga ka hi) (fun k hk => good_TyG gb kb hk))
    rw [List.length_take] at this
    omega
  have HE2 : Hid (∀ j, ((b.take j).flatMap (df2 a)).length ≤ 128) := hid fun j => by
    have := flat_le (df2 a) 1 (df2_le a) (b.take j)
    rw [List.length_take] at this
    omega
  have HDL : Hid (difL a b = a.flatMap (df1 a b) ++ b.flatMap (df2 a)) := hid rfl
  have HFB : Hid (∀ W, Below w.heap.size w W → ∀ nm, TxA nm → Calls Tryz.prog 16 #[.agg #[.slice tb b.length td], .string (strOfNums nm)] W fun e w' => e = .returned (.int .i64 (findI b nm)) ∧ Below W.heap.size W w') := hid fun W hW nm hn => findR W b tb td (hb.kept hW) (fun x hx => (kb x hx).ok.nm) nm hn
  have HFA : Hid (∀ W, Below w.heap.size w W → ∀ nm, TxA nm → Calls Tryz.prog 16 #[.agg #[.slice ta a.length tc], .string (strOfNums nm)] W fun e w' => e = .returned (.int .i64 (findI a nm)) ∧ Below W.heap.size W w') := hid fun W hW nm hn => findR W a ta tc (ha.kept hW) (fun x hx => (ka x hx).ok.nm) nm hn
  have HC1 : Hid (∀ x, (findI b x.t.name < 0 ∧ df1 a b x = [⟨4, 1, x.t.name, 0⟩]) ∨ ∃ (k : Nat) (hk : k < b.length), findI b x.t.name = k ∧ df1 a b x = tyL x.t.name a b x.t b[k].t) := hid (df1_cases a b)
  have HC2 : Hid (∀ y, (findI a y.t.name < 0 ∧ df2 a y = [⟨2, 11, y.t.name, 0⟩]) ∨ (0 ≤ findI a y.t.name ∧ df2 a y = [])) := hid (df2_cases a)
  have HAR := hid ha.row
  have HBR := hid hb.row
  clear ha hb ka kb ga gb
  generalize df1 a b = D1 at *
  generalize df2 a = D2 at *
  generalize difL a b = DL at *
  go_enter Tryz.func9, Tryz.ntmps9
  have BA : Blk (((w.alloc (.cells #[.slice ta a.length tc] 24)).alloc (.cells #[.slice tb b.length td] 24))) w.heap.size 24 #[.slice ta a.length tc] := (Blk.new _ _ _).kept (below_alloc _)
  have BB : Blk (((w.alloc (.cells #[.slice ta a.length tc] 24)).alloc (.cells #[.slice tb b.length td] 24))) (w.heap.size + 1) 24 #[.slice tb b.length td] := Blk.newAt (by simp)
  have HL : Hid (Below w.heap.size w (((w.alloc (.cells #[.slice ta a.length tc] 24)).alloc (.cells #[.slice tb b.length td] 24)))) := hid (by exact blBy)
  go_wp2
  have HC : Hid (OcF w (((w.alloc (.cells #[.slice ta a.length tc] 24)).alloc (.cells #[.slice tb b.length td] 24))) none 0 [] (((w.alloc (.cells #[.slice ta a.length tc] 24)).alloc (.cells #[.slice tb b.length td] 24)))) := hid ⟨World.ownsRow_nil _ _ _ _, RcF.refl _ _, HL.out.size⟩
  generalize (((w.alloc (.cells #[.slice ta a.length tc] 24)).alloc (.cells #[.slice tb b.length td] 24))) = U at *
  have HBA := hid BA
  have HBB := hid BB
  clear BA BB
  go_loopw [6, 7] (fun v r wr => ∃ (i : Nat) (va : Option Addr) (vc : Nat), v = .slice va ((a.take i).flatMap D1).length vc ∧ r = .int .i64 i ∧ i ≤ a.length ∧ Hid (OcF w U va vc ((a.take i).flatMap D1) wr)) (fun _ r wr => a.length - numAt wr r)
  case atStart => exact ⟨0, none, 0, by simp, rfl, by omega, hid (HC.out.is (by simp))⟩
  case round =>
    clear HC
    obtain ⟨i, va, vc, rfl, rfl, hi, HC⟩ := hrel
    have HF := hid HC.out.f
    have x1 := (HBA.out.rcf HF.out (by decide)).cellF
    have z1 := (HBA.out.rcf HF.out (by decide)).lt
    have x2 := (HBB.out.rcf HF.out (by decide)).cellF
    have z2 := (HBB.out.rcf HF.out (by decide)).lt
    by_cases hlt : i < a.length
    · have k1 : (i : Int) < (a.length : Int) := by omega
      have HRO := hid (HL.out.trans (HF.out.below HL.out.size))
      obtain ⟨b1, o1, rfl, hb1, c0, c1, c2, c3, c4, c5⟩ := row6 (HA.out.row.kept HRO.out) hlt
      have HTX := hid (HKA.out _ (List.getElem_mem hlt)).ok.nm
      have HT1 := hid (HA.out.ty _ (List.getElem_mem hlt))
      have HSN := hid (flat_snoc D1 a i hlt)
      have HC3 := hid (HC1.out a[i])
      have HLK : Hid (((a.take i).flatMap D1).length ≤ 1000000) := hid (by have := HE1.out i; omega)
      have HGG := hid fun (k : Nat) (hk : k < b.length) => fun s (hs : s = a[i].t) t (ht : t = b[k].t) => (show (s.enum = true → t.enum = true → t.ss.Pairwise (fun x y => x.num ≠ y.num) ∧ s.ss.length ≤ 128 ∧ t.ss.length ≤ 128) ∧ (s.enum = false → t.enum = false → Rise t.fs ∧ Srt s.rs 0 ∧ Srt t.rs 0 ∧ (∀ f ∈ s.fs, ∀ g ∈ t.fs, FdK a b s t f g) ∧ s.fs.length ≤ 128 ∧ t.fs.length ≤ 128 ∧ (∀ x ∈ s.rs, RgOk x) ∧ (∀ x ∈ t.rs, RgOk x)) ∧ (∀ x ∈ s.ss, TxA x.name) ∧ (∀ x ∈ t.ss, TxA x.name) by
        subst hs ht
        have p1 := good_TyG HGA.out HKA.out hlt
        have p2 := good_TyG HGB.out HKB.out hk
        exact ⟨fun e1 e2 => ⟨good_sy HGB.out hk e2, p1.sl e1, p2.sl e2⟩, fun e1 e2 => ⟨p2.ri e2, ((good_TyP HGA.out hlt).e2 e1).2, ((good_TyP HGB.out hk).e2 e2).2, good_FdK HGA.out HGB.out HKA.out HKB.out hlt hk e1 e2, p1.fl e1, p2.fl e2, p1.rg e1, p2.rg e2⟩, p1.ss, p2.ss⟩)
      generalize (a.take i).flatMap D1 = LL at *
      generalize hL2 : (a.take (i + 1)).flatMap D1 = L2 at *
      replace hL2 := hid hL2
      generalize a[i] = x at *
      obtain ⟨s, f, o, s', r⟩ := x
      obtain ⟨fa, fc, ef, -⟩ := rowS_sl HT1.out.f
      obtain ⟨oa, oc, eo, -⟩ := rowS_sl HT1.out.o
      obtain ⟨sa, sc, es, -⟩ := rowS_sl HT1.out.s
      obtain ⟨ra, rc, er, -⟩ := rowS_sl HT1.out.r
      dsimp only at ef eo es er
      subst ef eo es er
      dsimp only at c0 c1 c2 c3 c4 c5 HTX HC3 HGG
      clear HRO
      go_wp2_with fail
      have HBX : Hid (Blk (wr.alloc (.cells #[.string (strOfNums s.name), .bool s.enum, .slice fa s.fs.length fc, .slice oa s.os.length oc, .slice sa s.ss.length sc, .slice ra s.rs.length rc] 50)) wr.heap.size 50 #[.string (strOfNums s.name), .bool s.enum, .slice fa s.fs.length fc, .slice oa s.os.length oc, .slice sa s.ss.length sc, .slice ra s.rs.length rc]) := hid (Blk.new _ _ _)
      have HCx := hid (HC.out.kept (below_alloc (.cells #[.string (strOfNums s.name), .bool s.enum, .slice fa s.fs.length fc, .slice oa s.os.length oc, .slice sa s.ss.length sc, .slice ra s.rs.length rc] 50)))
      clear x1 z1 x2 z2 c0 c1 c2 c3 c4 c5 hb1 HF HC
      have HC := HCx
      clear HCx
      generalize wr.heap.size = sp at *
      generalize wr.alloc (.cells #[.string (strOfNums s.name), .bool s.enum, .slice fa s.fs.length fc, .slice oa s.os.length oc, .slice sa s.ss.length sc, .slice ra s.rs.length rc] 50) = W1 at *
      have HF := hid HC.out.f
      refine (HFB.out W1 (HL.out.trans (HF.out.below HL.out.size)) _ HTX.out).mono ?_
      rintro e w5 ⟨rfl, hb5⟩
      replace HC := hid (HC.out.kept hb5)
      replace HBX := hid (HBX.out.kept hb5)
      clear HF hb5
      have HF := hid HC.out.f
      have x1 := (HBA.out.rcf HF.out (by decide)).cellF
      have z1 := (HBA.out.rcf HF.out (by decide)).lt
      have x2 := (HBB.out.rcf HF.out (by decide)).cellF
      have z2 := (HBB.out.rcf HF.out (by decide)).lt
      have x3 := HBX.out.cellF
      have z3 := HBX.out.lt
      rcases HC3.out with ⟨h1, h2⟩ | ⟨k, hk, h1, h2⟩
      · have q1 : (findI b s.name < 0) = True := eq_true h1
        have HST : Hid (L2 = LL ++ [⟨4, 1, s.name, 0⟩]) := hid (by rw [HSN.out, h2])
        generalize findI b s.name = K at *
        clear h1 h2 HC3 HGG HSN
        obtain ⟨a1, c1, X1, R1, O1⟩ := HC.out.app (Nat.le_trans HLK.out (by decide)) ⟨4, 1, s.name, 0⟩
        go_wp2_with (first | (at_builtin; refine wpList_append_ran rfl _ _ 31 31 rfl rfl _ _ (.slice a1 (LL.length + 1) c1) X1 rfl rfl R1.out ?_))
        exact ⟨⟨i + 1, a1, c1, by rw [hL2.out, HST.out]; simp, by simp, by omega, hid (O1.out.is (by rw [hL2.out, HST.out]))⟩, by simp [numAt]; omega⟩
      · have q1 : ((k : Int) < 0) = False := eq_false (by omega)
        have k2 : (k : Int) < (b.length : Int) := by omega
        rw [h1]
        have HST : Hid (L2 = LL ++ tyL s.name a b s b[k].t) := hid (by rw [HSN.out, h2])
        have HRO := hid (HL.out.trans (HF.out.below HL.out.size))
        obtain ⟨b2, o2, rfl, hb2, d0, d1, d2, d3, d4, d5⟩ := row6 (HB.out.row.kept HRO.out) hk
        have HT2 := hid (HB.out.ty _ (List.getElem_mem hk))
        have HGX := hid (HGG.out k hk s rfl b[k].t rfl)
        clear h1 h2 HC3 HGG HSN HRO
        generalize b[k] = y at *
        obtain ⟨t, f, o, s', r⟩ := y
        obtain ⟨fb, fd, ef, -⟩ := rowS_sl HT2.out.f
        obtain ⟨ob, od, eo, -⟩ := rowS_sl HT2.out.o
        obtain ⟨sb, sd, es, -⟩ := rowS_sl HT2.out.s
        obtain ⟨rb, rd, er, -⟩ := rowS_sl HT2.out.r
        dsimp only at ef eo es er
        subst ef eo es er
        dsimp only at d0 d1 d2 d3 d4 d5 HST HGX
        go_upto_region 11 with fail
        have HBY : Hid (Blk (w5.alloc (.cells #[.string (strOfNums t.name), .bool t.enum, .slice fb t.fs.length fd, .slice ob t.os.length od, .slice sb t.ss.length sd, .slice rb t.rs.length rd] 50)) w5.heap.size 50 #[.string (strOfNums t.name), .bool t.enum, .slice fb t.fs.length fd, .slice ob t.os.length od, .slice sb t.ss.length sd, .slice rb t.rs.length rd]) := hid (Blk.new _ _ _)
        have HCx := hid (HC.out.kept (below_alloc (.cells #[.string (strOfNums t.name), .bool t.enum, .slice fb t.fs.length fd, .slice ob t.os.length od, .slice sb t.ss.length sd, .slice rb t.rs.length rd] 50)))
        have HBx := hid (HBX.out.kept (below_alloc (.cells #[.string (strOfNums t.name), .bool t.enum, .slice fb t.fs.length fd, .slice ob t.os.length od, .slice sb t.ss.length sd, .slice rb t.rs.length rd] 50)))
        clear x1 z1 x2 z2 x3 z3 d0 d1 d2 d3 d4 d5 hb2 HF HC HBX
        have HC := HCx
        have HBX := HBx
        clear HCx HBx
        generalize w5.heap.size = sq at *
        generalize w5.alloc (.cells #[.string (strOfNums t.name), .bool t.enum, .slice fb t.fs.length fd, .slice ob t.os.length od, .slice sb t.ss.length sd, .slice rb t.rs.length rd] 50) = W6 at *
        have HF := hid HC.out.f
        have x1 := (HBA.out.rcf HF.out (by decide)).cellF
        have z1 := (HBA.out.rcf HF.out (by decide)).lt
        have x2 := (HBB.out.rcf HF.out (by decide)).cellF
        have z2 := (HBB.out.rcf HF.out (by decide)).lt
        have x3 := HBX.out.cellF
        have z3 := HBX.out.lt
        have x4 := HBY.out.cellF
        have z4 := HBY.out.lt
        have H6 : Hid (Below w.heap.size w W6) := hid (HL.out.trans (HF.out.below HL.out.size))
        have HEN := hid fun (h1 : s.ss.length ≤ 128) (h2 : t.ss.length ≤ 128) => enumR18 w W6 LL va vc s t fa oa sa ra fb ob sb rb fc oc sc rc fd od sd rd H6.out HC.out.o (Nat.le_trans HLK.out (by decide)) HT1.out.s HT2.out.s HGX.out.2.2.1 HGX.out.2.2.2 h1 h2
        have HME := hid fun h1 h2 h3 h4 h5 => messageR18 w W6 LL va vc a b (some ⟨b1, o1, none⟩) (some ⟨b2, o2, none⟩) tc td s t fa oa sa ra fb ob sb rb fc oc sc rc fd od sd rd H6.out HC.out.o HLK.out HAR.out HBR.out HT1.out HT2.out h1 h2 h3 h4 h5
        have HMD : Hid (((LL ++ s.fs.flatMap (mdL s.name a b s t)) ++ (frshL s.fs t.fs).map (fun n => (⟨2, 6, s.name, n⟩ : CH))) ++ rdL s.name s.rs t.rs = LL ++ meD s.name a b s t) := hid (by unfold meD; simp only [List.append_assoc])
        have HED : Hid (s.ss.flatMap (sdL s.name t.ss) ++ t.ss.flatMap (sd2 s.name s.ss) = enD s.name s.ss t.ss) := hid rfl
        rw [HMD.out] at HME
        rw [HED.out] at HEN
        unfold aTY at HEN HME
        clear HMD HED H6
        have HTS := hid fun (h : s.enum ≠ t.enum) => tyL_sort (nm := s.name) (a := a) (b := b) h
        have HTE := hid fun (h : s.enum = true) (h2 : t.enum = true) hu => tyL_enum (nm := s.name) (a := a) (b := b) h h2 hu
        have HTM := hid fun (h : s.enum = false) (h2 : t.enum = false) hr h3 h4 => tyL_msg (nm := s.name) (a := a) (b := b) (s := s) (t := t) h h2 hr h3 h4
        generalize tyL s.name a b s t = TL at *
        generalize enD s.name s.ss t.ss = EL at *
        generalize meD s.name a b s t = ML at *
        generalize s.enum = se at *
        generalize t.enum = te at *
        have HFIN : Hid (∀ (M : List CH) (a' : Option Addr) (c' : Nat) (W' : World), OcF w W6 a' c' M W' → OcF w U a' c' M W') := hid fun M a' c' W' h => ⟨h.o, HF.out.trans h.f, h.z⟩
        cases se with
        | true =>
          cases te with
          | true =>
            obtain ⟨p1, p2, p3⟩ := HGX.out.1 rfl rfl
            have HTL := hid (HTE.out rfl rfl p1)
            have HCA := hid (HEN.out p2 p3)
            clear HTS HTE HTM HEN HME p1 p2 p3
            go_wp2_with fail
            refine HCA.out.mono ?_
            rintro e w7 ⟨a7, c7, rfl, hoc⟩
            have HST2 : Hid (LL ++ EL = L2) := hid (by rw [HST.out, HTL.out])
            replace hoc := hid (hoc.is HST2.out)
            go_wp2
            exact ⟨⟨i + 1, a7, c7, by rw [hL2.out, ← HST2.out]; simp, by simp, by omega, hid ((HFIN.out _ _ _ _ hoc.out).is hL2.out.symm)⟩, by simp [numAt]; omega⟩
          | false =>
            have HTL := hid (HTS.out (by simp))
            clear HTS HTE HTM HEN HME
            obtain ⟨a1, c1, X1, R1, O1⟩ := HC.out.app (Nat.le_trans HLK.out (by decide)) ⟨4, 2, s.name, 0⟩
            go_wp2_with (first | (at_builtin; refine wpList_append_ran rfl _ _ 31 31 rfl rfl _ _ (.slice a1 (LL.length + 1) c1) X1 rfl rfl R1.out ?_))
            exact ⟨⟨i + 1, a1, c1, by rw [hL2.out, HST.out, HTL.out]; simp, by simp, by omega, hid (O1.out.is (by rw [hL2.out, HST.out, HTL.out]))⟩, by simp [numAt]; omega⟩
        | false =>
          cases te with
          | true =>
            have HTL := hid (HTS.out (by simp))
            clear HTS HTE HTM HEN HME
            obtain ⟨a1, c1, X1, R1, O1⟩ := HC.out.app (Nat.le_trans HLK.out (by decide)) ⟨4, 2, s.name, 0⟩
            go_wp2_with (first | (at_builtin; refine wpList_append_ran rfl _ _ 31 31 rfl rfl _ _ (.slice a1 (LL.length + 1) c1) X1 rfl rfl R1.out ?_))
            exact ⟨⟨i + 1, a1, c1, by rw [hL2.out, HST.out, HTL.out]; simp, by simp, by omega, hid (O1.out.is (by rw [hL2.out, HST.out, HTL.out]))⟩, by simp [numAt]; omega⟩
          | false =>
            obtain ⟨p1, p2, p3, p4, p5, p6, p7, p8⟩ := HGX.out.2.1 rfl rfl
            have HTL := hid (HTM.out rfl rfl p1 p2 p3)
            have HCA := hid (HME.out p4 p5 p6 p7 p8)
            clear HTS HTE HTM HEN HME p1 p2 p3 p4 p5 p6 p7 p8
            go_wp2_with fail
            refine HCA.out.mono ?_
            rintro e w7 ⟨a7, c7, rfl, hoc⟩
            have HST2 : Hid (LL ++ ML = L2) := hid (by rw [HST.out, HTL.out])
            replace hoc := hid (hoc.is HST2.out)
            go_wp2
            exact ⟨⟨i + 1, a7, c7, by rw [hL2.out, ← HST2.out]; simp, by simp, by omega, hid ((HFIN.out _ _ _ _ hoc.out).is hL2.out.symm)⟩, by simp [numAt]; omega⟩
    · have k1 : ¬ (i : Int) < (a.length : Int) := by omega
      have HE : Hid (a.take i = a) := hid (List.take_of_length_le (by omega))
      have HLN : Hid (((a.take i).flatMap D1).length ≤ 76800) := hid (HE1.out i)
      rw [HE.out] at HC HLN ⊢
      clear HE HE1 HC1
      have HDL2 : Hid (DL = a.flatMap D1 ++ b.flatMap D2) := HDL
      generalize a.flatMap D1 = C0 at *
      go_wp2
      generalize wr = W5 at *
      go_loopw [6, 11] (fun v r wq => ∃ (k : Nat) (va : Option Addr) (vc : Nat), v = .slice va (C0 ++ (b.take k).flatMap D2).length vc ∧ r = .int .i64 k ∧ k ≤ b.length ∧ Hid (OcF w U va vc (C0 ++ (b.take k).flatMap D2) wq)) (fun _ r wq => b.length - numAt wq r)
      case atStart => exact ⟨0, va, vc, by simp, rfl, by omega, hid (HC.out.is (by simp))⟩
      case round =>
        clear HC HF x1 z1 x2 z2
        obtain ⟨k, va, vc, rfl, rfl, hk, HC⟩ := hrel
        have HF := hid HC.out.f
        have x1 := (HBA.out.rcf HF.out (by decide)).cellF
        have z1 := (HBA.out.rcf HF.out (by decide)).lt
        have x2 := (HBB.out.rcf HF.out (by decide)).cellF
        have z2 := (HBB.out.rcf HF.out (by decide)).lt
        by_cases hlt : k < b.length
        · have k2 : (k : Int) < (b.length : Int) := by omega
          have HRO := hid (HL.out.trans (HF.out.below HL.out.size))
          obtain ⟨b1, o1, rfl, hb1, c0, c1, c2, c3, c4, c5⟩ := row6 (HB.out.row.kept HRO.out) hlt
          have HTX := hid (HKB.out _ (List.getElem_mem hlt)).ok.nm
          have HSN : Hid (C0 ++ (b.take (k + 1)).flatMap D2 = (C0 ++ (b.take k).flatMap D2) ++ D2 b[k]) := hid (by rw [flat_snoc D2 b k hlt, List.append_assoc])
          have HC3 := hid (HC2.out b[k])
          have HLK : Hid ((C0 ++ (b.take k).flatMap D2).length ≤ 4000000) := hid (by have := HE2.out k; have := HLN.out; rw [List.length_append]; omega)
          generalize C0 ++ (b.take k).flatMap D2 = LL at *
          generalize hL2 : C0 ++ (b.take (k + 1)).flatMap D2 = L2 at *
          replace hL2 := hid hL2
          generalize b[k].t.name = yn at *
          generalize D2 b[k] = Y2 at *
          clear c1 c2 c3 c4 c5
          go_upto_region 18 with fail
          have HU : Hid (Below wr.heap.size wr wr) := hid (Below.refl _ _)
          go_region_held3 (fun W => W.cell? ⟨w.heap.size, 0, none⟩ = some (.slice ta a.length tc) ∧ W.cell? ⟨w.heap.size + 1, 0, none⟩ = some (.slice (some ⟨b1, o1, none⟩) b.length td) ∧ W.cell? ⟨b1, o1 + k * 6, none⟩ = some (.string (strOfNums yn))) (first | exact ⟨(HBA.out.rcf HF.out (by decide)).cell 0 _ rfl, (HBB.out.rcf HF.out (by decide)).cell 0 _ rfl, c0⟩ | exact ⟨((HBA.out.rcf HF.out (by decide)).kept HU.out).cell 0 _ rfl, ((HBB.out.rcf HF.out (by decide)).kept HU.out).cell 0 _ rfl, cell_below c0 HU.out⟩) (first | (go_at_call 16; refine (HFA.out _ (below_trans (below_trans HRO.out HU.out) (by first | exact below_drew1 _ | exact Below.refl _ _)) _ HTX.out).mono ?_; rintro e u5 ⟨rfl, hu5⟩; replace HU := hid (below_trans HU.out (below_trans (by first | exact below_drew1 _ | exact Below.refl _ _) hu5)); clear hu5))
          rename_i hHeld
          clear hHeld x1 z1 x2 z2 hb1 HF HRO
          replace HC := hid (HC.out.kept HU.out)
          have HF := hid HC.out.f
          have x1 := (HBA.out.rcf HF.out (by decide)).cellF
          have z1 := (HBA.out.rcf HF.out (by decide)).lt
          have x2 := (HBB.out.rcf HF.out (by decide)).cellF
          have z2 := (HBB.out.rcf HF.out (by decide)).lt
          replace c0 := cell_below c0 HU.out
          have hb1 := World.block_lt_of_cell? _ _ c0
          clear HU
          rcases HC3.out with ⟨h1, h2⟩ | ⟨h1, h2⟩
          · try rw [show decide (findI a yn < 0) = true from decide_eq_true h1]
            have HST : Hid (LL ++ [⟨2, 11, yn, 0⟩] = L2) := hid (by rw [HSN.out, h2])
            generalize findI a yn = K at *
            have q2 : (0 ≤ K) = False := eq_false (by omega)
            have q1 : decide (K < 0) = true := decide_eq_true h1
            clear h1 h2 HC3 HSN
            obtain ⟨a1, c1, X1, R1, O1⟩ := HC.out.app HLK.out ⟨2, 11, yn, 0⟩
            go_wp2_with (first | (at_builtin; refine wpList_append_ran rfl _ _ 31 31 rfl rfl _ _ (.slice a1 (LL.length + 1) c1) X1 rfl rfl R1.out ?_))
            exact ⟨⟨k + 1, a1, c1, by rw [hL2.out, ← HST.out]; simp, by simp, by omega, hid (O1.out.is (HST.out.trans hL2.out.symm))⟩, by simp [numAt]; omega⟩
          · try rw [show decide (findI a yn < 0) = false from decide_eq_false (by omega)]
            have HST : Hid (LL = L2) := hid (by rw [HSN.out, h2, List.append_nil])
            generalize findI a yn = K at *
            have q2 : (0 ≤ K) = True := eq_true h1
            clear h1 h2 HC3 HSN
            go_wp2
            exact ⟨⟨k + 1, va, vc, by rw [hL2.out, ← HST.out], by simp, by omega, hid (HC.out.is (HST.out.trans hL2.out.symm))⟩, by simp [numAt]; omega⟩
        · have k2 : ¬ (k : Int) < (b.length : Int) := by omega
          have HE : Hid (b.take k = b) := hid (List.take_of_length_le (by omega))
          have HLK : Hid ((C0 ++ (b.take k).flatMap D2).length ≤ 4000000) := hid (by have := HE2.out k; have := HLN.out; rw [List.length_append]; omega)
          rw [HE.out, ← HDL2.out] at HC HLK ⊢
          clear HE HDL2 HDL HLN HE2 HC2
          have m3 : (DL.length : Int) ≤ 9223372036854775807 := by have := HLK.out; omega
          go_wp2
          generalize wr = W7 at *
          go_loopw [12, 13] (fun c r wq => ∃ (j : Nat), c = .int .i64 (wsC (DL.take j)) ∧ r = .int .i64 j ∧ j ≤ DL.length ∧ Hid (Below W7.heap.size W7 wq)) (fun _ r wq => DL.length - numAt wq r)
          case atStart => exact ⟨0, rfl, rfl, by omega, hid (Below.refl _ _)⟩
          case round =>
            obtain ⟨j, rfl, rfl, hj, hbq⟩ := hrel
            clear HF x1 z1 x2 z2
            replace HC := hid (HC.out.kept hbq.out)
            have HROW := hid (own_row (Z := AnyZ) HC.out.o (fun _ _ => trivial))
            by_cases hlt : j < DL.length
            · have k3 : (j : Int) < (DL.length : Int) := by omega
              obtain ⟨b1, o1, rfl, hb1, c0, c1, c2, c3⟩ := rowC HROW.out hlt
              have HSN : Hid (wsC (DL.take (j + 1)) = max (wsC (DL.take j)) DL[j].cls) := hid (by rw [List.take_succ_eq_append_getElem hlt, wsC_snoc])
              clear c1 c2 c3
              generalize wsC (DL.take j) = M1 at *
              generalize DL[j].cls = cc at *
              go_wp2
              exact ⟨⟨j + 1, by rw [HSN.out], by simp, by omega, hbq⟩, by simp [numAt]; omega⟩
            · have k3 : ¬ (j : Int) < (DL.length : Int) := by omega
              have HE : Hid (DL.take j = DL) := hid (List.take_of_length_le (by omega))
              rw [HE.out]
              go_wp2
              exact bodyPost_ret (v := .tuple #[.slice va DL.length vc, .int .i64 (wsC DL)]) (by simp [results, Tryz.results9, go_sem]) rfl ⟨va, vc, rfl, HROW.out, HL.out.trans (HC.out.f.below HL.out.size)⟩
end Go.Proofs.YtmjgonckadcbkaaGreatDoor
