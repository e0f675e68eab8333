/-
  A table is good: what the document answers.
  Both answers about names are one.
  Both answers about an enum are one.
  Both answers about a message are one.
  Both answers about a table are one.
  The law: any table, good or not; any name.
  What comes in, opened: strings; and what the bound on it says.
  A table that comes in, opened.
  A table that comes in, opened: fields, symbols, ranges, types.
  The variables of Go's library that the rows list: a world that lays them; the one that is named alone.
  A type at its index, where there is none of that sort.
-/
import Derived.Test.YtbiohlfcikdldaaDoorCND
import Derived.Test.YtbiohlfcikdldaaDoorNF
import Derived.Test.YtbiohlfcikdldaaDoorCTP
import Derived.Test.YtbiohlfcikdldaaDoorCTY
import Derived.ProofKit
import Derived.OpenShut
import Derived.ShutString
import Derived.Lib.SmallJoins
import Derived.Deep.Slices
import Derived.Deep.Fields
import Derived.Test.YtbiohlfcikdldaaDoorRows
import Derived.Stop.LaidErr
import Derived.Deep.DeepHandedRow
import Derived.Deep.DeepWitnessRowRef
import Derived.LaidLaws
namespace Go.Proofs.YtbiohlfcikdldaaDoor
open Go.RowKit
set_option maxRecDepth 1000000
set_option linter.unusedVariables false
set_option linter.unusedSimpArgs false
set_option maxHeartbeats 1000000
def gtD (l : List TV) (i : Nat) (t : TT) : Bool := nmdB l i t && (if t.enum = true then enmB t else msgD l t)
def gdA (l : List TV) : Nat → List TV → Bool
  | _, [] => true
  | i, x :: r => gtD l i x.t && gdA l (i + 1) r
def goodD (l : List TV) : Bool := decide (l.length ≤ 128) && gdA l 0 l
theorem goodR (w : World) (l : List TV) (ta : Option Addr) (tc : Nat) (h : TbR w (.slice ta l.length tc) l) (hk : ∀ x ∈ l, OkV x) (hz : ∀ x ∈ l, x.t.name.length < 4000000) : Calls Tryd.prog 15 #[.agg #[.slice ta l.length tc]] w fun e w' => e = .returned (.bool (goodD l)) ∧ Below w.heap.size w w' := by
  obtain ⟨_, _, e, hn⟩ := rowS_sl h.row
  clear e
  have h1 : (l.length : Int) ≤ 9223372036854775807 := by omega
  have HT := hid h
  have HK := hid hk
  have HZ := hid hz
  clear h hk hz
  have HX : Hid (goodD l = (decide (l.length ≤ 128) && gdA l 0 l)) := hid rfl
  generalize goodD l = res at *
  by_cases hbig : 128 < l.length
  case pos =>
    have h2 : (128 : Int) < (l.length : Int) := by omega
    have HE : Hid (res = false) := hid (by rw [HX.out, decide_eq_false (by omega)]; rfl)
    go_enter Tryd.func15, Tryd.ntmps15
    go_wp2
    go_ret
    exact ⟨ret_bool HE.out.symm, by exact blBy⟩
  have h2 : ¬ (128 : Int) < (l.length : Int) := by omega
  replace HX := hid (show res = gdA l 0 l by rw [HX.out, decide_eq_true (by omega)]; rfl)
  go_enter Tryd.func15, Tryd.ntmps15
  go_wp2
  go_loopw [3] (fun r wr => ∃ i : Nat, r = .int .i64 i ∧ i ≤ l.length ∧ Hid (res = gdA l i (l.drop i)) ∧ Hid (Blk wr w.heap.size 24 #[.slice ta l.length tc]) ∧ Hid (Below w.heap.size w wr)) (fun r wr => l.length - numAt wr r)
  case atStart => exact ⟨0, rfl, by omega, HX, hid (Blk.new _ _ _), hid (by exact blBy)⟩
  case round =>
    clear HX
    obtain ⟨i, rfl, hi, HX, Ba, hb⟩ := hrel
    have xa := Ba.out.cellF
    have za := Ba.out.lt
    by_cases hlt : i < l.length
    case neg =>
      have h3 : ¬ (i : Int) < (l.length : Int) := by omega
      have HE : Hid (res = true) := hid (by rw [HX.out, List.drop_of_length_le (by omega)]; rfl)
      go_wp2
      go_ret
      exact ⟨ret_bool HE.out.symm, hb.out⟩
    have h3 : (i : Int) < (l.length : Int) := by omega
    have HST : Hid (gdA l i (l.drop i) = (gtD l i l[i].t && gdA l (i + 1) (l.drop (i + 1)))) := hid (by rw [List.drop_eq_getElem_cons hlt, gdA])
    rw [HST.out] at HX
    clear HST
    have HTY := hid (HT.out.ty _ (List.getElem_mem hlt))
    have HOK := hid (HK.out _ (List.getElem_mem hlt))
    have HNM : Hid (∀ W, Below w.heap.size w W → Calls Tryd.prog 39 #[.agg #[.slice ta l.length tc], .int .i64 (i : Int)] W fun e w' => e = .returned (.bool (nmdB l i l[i].t)) ∧ Below W.heap.size W w') := hid fun W hW => namedR W l ta tc i (HT.out.kept hW) (fun x hx => (HK.out x hx).ok.nm) HZ.out hlt
    obtain ⟨tb, tof, rfl, hbl, c0, c1, c2, c3, c4, c5⟩ := row6 (HT.out.row.kept hb.out) hlt
    generalize l[i] = x at *
    obtain ⟨t, f, o, s, r⟩ := x
    obtain ⟨fa, fc, ef, -⟩ := rowS_sl HTY.out.f
    obtain ⟨oa, oc, eo, -⟩ := rowS_sl HTY.out.o
    obtain ⟨sa, sc, es, -⟩ := rowS_sl HTY.out.s
    obtain ⟨ra, rc, er, -⟩ := rowS_sl HTY.out.r
    dsimp only at ef eo es er
    subst ef eo es er
    dsimp only at c0 c1 c2 c3 c4 c5 HX HNM
    go_wp2_with fail
    have Bx : Blk (wr.alloc (.cells #[.string (strOfNums t.name), .bool t.enum, .slice fa t.fs.length fc, .slice oa t.os.length oc, .slice sa t.ss.length sc, .slice ra t.rs.length rc] 62)) wr.heap.size 62 #[.string (strOfNums t.name), .bool t.enum, .slice fa t.fs.length fc, .slice oa t.os.length oc, .slice sa t.ss.length sc, .slice ra t.rs.length rc] := Blk.new _ _ _
    have Ba1 := Ba.out.kept (below_alloc (w := wr) (.cells #[.string (strOfNums t.name), .bool t.enum, .slice fa t.fs.length fc, .slice oa t.os.length oc, .slice sa t.ss.length sc, .slice ra t.rs.length rc] 62))
    have hb1 : Hid (Below w.heap.size w (wr.alloc (.cells #[.string (strOfNums t.name), .bool t.enum, .slice fa t.fs.length fc, .slice oa t.os.length oc, .slice sa t.ss.length sc, .slice ra t.rs.length rc] 62))) := hid (by have := hb.out; exact blBy)
    refine (HNM.out _ hb1.out).mono ?_
    rintro e w1 ⟨rfl, hb2⟩
    replace Ba1 := Ba1.kept hb2
    replace Bx := Bx.kept hb2
    replace hb2 : Hid (Below w.heap.size w w1) := hid (bl_then hb1.out hb2)
    have HBA := hid Ba1
    have HBX := hid Bx
    clear xa za Ba c0 c1 c2 c3 c4 c5 hbl
    have xa := Ba1.cellF
    have za := Ba1.lt
    have xx := Bx.cellF
    have zx := Bx.lt
    clear Ba1 Bx hb1 hb
    generalize wr.heap.size = xp at *
    have HD : Hid (gtD l i t = (nmdB l i t && (if t.enum = true then enmB t else msgD l t))) := hid rfl
    rw [HD.out] at HX
    cases q0 : nmdB l i t with
    | false =>
      have HE : Hid (res = false) := hid (by rw [HX.out, q0]; rfl)
      go_wp2
      go_ret
      exact ⟨ret_bool HE.out.symm, hb2.out⟩
    | true =>
    replace HX := hid (show res = ((if t.enum = true then enmB t else msgD l t) && gdA l (i + 1) (l.drop (i + 1))) by rw [HX.out, q0]; rfl)
    cases qe : t.enum with
    | true =>
      have HEN : Hid (∀ W, Below w.heap.size w W → Calls Tryd.prog 40 #[.agg #[.string (strOfNums t.name), .bool true, .slice fa t.fs.length fc, .slice oa t.os.length oc, .slice sa t.ss.length sc, .slice ra t.rs.length rc]] W fun e w' => e = .returned (.bool (enmB t)) ∧ Below W.heap.size W w') := hid (fun W hW => by have := enumR W t fa oa sa ra fc oc sc rc (HTY.out.kept hW) (fun x hx => (HOK.out.ok.ss x hx).1); rw [qe] at this; exact this)
      replace HX := hid (show res = (enmB t && gdA l (i + 1) (l.drop (i + 1))) by rw [HX.out, qe]; rfl)
      go_wp2_with fail
      refine (HEN.out _ (by have := hb2.out; exact blBy)).mono ?_
      rintro e w2 ⟨rfl, hb3⟩
      have HBA2 := hid (HBA.out.kept hb3)
      have HBX2 := hid (HBX.out.kept hb3)
      replace hb3 : Hid (Below w.heap.size w w2) := hid (bl_then hb2.out hb3)
      clear xa za xx zx
      have xa := HBA2.out.cellF
      have za := HBA2.out.lt
      have xx := HBX2.out.cellF
      have zx := HBX2.out.lt
      cases q1 : enmB t with
      | false =>
        have HE : Hid (res = false) := hid (by rw [HX.out, q1]; rfl)
        go_wp2
        go_ret
        exact ⟨ret_bool HE.out.symm, hb3.out⟩
      | true =>
        have HE : Hid (res = gdA l (i + 1) (l.drop (i + 1))) := hid (by rw [HX.out, q1]; rfl)
        go_wp2
        exact ⟨⟨i + 1, by simp, by omega, HE, HBA2, hb3⟩, by simp [numAt]; omega⟩
    | false =>
      have HEN : Hid (∀ W, Below w.heap.size w W → Calls Tryd.prog 41 #[.agg #[.slice (some ⟨tb, tof, none⟩) l.length tc], .agg #[.string (strOfNums t.name), .bool false, .slice fa t.fs.length fc, .slice oa t.os.length oc, .slice sa t.ss.length sc, .slice ra t.rs.length rc]] W fun e w' => e = .returned (.bool (msgD l t)) ∧ Below W.heap.size W w') := hid (fun W hW => by have := messageR W l _ tc t fa oa sa ra fc oc sc rc (HT.out.kept hW) (HTY.out.kept hW) HOK.out.ok; rw [qe] at this; exact this)
      replace HX := hid (show res = (msgD l t && gdA l (i + 1) (l.drop (i + 1))) by rw [HX.out, qe]; rfl)
      go_wp2_with fail
      refine (HEN.out _ (by have := hb2.out; exact blBy)).mono ?_
      rintro e w2 ⟨rfl, hb3⟩
      have HBA2 := hid (HBA.out.kept hb3)
      have HBX2 := hid (HBX.out.kept hb3)
      replace hb3 : Hid (Below w.heap.size w w2) := hid (bl_then hb2.out hb3)
      clear xa za xx zx
      have xa := HBA2.out.cellF
      have za := HBA2.out.lt
      have xx := HBX2.out.cellF
      have zx := HBX2.out.lt
      cases q1 : msgD l t with
      | false =>
        have HE : Hid (res = false) := hid (by rw [HX.out, q1]; rfl)
        go_wp2
        go_ret
        exact ⟨ret_bool HE.out.symm, hb3.out⟩
      | true =>
        have HE : Hid (res = gdA l (i + 1) (l.drop (i + 1))) := hid (by rw [HX.out, q1]; rfl)
        go_wp2
        exact ⟨⟨i + 1, by simp, by omega, HE, HBA2, hb3⟩, by simp [numAt]; omega⟩
end Go.Proofs.YtbiohlfcikdldaaDoor
namespace Go.Proofs.YtbiohlfcikdldaaDoor
open Go.RowKit
set_option maxRecDepth 1000000
set_option linter.unusedVariables false
set_option linter.unusedSimpArgs false
set_option maxHeartbeats 1000000
theorem byteAt {x : List Int} (hb : ∀ c ∈ x, 0 ≤ c ∧ c ≤ 255) {j : Nat} (hj : j < x.length) : (((strOfNums x).data[j]!).toNat : Int) = x[j] := by
  have hs : j < (strOfNums x).data.size := by have := strOfNums_size x; rw [ByteArray.size] at this; omega
  rw [getElem!_pos (strOfNums x).data j hs]
  have e : (strOfNums x).data[j] = UInt8.ofNat (x[j]).toNat := by simp [strOfNums]
  have := hb _ (List.getElem_mem hj)
  rw [e, UInt8.toNat_ofNat']
  omega
theorem lastD_spec {x : List Int} (hb : ∀ c ∈ x, 0 ≤ c ∧ c ≤ 255) : (lastD x = -1 ∧ ∀ c ∈ x, c ≠ 46) ∨ ∃ a b : List Int, x = a ++ 46 :: b ∧ (∀ c ∈ b, c ≠ 46) ∧ lastD x = a.length := by
  rcases Lib.lastIndexByte_spec (strOfNums x) 46 with ⟨e, h⟩ | ⟨i, hi, e, h1, h2⟩
  · refine .inl ⟨e, fun c hc => ?_⟩
    obtain ⟨j, hj, rfl⟩ := List.mem_iff_getElem.1 hc
    rw [← byteAt hb hj]
    exact h j (by rw [strOfNums_size]; exact hj)
  · rw [strOfNums_size] at hi
    refine .inr ⟨x.take i, x.drop (i + 1), ?_, fun c hc => ?_, ?_⟩
    · rw [byteAt hb hi] at h1
      rw [← h1, List.getElem_cons_drop, List.take_append_drop]
    · obtain ⟨j, hj, rfl⟩ := List.mem_iff_getElem.1 hc
      rw [List.length_drop] at hj
      rw [List.getElem_drop, ← byteAt hb (show i + 1 + j < x.length by omega)]
      exact h2 _ (by omega) (by rw [strOfNums_size]; omega)
    · rw [List.length_take, Nat.min_eq_left (by omega)]; exact e
theorem cutI_app : ∀ (a b : List Int), cutI (a ++ 46 :: b) = cutI a ++ cutI b
  | [], b => by simp [cutI]
  | c :: r, b => by
    rw [List.cons_append, cutI, cutI, cutI_app r b]
    obtain ⟨p, q, e⟩ := cutI_ne r
    rw [e]
    split <;> rfl
theorem headA_find (hd : List Int) : ∀ l : List TV, headA hd l = (match l.find? (fun v => v.t.name == hd) with
  | none => false
  | some v => !v.t.enum)
  | [] => rfl
  | v :: r => by
    rw [headA, List.find?_cons, headA_find hd r]
    by_cases h : v.t.name = hd
    · rw [show nameP hd v = true from decide_eq_true h, show (v.t.name == hd) = true by simpa using h]; rfl
    · rw [show nameP hd v = false from decide_eq_false h, show (v.t.name == hd) = false by simpa using h]; rfl
theorem standEq (l : List TV) (i : Nat) {x : List Int} (hb : ∀ c ∈ x, 0 ≤ c ∧ c ≤ 255) : standB l i x = (decide ((cutI x).length = 1) || headA (x.take (hdN x)) (l.take i)) := by
  rcases lastD_spec hb with ⟨e, h⟩ | ⟨a, b, rfl, h, e⟩
  · rw [cutI_none x h]
    unfold standB
    rw [if_pos (by rw [e]; omega)]
    rfl
  · have ec : cutI (a ++ 46 :: b) = cutI a ++ [b] := by rw [cutI_app, cutI_none b h]
    have hl : 1 ≤ (cutI a).length := by rw [cutI_len]; omega
    have el : lastP (a ++ 46 :: b) = b := by unfold lastP; rw [ec]; simp
    have eh : hdN (a ++ 46 :: b) = a.length := by unfold hdN; rw [el]; simp; omega
    unfold standB
    rw [if_neg (by rw [e]; omega), e, Int.toNat_natCast, headA_find, eh, decide_eq_false (by rw [ec, List.length_append]; simp only [List.length_cons, List.length_nil]; omega)]
    simp only [Bool.false_or]
    cases List.find? (fun v => v.t.name == List.take a.length (a ++ 46 :: b)) (List.take i l) <;> rfl
theorem any_name (l : List TV) (x : List Int) : l.any (nameP x) = named l x := by
  unfold named
  congr 1
  funext v
  unfold nameP
  by_cases h : v.t.name = x <;> simp [h]
theorem nmdEq (l : List TV) (i : Nat) (t : TT) (hb : ∀ c ∈ t.name, 0 ≤ c ∧ c ≤ 255) : nmdB l i t = (!named (l.take i) t.name && (fullB t && standB l i t.name)) := by
  unfold nmdB fullB
  rw [any_name, standEq l i hb, Bool.and_assoc]
  congr 2
  rw [cutI_len]
  split <;> (congr 1; try (apply propext; omega))
end Go.Proofs.YtbiohlfcikdldaaDoor
namespace Go.Proofs.YtbiohlfcikdldaaDoor
open Go.RowKit
set_option maxRecDepth 1000000
set_option linter.unusedVariables false
set_option linter.unusedSimpArgs false
set_option maxHeartbeats 1000000
theorem pw_and {α : Type} {R S : α → α → Prop} : ∀ l : List α, l.Pairwise (fun a b => R a b ∧ S a b) ↔ l.Pairwise R ∧ l.Pairwise S
  | [] => by simp
  | x :: r => by
    rw [List.pairwise_cons, List.pairwise_cons, List.pairwise_cons, pw_and r]
    constructor
    · rintro ⟨h1, h2, h3⟩
      exact ⟨⟨fun a ha => (h1 a ha).1, h2⟩, fun a ha => (h1 a ha).2, h3⟩
    · rintro ⟨⟨h1, h2⟩, h3, h4⟩
      exact ⟨fun a ha => ⟨h1 a ha, h3 a ha⟩, h2, h4⟩
theorem enmA_iff : ∀ (r pre : List SY), enmA pre r = true ↔ (∀ s ∈ r, nmB s.name = true ∧ 0 ≤ s.num ∧ s.num < 2147483648) ∧ r.Pairwise (fun a b => a.name ≠ b.name ∧ a.num ≠ b.num) ∧ ∀ p ∈ pre, ∀ s ∈ r, p.name ≠ s.name ∧ p.num ≠ s.num
  | [], pre => by simp [enmA]
  | s :: r, pre => by
    rw [enmA, Bool.and_eq_true, Bool.and_eq_true, Bool.and_eq_true, enmA_iff r (pre ++ [s]), decide_eq_true_eq, List.pairwise_cons]
    have hd : ((!pre.any (dupP s)) = true) ↔ ∀ p ∈ pre, p.name ≠ s.name ∧ p.num ≠ s.num := by
      rw [Bool.not_eq_true', List.any_eq_false]
      constructor
      · intro h p hp
        have := h p hp
        unfold dupP at this
        simp at this
        exact this
      · intro h p hp
        have := h p hp
        unfold dupP
        simp
        exact this
    rw [hd]
    constructor
    · rintro ⟨h1, h2, h3, h4, h5, h6⟩
      refine ⟨fun x hx => ?_, ⟨fun x hx => h6 s (by simp) x hx, h5⟩, fun p hp x hx => ?_⟩
      · rcases List.mem_cons.1 hx with rfl | hx
        · exact ⟨h1, h2⟩
        · exact h4 x hx
      · rcases List.mem_cons.1 hx with rfl | hx
        · exact h3 p hp
        · exact h6 p (by simp [hp]) x hx
    · rintro ⟨h1, ⟨h2, h3⟩, h4⟩
      refine ⟨(h1 s (by simp)).1, (h1 s (by simp)).2, fun p hp => h4 p hp s (by simp), fun x hx => h1 x (by simp [hx]), h3, fun p hp x hx => ?_⟩
      rcases List.mem_append.1 hp with hp | hp
      · exact h4 p hp x (by simp [hx])
      · simp at hp; subst hp; exact h2 x hx
theorem isKeyS (x : List Int) : WideAt.IsKeyLit (litS x) := trivial
theorem isKeyI (x : Int) : WideAt.IsKeyLit (litI x) := trivial
theorem dfS_iff {ns : List (List Int)} (ht : ∀ x ∈ ns, TxA x) : dfB (ns.map litS) = true ↔ ns.Pairwise (· ≠ ·) := by
  rw [dfB_iff _ (fun x hx => by obtain ⟨y, _, rfl⟩ := List.mem_map.1 hx; exact isKeyS y), List.Nodup, List.pairwise_map]
  exact List.Pairwise.iff_of_mem (fun ha hb => ⟨fun h e => h (by rw [e]), fun h e => h (litS_inj (ht _ ha) (ht _ hb) e)⟩)
theorem dfI_iff (ns : List Int) : dfB (ns.map litI) = true ↔ ns.Pairwise (· ≠ ·) := by
  rw [dfB_iff _ (fun x hx => by obtain ⟨y, _, rfl⟩ := List.mem_map.1 hx; exact isKeyI y), List.Nodup, List.pairwise_map]
  exact List.Pairwise.iff_of_mem (fun ha hb => ⟨fun h e => h (by rw [e]), fun h e => h (by unfold litI at e; injection e)⟩)
theorem enumEq (t : TT) (hk : ∀ x ∈ t.ss, TxA x.name) : enmB t = (decide (t.fs.length + t.os.length + t.rs.length = 0) && symB t.ss) := by
  rw [Bool.eq_iff_iff]
  unfold enmB
  cases hs : t.ss with
  | nil => simp [symB]
  | cons s r =>
    rw [hs] at hk
    rw [symB_is (by simp)]
    simp only [Bool.and_eq_true, decide_eq_true_eq, enmA_iff, List.length_cons, List.getElem?_cons_zero, Option.map_some, Option.getD_some, List.getElem_cons_zero]
    rw [dfS_iff (fun x hx => by obtain ⟨y, hy, rfl⟩ := List.mem_map.1 hx; exact hk y hy), dfI_iff, List.pairwise_map, List.pairwise_map, pw_and, List.all_eq_true, List.all_eq_true]
    constructor
    · rintro ⟨⟨h1, h2⟩, h3, h4, h5, h6, h7, ⟨h8, h9⟩, h10⟩
      refine ⟨by omega, h2, h3, fun x hx => ?_, fun x hx => ?_, h8, h9⟩
      · have := (h7 x hx).2; simp; omega
      · obtain ⟨y, hy, rfl⟩ := List.mem_map.1 hx; exact (h7 y hy).1
    · rintro ⟨h1, h2, h3, h4, h5, h6, h7⟩
      refine ⟨⟨by omega, h2⟩, h3, by omega, by omega, by omega, fun x hx => ⟨h5 _ (List.mem_map.2 ⟨x, hx, rfl⟩), ?_⟩, ⟨h6, h7⟩, by simp⟩
      have := h4 x hx
      simp at this
      omega
end Go.Proofs.YtbiohlfcikdldaaDoor
namespace Go.Proofs.YtbiohlfcikdldaaDoor
open Go.RowKit
set_option maxRecDepth 1000000
set_option linter.unusedVariables false
set_option linter.unusedSimpArgs false
set_option maxHeartbeats 1000000
theorem nmsA_iff : ∀ (r pre : List (List Int)), nmsA pre r = true ↔ (∀ s ∈ r, nmB s = true) ∧ r.Pairwise (· ≠ ·) ∧ ∀ p ∈ pre, ∀ s ∈ r, p ≠ s
  | [], pre => by simp [nmsA]
  | s :: r, pre => by
    rw [nmsA, Bool.and_eq_true, Bool.and_eq_true, nmsA_iff r (pre ++ [s]), List.pairwise_cons]
    have hd : ((!pre.any (sameP s)) = true) ↔ ∀ p ∈ pre, p ≠ s := by
      rw [Bool.not_eq_true', List.any_eq_false]
      constructor
      · intro h p hp e
        exact h p hp (decide_eq_true e.symm)
      · intro h p hp q
        exact h p hp (of_decide_eq_true q).symm
    rw [hd]
    constructor
    · rintro ⟨h1, h3, h4, h5, h6⟩
      refine ⟨fun x hx => ?_, ⟨fun x hx => h6 s (by simp) x hx, h5⟩, fun p hp x hx => ?_⟩
      · rcases List.mem_cons.1 hx with rfl | hx
        · exact h1
        · exact h4 x hx
      · rcases List.mem_cons.1 hx with rfl | hx
        · exact h3 p hp
        · exact h6 p (by simp [hp]) x hx
    · rintro ⟨h1, ⟨h2, h3⟩, h4⟩
      refine ⟨h1 s (by simp), fun p hp => h4 p hp s (by simp), fun x hx => h1 x (by simp [hx]), h3, fun p hp x hx => ?_⟩
      rcases List.mem_append.1 hp with hp | hp
      · exact h4 p hp x (by simp [hx])
      · simp at hp; subst hp; exact h2 x hx
theorem riseA_iff : ∀ (fs : List FT) (z : Int), riseA fs z = true ↔ z ≤ 536870911 ∧ fs.Pairwise (fun a b => a.num < b.num) ∧ ∀ f ∈ fs, z < f.num ∧ f.num ≤ 536870911
  | [], z => by simp [riseA]
  | f :: r, z => by
    rw [riseA, List.pairwise_cons]
    by_cases h : f.num ≤ z
    · rw [if_pos h]
      constructor
      · intro q; cases q
      · rintro ⟨_, _, h2⟩
        have := h2 f (by simp)
        omega
    · rw [if_neg h, riseA_iff r f.num]
      constructor
      · rintro ⟨h1, h2, h3⟩
        refine ⟨by omega, ⟨fun g hg => (h3 g hg).1, h2⟩, fun g hg => ?_⟩
        rcases List.mem_cons.1 hg with rfl | hg
        · omega
        · have := h3 g hg; omega
      · rintro ⟨h1, ⟨h2, h3⟩, h4⟩
        exact ⟨(h4 f (by simp)).2, h3, fun g hg => ⟨h2 g hg, (h4 g (by simp [hg])).2⟩⟩
theorem flA_iff (l : List TV) (k : Nat) (rs : List RG) (fs : List FT) : ∀ (n i : Nat), i + n = fs.length → (flA l k rs fs i (fs.drop i) = true ↔ (∀ f ∈ fs.drop i, docB l k f = true ∧ rs.all (outP f.num) = true) ∧ (fs.drop i).Pairwise (fun a b => a.num < b.num) ∧ (i = 0 ∨ ∀ f ∈ fs.drop i, (fs[i - 1]?.map FT.num).getD 0 < f.num))
  | 0, i, h => by
    rw [List.drop_of_length_le (by omega)]
    simp [flA]
  | n + 1, i, h => by
    have hi : i < fs.length := by omega
    rw [List.drop_eq_getElem_cons hi, flA, Bool.and_eq_true, Bool.and_eq_true, Bool.and_eq_true, flA_iff l k rs fs n (i + 1) (by omega), List.pairwise_cons]
    have e : (fs[i + 1 - 1]?.map FT.num).getD 0 = fs[i].num := by rw [Nat.add_sub_cancel, List.getElem?_eq_getElem hi]; rfl
    rw [e]
    unfold riseP
    rw [decide_eq_true_eq]
    generalize (fs[i - 1]?.map FT.num).getD 0 = pv
    generalize fs[i] = f
    generalize fs.drop (i + 1) = r
    constructor
    · rintro ⟨h1, h2, h3, h4, h5, h6⟩
      have h6' : ∀ g ∈ r, f.num < g.num := fun g hg => by rcases h6 with h6 | h6; omega; exact h6 g hg
      refine ⟨fun g hg => ?_, ⟨h6', h5⟩, ?_⟩
      · rcases List.mem_cons.1 hg with rfl | hg
        · exact ⟨h1, h3⟩
        · exact h4 g hg
      · rcases h2 with h2 | h2
        · exact .inl h2
        · refine .inr fun g hg => ?_
          rcases List.mem_cons.1 hg with rfl | hg
          · exact h2
          · have := h6' g hg; omega
    · rintro ⟨h1, ⟨h2, h3⟩, h4⟩
      exact ⟨(h1 f (by simp)).1, h4.imp id (fun q => q f (by simp)), (h1 f (by simp)).2, fun g hg => h1 g (by simp [hg]), h3, .inr h2⟩
theorem rgA_iff (rs : List RG) : ∀ (n i : Nat), i + n = rs.length → (rgA rs i (rs.drop i) = true ↔ (∀ g ∈ rs.drop i, 1 ≤ g.lo ∧ g.hi ≤ 536870911 ∧ g.lo ≤ g.hi) ∧ (rs.drop i).Pairwise (fun a b => a.hi < b.lo) ∧ (i = 0 ∨ ∀ g ∈ rs.drop i, (rs[i - 1]?.map RG.hi).getD 0 < g.lo))
  | 0, i, h => by
    rw [List.drop_of_length_le (by omega)]
    simp [rgA]
  | n + 1, i, h => by
    have hi : i < rs.length := by omega
    rw [List.drop_eq_getElem_cons hi, rgA, Bool.and_eq_true, rgA_iff rs n (i + 1) (by omega), List.pairwise_cons]
    have e : (rs[i + 1 - 1]?.map RG.hi).getD 0 = rs[i].hi := by rw [Nat.add_sub_cancel, List.getElem?_eq_getElem hi]; rfl
    rw [e]
    unfold rgP
    rw [Bool.and_eq_true, Bool.and_eq_true, Bool.and_eq_true, decide_eq_true_eq, decide_eq_true_eq, decide_eq_true_eq, decide_eq_true_eq]
    generalize (rs[i - 1]?.map RG.hi).getD 0 = pv
    generalize rs[i] = f
    generalize rs.drop (i + 1) = r
    constructor
    · rintro ⟨⟨h1, h2, h3, h0⟩, h4, h5, h6⟩
      have h6' : ∀ g ∈ r, f.hi < g.lo := fun g hg => by rcases h6 with h6 | h6; omega; exact h6 g hg
      refine ⟨fun g hg => ?_, ⟨h6', h5⟩, ?_⟩
      · rcases List.mem_cons.1 hg with rfl | hg
        · exact ⟨h1, h2, h3⟩
        · exact h4 g hg
      · rcases h0 with h2 | h2
        · exact .inl h2
        · refine .inr fun g hg => ?_
          rcases List.mem_cons.1 hg with rfl | hg
          · exact h2
          · have := h6' g hg; omega
    · rintro ⟨h1, ⟨h2, h3⟩, h4⟩
      have := h1 f (by simp)
      exact ⟨⟨this.1, this.2.1, this.2.2, h4.imp id (fun q => q f (by simp))⟩, fun g hg => h1 g (by simp [hg]), h3, .inr h2⟩
theorem freeA_iff (fs : List FT) : ∀ (rs : List RG) (z : Int), freeA fs rs z = true ↔ z ≤ 536870911 ∧ (∀ g ∈ rs, z < g.lo ∧ g.hi ≤ 536870911 ∧ g.lo ≤ g.hi ∧ hitB fs g = false) ∧ rs.Pairwise (fun a b => a.hi < b.lo)
  | [], z => by simp [freeA]
  | g :: r, z => by
    rw [freeA, List.pairwise_cons]
    by_cases h : g.lo ≤ z ∨ g.hi < g.lo
    · rw [if_pos h]
      constructor
      · intro q; cases q
      · rintro ⟨_, h2, _⟩
        have := h2 g (by simp)
        omega
    · rw [if_neg h]
      cases hh : hitB fs g with
      | true =>
        rw [if_pos rfl]
        constructor
        · intro q; cases q
        · rintro ⟨_, h2, _⟩
          have := (h2 g (by simp)).2.2.2
          rw [hh] at this; cases this
      | false =>
        rw [if_neg (by simp), freeA_iff fs r g.hi]
        constructor
        · rintro ⟨h1, h2, h3⟩
          refine ⟨by omega, fun x hx => ?_, fun x hx => (h2 x hx).1, h3⟩
          rcases List.mem_cons.1 hx with rfl | hx
          · exact ⟨by omega, h1, by omega, hh⟩
          · have := h2 x hx; exact ⟨by omega, this.2⟩
        · rintro ⟨h1, h2, h3, h4⟩
          exact ⟨(h2 g (by simp)).2.1, fun x hx => ⟨h3 x hx, (h2 x (by simp [hx])).2⟩, h4⟩
theorem hit_out (fs : List FT) (rs : List RG) : (∀ g ∈ rs, hitB fs g = false) ↔ ∀ f ∈ fs, rs.all (outP f.num) = true := by
  unfold hitB outP
  simp only [List.any_eq_false, List.all_eq_true, decide_eq_true_eq, Bool.not_eq_true', decide_eq_false_iff_not]
  exact ⟨fun h f hf g hg => h g hg f hf, fun h g hg f hf => h f hf g hg⟩
theorem messageEq (l : List TV) (t : TT) (hk : OkT t) : msgD l t = (decide (t.ss.length = 0) && msgB l t) := by
  rw [Bool.eq_iff_iff]
  have htx : ∀ x ∈ t.os ++ t.fs.map FT.name, TxA x := fun x hx => by
    rcases List.mem_append.1 hx with q | q
    · exact hk.os x q
    · obtain ⟨y, hy, rfl⟩ := List.mem_map.1 q
      exact hk.fs y hy
  unfold msgD msgB cntB nmsB
  have hf := flA_iff l t.os.length t.rs t.fs t.fs.length 0 (by omega)
  have hr := rgA_iff t.rs t.rs.length 0 (by omega)
  rw [List.drop_zero] at hf hr
  simp only [Bool.and_eq_true, decide_eq_true_eq, hf, hr, nmsA_iff, riseA_iff, freeA_iff, dfS_iff htx]
  constructor
  · rintro ⟨⟨h1, h2, h3, h4⟩, h5, ⟨h6, h7, -⟩, ⟨h8, h9, -⟩, h10, h11, -⟩
    have hd : ∀ f ∈ t.fs, (1 ≤ f.num ∧ f.num ≤ 536870911) ∧ fldB l t.os.length f = true := fun f hf => by
      have := (h6 f hf).1
      unfold docB at this
      rw [Bool.and_eq_true, decide_eq_true_eq] at this
      exact this
    refine ⟨h1, ⟨h2, h3⟩, List.all_eq_true.2 fun f hf => (hd f hf).2, ⟨by omega, h7, fun f hf => by have := (hd f hf).1; omega⟩, ⟨by omega, fun g hg => ?_, h11⟩, h5, List.all_eq_true.2 h8, h9⟩
    have := h10 g hg
    exact ⟨by omega, this.2.1, this.2.2, (hit_out t.fs t.rs).2 (fun f hf => (h6 f hf).2) g hg⟩
  · rintro ⟨h1, ⟨h2, h3⟩, h4, ⟨-, h5, h6⟩, ⟨-, h7, h8⟩, h9, h10, h11⟩
    refine ⟨⟨h1, h2, h3, mem_few h9⟩, h9, ⟨fun f hf => ⟨?_, ?_⟩, h5, .inl trivial⟩, ⟨List.all_eq_true.1 h10, h11, by simp⟩, fun g hg => ?_, h8, .inl trivial⟩
    · unfold docB
      rw [Bool.and_eq_true, decide_eq_true_eq]
      have := h6 f hf
      exact ⟨by omega, List.all_eq_true.1 h4 f hf⟩
    · exact (hit_out t.fs t.rs).1 (fun g hg => (h7 g hg).2.2.2) f hf
    · have := h7 g hg
      exact ⟨by omega, this.2.1, this.2.2.1⟩
end Go.Proofs.YtbiohlfcikdldaaDoor
namespace Go.Proofs.YtbiohlfcikdldaaDoor
open Go.RowKit
set_option maxRecDepth 1000000
set_option linter.unusedVariables false
set_option linter.unusedSimpArgs false
set_option maxHeartbeats 1000000
theorem stepEq (l : List TV) (i : Nat) (t : TT) (hk : OkT t) : gtD l i t = stepB l i t := by
  unfold gtD stepB typB
  rw [nmdEq l i t hk.nm.1, enumEq t (fun x hx => (hk.ss x hx).1), messageEq l t hk]
  simp only [Bool.and_assoc]
theorem goodA_eq (l : List TV) (hk : ∀ x ∈ l, OkV x) : ∀ (r : List TV) (i : Nat), (∀ x ∈ r, OkV x) → gdA l i r = goodA l r i
  | [], _, _ => rfl
  | x :: r, i, h => by rw [gdA, goodA, stepEq l i x.t (h x (by simp)).ok, goodA_eq l hk r (i + 1) (fun y hy => h y (by simp [hy]))]
theorem goodEq (l : List TV) (hk : ∀ x ∈ l, OkV x) : goodD l = goodB l := by
  unfold goodD goodB
  rw [goodA_eq l hk l 0 hk]
end Go.Proofs.YtbiohlfcikdldaaDoor
namespace Go.Proofs.YtbiohlfcikdldaaDoor
open Go.RowKit
set_option maxRecDepth 1000000
set_option linter.unusedVariables false
set_option linter.unusedSimpArgs false
set_option maxHeartbeats 1000000
theorem awake7 (w : World) (m : Int) (hm : w.cell? ⟨0, 0, none⟩ = some (.int .i64 m)) : Calls Tryd.prog 9 #[] w fun e w' => e = .returned (.bool true) ∧ Below w.heap.size w w' := by
  have HM := hid hm
  clear hm
  have HTX : Hid (TxA [77]) := hid ⟨by decide, by decide⟩
  have HF : Hid (∀ (h : Nat) (W : World) (a : Option Addr), Below w.heap.size w W → TbR W (.slice a (simL h).length 2) (simL h) → Calls Tryd.prog 8 #[.agg #[.slice a (simL h).length 2], .string ⟨#[77]⟩] W fun e w' => e = .returned (.tuple #[.int .i64 1, .int .i64 0]) ∧ Below W.heap.size W w') := hid fun h W a hW hT => by
    have := findT W (simL h) a 2 hT (simOk h) m (cell_below HM.out hW) [77] HTX.out
    rw [simFind] at this
    exact this
  have HG : Hid (∀ (h : Nat) (W : World) (a : Option Addr), Below w.heap.size w W → TbR W (.slice a (simL h).length 2) (simL h) → Calls Tryd.prog 10 #[.agg #[.slice a (simL h).length 2]] W fun e w' => e = .returned (.bool true) ∧ Below W.heap.size W w') := hid fun h W a hW hT => by
    have := goodT W (simL h) a 2 hT (simOk h) m (cell_below HM.out hW)
    rw [simGood] at this
    exact this
  go_enter Tryd.func9, Tryd.ntmps9
  go_wp2_with fail
  refine (simpleW _).mono ?_
  rintro e w1 ⟨rfl, ht1, hb1⟩
  have HT1 := hid ht1
  replace hb1 : Hid (Below w.heap.size w w1) := hid (bl_then (by exact blBy) hb1)
  clear ht1
  go_wp2_with fail
  refine (HF.out _ _ _ (by have := hb1.out; exact blBy) HT1.out).mono ?_
  rintro e w2 ⟨rfl, hb2⟩
  replace hb2 : Hid (Below w.heap.size w w2) := hid (bl_then (by have := hb1.out; exact blBy) hb2)
  go_wp2_with fail
  refine (simpleW _).mono ?_
  rintro e w3 ⟨rfl, ht3, hb3⟩
  have HT3 := hid ht3
  replace hb3 : Hid (Below w.heap.size w w3) := hid (bl_then (by have := hb2.out; exact blBy) hb3)
  clear ht3
  go_wp2_with fail
  refine (takesSim _ _ _ _ HT3.out m (cell_below HM.out hb3.out)).mono ?_
  rintro e w4 ⟨rfl, hb4⟩
  replace hb4 : Hid (Below w.heap.size w w4) := hid (bl_then (by have := hb3.out; exact blBy) hb4)
  go_wp2_with fail
  refine (simpleW _).mono ?_
  rintro e w5 ⟨rfl, ht5, hb5⟩
  have HT5 := hid ht5
  replace hb5 : Hid (Below w.heap.size w w5) := hid (bl_then (by have := hb4.out; exact blBy) hb5)
  clear ht5
  go_wp2_with fail
  refine (HG.out _ _ _ (by have := hb5.out; exact blBy) HT5.out).mono ?_
  rintro e w6 ⟨rfl, hb6⟩
  replace hb6 : Hid (Below w.heap.size w w6) := hid (bl_then (by have := hb5.out; exact blBy) hb6)
  go_wp2
  go_ret
  exact ⟨rfl, hb6.out⟩
end Go.Proofs.YtbiohlfcikdldaaDoor
namespace Go.Proofs.YtbiohlfcikdldaaDoor
open Go.ChangeShapes Go.WideShapes Go.ChangeAt Go.RowKit Go.Deep
set_option maxRecDepth 1000000
section
variable {H : Type}
theorem bulk_one (d : DataW H) : 1 ≤ Rows.uptoBulk d := by
  cases d with
  | lit l => cases l <;> simp [Rows.uptoBulk]
  | nil => simp [Rows.uptoBulk]
  | ptr d => simp [Rows.uptoBulk]
  | slice elems spare => simp [Rows.uptoBulk]
  | agg parts => simp [Rows.uptoBulk]
  | iface t d => simp [Rows.uptoBulk]
  | map entries => simp [Rows.uptoBulk]
  | held h => simp [Rows.uptoBulk]
theorem bulk_length (l : List (DataW H)) : l.length ≤ Rows.uptoBulkAll l := by
  induction l with
  | nil => simp [Rows.uptoBulkAll]
  | cons x r ih => have := bulk_one x; simp only [Rows.uptoBulkAll, List.length_cons]; omega
theorem small_le {l : List (DataW H)} (hk : Rows.uptoSmall H l = true) : Rows.uptoBulkAll l ≤ 1048576 := of_decide_eq_true hk
end
/-- The numbers of a string's bytes. -/
def numsS (s : ByteArray) : List Int := s.data.toList.map fun b => (b.toNat : Int)
theorem numsS_str (s : ByteArray) : strOfNums (numsS s) = s := by
  apply ByteArray.ext
  apply Array.ext'
  simp [strOfNums, numsS, Function.comp_def]
theorem numsS_bd (s : ByteArray) : ∀ x ∈ numsS s, 0 ≤ x ∧ x ≤ 255 := by
  intro x hx
  obtain ⟨b, _, rfl⟩ := List.mem_map.1 hx
  have := b.toNat_lt
  omega
theorem numsS_len (s : ByteArray) : (numsS s).length = s.data.toList.length := by simp [numsS]
end Go.Proofs.YtbiohlfcikdldaaDoor
namespace Go.Proofs.YtbiohlfcikdldaaDoor
open Go.ChangeShapes Go.WideShapes Go.ChangeAt Go.RowKit Go.Deep
set_option maxRecDepth 1000000
set_option linter.unusedVariables false
set_option linter.unusedSimpArgs false
set_option maxHeartbeats 1000000
section
variable {H : Type} {enc : TypeId × Value → H} {W : World} {spare : Nat → Bool} {held : Bool}
/-- A struct of fields of one cell each, opened. -/
theorem struct_open {t : TypeId} {fs : Array Field} (ht : Tryd.prog.underlying t = some (.struct fs)) (hone : oneCellFields Tryd.prog fs = true) (hsz : Tryd.prog.cellsOf t = fs.size) {fuel : Nat} {cs : List Value} {y : DataW H × List MemPlace} (h : DataW.trod enc Tryd.prog W 0 spare held fuel t cs = some y) :
    ∃ (xs : List (DataW H × List MemPlace)) (n : Nat), y.1 = .agg (xs.map (·.1)) ∧ xs.length = fs.size ∧ cs.length = fs.size ∧ ∀ (i : Nat) (f : Field), fs[i]? = some f → ∃ v yi, cs[i]? = some v ∧ xs[i]? = some yi ∧ DataW.trod enc Tryd.prog W 0 spare held n f.type [v] = some yi := by
  obtain ⟨xs, n, _, rfl, hl, hlen, hf⟩ := DataW.trod_struct ht h
  refine ⟨xs, n, rfl, hlen, hl.trans hsz, fun i f hi => ?_⟩
  have hlt : i < fs.size := (Array.getElem?_eq_some_iff.1 hi).1
  obtain ⟨o1, o2⟩ := hone_of hone i f hi
  have hc : i < cs.length := by omega
  have hx : i < xs.length := by omega
  refine ⟨cs[i], xs[i], by simp [hc], by simp [hx], ?_⟩
  have := hf i f hi
  have e : (cs.drop i).take 1 = [cs[i]] := by rw [List.drop_eq_getElem_cons hc]; rfl
  rw [o1, o2, e] at this
  rw [this]
  simp [hx]
theorem bulk_mem {l : List (DataW H)} {d : DataW H} (h : d ∈ l) : Rows.uptoBulk d ≤ Rows.uptoBulkAll l := by
  induction l with
  | nil => cases h
  | cons x r ih =>
    simp only [Rows.uptoBulkAll]
    rcases List.mem_cons.1 h with rfl | h
    · omega
    · have := ih h; omega
theorem bulk_get {xs : List (DataW H × List MemPlace)} {i : Nat} {y : DataW H × List MemPlace} (h : xs[i]? = some y) : Rows.uptoBulk y.1 + 1 ≤ Rows.uptoBulk (DataW.agg (xs.map (·.1))) := by
  have := bulk_mem (l := xs.map (·.1)) (d := y.1) (List.mem_map.2 ⟨y, List.mem_of_getElem? h, rfl⟩)
  simp only [Rows.uptoBulk]
  omega
/-- A row of structs, opened. -/
theorem rows_open {α : Type} (g : α → List Value) (K : Nat) (hK0 : 0 < K) (Q : α → DataW H → Prop) {t e : TypeId} (ht : Tryd.prog.underlying t = some (.slice e)) (hK : Tryd.prog.cellsOf e = K) (hg : ∀ x, (g x).length = K)
    (hel : ∀ (n : Nat) (cs : List Value) (y : DataW H × List MemPlace), DataW.trod enc Tryd.prog W 0 spare held n e cs = some y → ∃ x, cs = g x ∧ Q x y.1) {fuel : Nat} {v : Value} {y : DataW H × List MemPlace} (hf : DataW.trod enc Tryd.prog W 0 spare held fuel t [v] = some y) :
    ∃ (a : Option Addr) (cap : Nat) (xs : List α), v = .slice a xs.length cap ∧ RowS W AnyZ K v xs.length (xs.flatMap g) ∧ xs.length + 1 ≤ Rows.uptoBulk y.1 ∧ ∀ x ∈ xs, ∃ d, Q x d ∧ Rows.uptoBulk d ≤ Rows.uptoBulk y.1 := by
  rcases open_slice ht hf with ⟨hcs, rfl⟩ | ⟨a, len, cap, m, n, D, Pl, hcs, _, hl, hm, hmm, rfl, hx⟩
  · simp at hcs
    subst hcs
    exact ⟨none, 0, [], rfl, rowS_nil _ _ _, by simp [Rows.uptoBulk], fun x hx => by cases hx⟩
  · simp at hcs
    subst hcs
    rw [hK] at hx
    have hlm : len ≤ m := by rw [hmm]; split <;> omega
    have hc : ∀ i, i < len → ∃ x : α, W.cells? 0 (a.add (i * K)) K = some (g x) ∧ Q x (D i) := fun i hi => by
      obtain ⟨cs', h1, h2⟩ := hx i (by omega)
      obtain ⟨x, rfl, hq⟩ := hel _ _ _ h2
      exact ⟨x, h1, hq⟩
    obtain ⟨xs, hxl, hxs⟩ : ∃ xs : List α, xs.length = len ∧ ∀ i (h : i < xs.length), W.cells? 0 (a.add (i * K)) K = some (g xs[i]) ∧ Q xs[i] (D i) := by
      clear hx hl hlm hmm hf
      induction len with
      | zero => exact ⟨[], rfl, fun i h => by simp at h⟩
      | succ k ih =>
        obtain ⟨xs, h1, h2⟩ := ih (fun i hi => hc i (by omega))
        obtain ⟨x, h3, h4⟩ := hc k (by omega)
        refine ⟨xs ++ [x], by simp [h1], fun i h => ?_⟩
        by_cases e : i < xs.length
        · rw [List.getElem_append_left e]; exact h2 i e
        · have ei : i = k := by simp at h; omega
          subst ei
          rw [List.getElem_append_right (by omega)]
          simp [h1, h3, h4]
    subst hxl
    have hb : ∀ i, i < xs.length → D i ∈ (List.range xs.length).map D := fun i hi => List.mem_map.2 ⟨i, List.mem_range.2 hi, rfl⟩
    refine ⟨some a, cap, xs, rfl, ⟨some a, cap, rfl, flatM_len hg xs, hl, by unfold maxLen at hm; omega, ?_⟩, ?_, fun x hxm => ?_⟩
    · by_cases h0 : xs.length = 0
      · exact .inl ⟨h0, fun e => by cases e⟩
      · obtain ⟨b, off, spot⟩ := a
        have hspot : spot = none := by
          have h1 := (World.cells?_some (hxs 0 (by omega)).1).2.2 0 hK0
          have h2 : (g xs[0])[0]? = some ((g xs[0])[0]'(by rw [hg]; exact hK0)) := by simp
          rw [h2] at h1
          simpa [Addr.add] using World.cell?_spot h1
        subst hspot
        refine .inr ⟨b, off, rfl, trivial, fun j u hu => ?_⟩
        have hj : j < xs.length * K := by rw [← flatM_len hg xs]; exact (List.getElem?_eq_some_iff.1 hu).1
        have hi : j / K < xs.length := (Nat.div_lt_iff_lt_mul hK0).2 hj
        have hr : j % K < K := Nat.mod_lt _ hK0
        have hjj : j / K * K + j % K = j := by rw [Nat.mul_comm]; exact Nat.div_add_mod j K
        have h2 : (g xs[j / K])[j % K]? = some ((g xs[j / K])[j % K]'(by rw [hg]; exact hr)) := by simp
        have h3 := flatM_get hg xs (j / K) (j % K) xs[j / K] _ (by simp [hi]) h2
        rw [hjj] at h3
        rw [h3] at hu
        have h1 := (World.cells?_some (hxs (j / K) hi).1).2.2 (j % K) hr
        have hadd : ((⟨b, off, none⟩ : Addr).add (j / K * K)).add (j % K) = ⟨b, off + j, none⟩ := by
          have e1 : ∀ (o i : Nat), (⟨b, o, none⟩ : Addr).add i = ⟨b, o + i, none⟩ := fun o i => by unfold Addr.add; split <;> simp_all
          rw [e1, e1, Nat.add_assoc, hjj]
        rw [hadd, h2] at h1
        rw [h1]
        exact hu
    · simp only [Rows.uptoBulk]
      have := bulk_length ((List.range xs.length).map D)
      simp at this
      omega
    · obtain ⟨i, hi, rfl⟩ := List.mem_iff_getElem.1 hxm
      refine ⟨D i, (hxs i hi).2, ?_⟩
      have := bulk_mem (hb i hi)
      simp only [Rows.uptoBulk]
      omega
/-- What a text that was read is. -/
def okX (b : Nat) (x : List Int) : Prop := TxA x ∧ x.length + 1 ≤ b
theorem str_open {n : Nat} {v : Value} {y : DataW H × List MemPlace} (h : DataW.trod enc Tryd.prog W 0 spare held n 9 [v] = some y) : ∃ x : List Int, v = .string (strOfNums x) ∧ okX (Rows.uptoBulk y.1) x := by
  obtain ⟨s, e, rfl, hs⟩ := DataW.trod_string Tryd.underlying9 h
  simp at e
  subst e
  refine ⟨numsS s, by rw [numsS_str], ⟨numsS_bd s, ?_⟩, ?_⟩
  · rw [numsS_len]
    unfold maxLen at hs
    simpa using hs
  · rw [numsS_len]
    simp [Rows.uptoBulk]
theorem int_open {n : Nat} {v : Value} {y : DataW H × List MemPlace} (h : DataW.trod enc Tryd.prog W 0 spare held n 3 [v] = some y) : ∃ x : Int, v = .int .i64 x ∧ I64 x := by
  obtain ⟨x, e, rfl, hs⟩ := DataW.trod_int Tryd.underlying3 h
  simp at e
  subst e
  refine ⟨x, rfl, ?_⟩
  unfold I64
  simp [Lit.wf, IntKind.min, IntKind.max, IntKind.signed, IntKind.bits] at hs
  omega
end
end Go.Proofs.YtbiohlfcikdldaaDoor
namespace Go.Proofs.YtbiohlfcikdldaaDoor
open Go.ChangeShapes Go.WideShapes Go.ChangeAt Go.RowKit Go.Deep
set_option maxRecDepth 1000000
set_option linter.unusedVariables false
set_option linter.unusedSimpArgs false
set_option maxHeartbeats 1000000
theorem fieldsF : ∃ f0 f1 f2 f3 f4 f5 f6, Tryd.prog.underlying 39 = some (.struct #[f0, f1, f2, f3, f4, f5, f6]) ∧ oneCellFields Tryd.prog #[f0, f1, f2, f3, f4, f5, f6] = true ∧ Tryd.prog.cellsOf 39 = 7 ∧ f0.type = 9 ∧ f1.type = 3 ∧ f2.type = 3 ∧ f3.type = 3 ∧ f4.type = 3 ∧ f5.type = 3 ∧ f6.type = 3 :=
  ⟨_, _, _, _, _, _, _, Tryd.underlying39, by kernel_rfl, by kernel_rfl, by kernel_rfl, by kernel_rfl, by kernel_rfl, by kernel_rfl, by kernel_rfl, by kernel_rfl, by kernel_rfl⟩
theorem fieldsS : ∃ f0 f1, Tryd.prog.underlying 56 = some (.struct #[f0, f1]) ∧ oneCellFields Tryd.prog #[f0, f1] = true ∧ Tryd.prog.cellsOf 56 = 2 ∧ f0.type = 9 ∧ f1.type = 3 :=
  ⟨_, _, Tryd.underlying56, by kernel_rfl, by kernel_rfl, by kernel_rfl, by kernel_rfl⟩
theorem fieldsR : ∃ f0 f1, Tryd.prog.underlying 97 = some (.struct #[f0, f1]) ∧ oneCellFields Tryd.prog #[f0, f1] = true ∧ Tryd.prog.cellsOf 97 = 2 ∧ f0.type = 3 ∧ f1.type = 3 :=
  ⟨_, _, Tryd.underlying97, by kernel_rfl, by kernel_rfl, by kernel_rfl, by kernel_rfl⟩
theorem fieldsT : ∃ f0 f1 f2 f3 f4 f5, Tryd.prog.underlying 62 = some (.struct #[f0, f1, f2, f3, f4, f5]) ∧ oneCellFields Tryd.prog #[f0, f1, f2, f3, f4, f5] = true ∧ Tryd.prog.cellsOf 62 = 6 ∧ f0.type = 9 ∧ f1.type = 4 ∧ f2.type = 58 ∧ f3.type = 59 ∧ f4.type = 57 ∧ f5.type = 60 :=
  ⟨_, _, _, _, _, _, Tryd.underlying62, by kernel_rfl, by kernel_rfl, by kernel_rfl, by kernel_rfl, by kernel_rfl, by kernel_rfl, by kernel_rfl, by kernel_rfl⟩
theorem list_eq {cs : List Value} : ∀ (l : List Value), cs.length = l.length → (∀ (i : Nat) (v : Value), l[i]? = some v → cs[i]? = some v) → cs = l := fun l hl h => by
  apply List.ext_getElem? 
  intro i
  by_cases hi : i < l.length
  · rw [h i l[i] (by simp [hi])]; simp [hi]
  · rw [List.getElem?_eq_none (by omega), List.getElem?_eq_none (by omega)]
section
variable {H : Type} {enc : TypeId × Value → H} {W : World} {spare : Nat → Bool} {held : Bool}
theorem ft_open (n : Nat) (cs : List Value) (y : DataW H × List MemPlace) (h : DataW.trod enc Tryd.prog W 0 spare held n 39 cs = some y) : ∃ x : FT, cs = cFT x ∧ okX (Rows.uptoBulk y.1) x.name := by
  obtain ⟨f0, f1, f2, f3, f4, f5, f6, hs, hone, hsz, t0, t1, t2, t3, t4, t5, t6⟩ := fieldsF
  obtain ⟨xs, m, hy, hxl, hcl, hi⟩ := struct_open hs hone hsz h
  obtain ⟨v0, y0, c0, x0, h0⟩ := hi 0 f0 rfl
  rw [t0] at h0
  obtain ⟨v1, y1, c1, x1, h1⟩ := hi 1 f1 rfl
  rw [t1] at h1
  obtain ⟨v2, y2, c2, x2, h2⟩ := hi 2 f2 rfl
  rw [t2] at h2
  obtain ⟨v3, y3, c3, x3, h3⟩ := hi 3 f3 rfl
  rw [t3] at h3
  obtain ⟨v4, y4, c4, x4, h4⟩ := hi 4 f4 rfl
  rw [t4] at h4
  obtain ⟨v5, y5, c5, x5, h5⟩ := hi 5 f5 rfl
  rw [t5] at h5
  obtain ⟨v6, y6, c6, x6, h6⟩ := hi 6 f6 rfl
  rw [t6] at h6
  obtain ⟨a0, rfl, k0⟩ := str_open h0
  obtain ⟨a1, rfl, k1⟩ := int_open h1
  obtain ⟨a2, rfl, k2⟩ := int_open h2
  obtain ⟨a3, rfl, k3⟩ := int_open h3
  obtain ⟨a4, rfl, k4⟩ := int_open h4
  obtain ⟨a5, rfl, k5⟩ := int_open h5
  obtain ⟨a6, rfl, k6⟩ := int_open h6
  refine ⟨⟨a0, a1, a2, a3, a4, a5, a6⟩, list_eq _ (by rw [hcl]; rfl) fun i v hv => ?_, k0.1, ?_⟩
  · match i, hv with
    | 0, hv => simp [cFT] at hv; subst hv; exact c0
    | 1, hv => simp [cFT] at hv; subst hv; exact c1
    | 2, hv => simp [cFT] at hv; subst hv; exact c2
    | 3, hv => simp [cFT] at hv; subst hv; exact c3
    | 4, hv => simp [cFT] at hv; subst hv; exact c4
    | 5, hv => simp [cFT] at hv; subst hv; exact c5
    | 6, hv => simp [cFT] at hv; subst hv; exact c6
    | i + 7, hv => simp [cFT] at hv
  · have := bulk_get x0
    rw [hy]
    have := k0.2
    dsimp only
    omega
theorem sy_open (n : Nat) (cs : List Value) (y : DataW H × List MemPlace) (h : DataW.trod enc Tryd.prog W 0 spare held n 56 cs = some y) : ∃ x : SY, cs = cSY x ∧ (okX (Rows.uptoBulk y.1) x.name ∧ I64 x.num) := by
  obtain ⟨f0, f1, hs, hone, hsz, t0, t1⟩ := fieldsS
  obtain ⟨xs, m, hy, hxl, hcl, hi⟩ := struct_open hs hone hsz h
  obtain ⟨v0, y0, c0, x0, h0⟩ := hi 0 f0 rfl
  rw [t0] at h0
  obtain ⟨v1, y1, c1, x1, h1⟩ := hi 1 f1 rfl
  rw [t1] at h1
  obtain ⟨a0, rfl, k0⟩ := str_open h0
  obtain ⟨a1, rfl, k1⟩ := int_open h1
  refine ⟨⟨a0, a1⟩, list_eq _ (by rw [hcl]; rfl) fun i v hv => ?_, ⟨k0.1, ?_⟩, k1⟩
  · match i, hv with
    | 0, hv => simp [cSY] at hv; subst hv; exact c0
    | 1, hv => simp [cSY] at hv; subst hv; exact c1
    | i + 2, hv => simp [cSY] at hv
  · have := bulk_get x0
    rw [hy]
    have := k0.2
    dsimp only
    omega
theorem rg_open (n : Nat) (cs : List Value) (y : DataW H × List MemPlace) (h : DataW.trod enc Tryd.prog W 0 spare held n 97 cs = some y) : ∃ x : RG, cs = cRG x ∧ True := by
  obtain ⟨f0, f1, hs, hone, hsz, t0, t1⟩ := fieldsR
  obtain ⟨xs, m, hy, hxl, hcl, hi⟩ := struct_open hs hone hsz h
  obtain ⟨v0, y0, c0, x0, h0⟩ := hi 0 f0 rfl
  rw [t0] at h0
  obtain ⟨v1, y1, c1, x1, h1⟩ := hi 1 f1 rfl
  rw [t1] at h1
  obtain ⟨a0, rfl, k0⟩ := int_open h0
  obtain ⟨a1, rfl, k1⟩ := int_open h1
  refine ⟨⟨a0, a1⟩, list_eq _ (by rw [hcl]; rfl) fun i v hv => ?_, trivial⟩
  match i, hv with
  | 0, hv => simp [cRG] at hv; subst hv; exact c0
  | 1, hv => simp [cRG] at hv; subst hv; exact c1
  | i + 2, hv => simp [cRG] at hv
theorem st_open (n : Nat) (cs : List Value) (y : DataW H × List MemPlace) (h : DataW.trod enc Tryd.prog W 0 spare held n 9 cs = some y) : ∃ x : List Int, cs = cN x ∧ okX (Rows.uptoBulk y.1) x := by
  obtain ⟨s, e, _⟩ := DataW.trod_string Tryd.underlying9 h
  subst e
  obtain ⟨x, e, k⟩ := str_open h
  exact ⟨x, by rw [e]; rfl, k⟩
theorem fieldsB : ∃ f0, Tryd.prog.underlying 24 = some (.struct #[f0]) ∧ oneCellFields Tryd.prog #[f0] = true ∧ Tryd.prog.cellsOf 24 = 1 ∧ Tryd.prog.underlying f0.type = some (.slice 62) :=
  ⟨_, Tryd.underlying24, by kernel_rfl, by kernel_rfl, by kernel_rfl⟩
end
end Go.Proofs.YtbiohlfcikdldaaDoor
namespace Go.Proofs.YtbiohlfcikdldaaDoor
open Go.ChangeShapes Go.WideShapes Go.ChangeAt Go.RowKit
set_option maxRecDepth 1000000
set_option maxRecDepth 100000
/-- The rows' list. -/
def laidL : List (String × DataW Unit) := [("unicode/utf8.acceptRanges", Rows.laid_unicode_utf8_acceptRanges), ("unicode/utf8.first", Rows.laid_unicode_utf8_first)]
theorem laid_plain {W : World} (h : laidMetH Tryd.prog laidL W) : laidMet Tryd.prog laidL W := h
/-- A block's cells laid anew. -/
noncomputable def layAt (g : Nat) (cs : Array Value) (w : World) : World := { w with heap := w.heap.modify g fun
      | .cells _ t frozen => .cells cs t frozen
      | o => o }
def numV : DataW Unit → Value
  | .lit (.int k n) => .int k n
  | _ => undef
def rowV : DataW Unit → List Value
  | .agg ds => ds.map numV
  | _ => []
def rowsV : DataW Unit → List Value
  | .agg ds => ds.flatMap rowV
  | _ => []
noncomputable def laidWorld (os : Os) : World :=
  layAt 2 (List.toArray (rowsV Rows.laid_unicode_utf8_acceptRanges)) (layAt 1 (List.toArray (rowV Rows.laid_unicode_utf8_first)) (World.holding Tryd.prog os ⟨#[], #[], []⟩))
theorem laid_met (os : Os) (args : Array Value) : laidMet Tryd.prog laidL ((laidWorld os).forCall (fun _ _ => 0) ⟨#[], args, []⟩).memory :=
  laidMet_of_run' 8 (by kernel_rfl) (by kernel_rfl)
theorem maxLen_cell {W : World} (h : W.ShapedOpen Tryd.prog) : ∃ m, W.cell? ⟨0, 0, none⟩ = some (.int .i64 m) :=
  Go.Proofs.cell_of_shapedOpen_int (zero := #[.int .i64 0]) (t := 3) h (of_decide_eq_true (by kernel_rfl)) (by kernel_rfl) rfl (by kernel_rfl) (by kernel_rfl) Tryd.underlying3
end Go.Proofs.YtbiohlfcikdldaaDoor
namespace Go.Proofs.YtbiohlfcikdldaaDoor
open Go.RowKit
set_option maxRecDepth 1000000
set_option linter.unusedVariables false
set_option linter.unusedSimpArgs false
set_option maxHeartbeats 1000000
/-- Is there a type of that sort at an index of a good table? -/
def isB (l : List TV) (idx : Int) (sort : Bool) : Bool := goodB l && (decide (0 ≤ idx) && (match l[idx.toNat]? with | some x => x.t.enum == sort | none => false))
theorem typeAtNo (w : World) (l : List TV) (ta : Option Addr) (tc : Nat) (h : TbR w (.slice ta l.length tc) l) (hk : ∀ x ∈ l, OkV x) (m : Int) (hm : w.cell? ⟨0, 0, none⟩ = some (.int .i64 m)) (idx : Int) (sort : Bool) (hno : isB l idx sort = false) : Calls Tryd.prog 31 #[.agg #[.slice ta l.length tc], .int .i64 idx, .bool sort] w fun e w' => e = .returned (.tuple #[.agg #[.string ⟨#[]⟩, .bool false, .slice none 0 0, .slice none 0 0, .slice none 0 0, .slice none 0 0], .int .i64 18]) ∧ Below w.heap.size w w' := by
  obtain ⟨_, _, e, hn⟩ := rowS_sl h.row
  clear e
  have h63 : (l.length : Int) ≤ 9223372036854775807 := by omega
  have HGC : Hid (∀ W, Below w.heap.size w W → Calls Tryd.prog 10 #[.agg #[.slice ta l.length tc]] W fun e w' => e = .returned (.bool (goodB l)) ∧ Below W.heap.size W w') := hid fun W hW => goodT W l ta tc (h.kept hW) hk m (cell_below hm hW)
  unfold isB at hno
  cases q : goodB l with
  | false =>
    rw [q] at HGC
    clear h hk hm hno
    go_enter Tryd.func31, Tryd.ntmps31
    go_wp2_with fail
    refine (HGC.out _ (by exact blBy)).mono ?_
    rintro e w1 ⟨rfl, hb1⟩
    have Ba : Blk w1 w.heap.size 24 #[.slice ta l.length tc] := ((Blk.new _ _ _).kept (below_alloc _)).kept hb1
    have Br : Blk w1 (w.heap.size + 1) 62 #[.string ⟨#[]⟩, .bool false, .slice none 0 0, .slice none 0 0, .slice none 0 0, .slice none 0 0] := (Blk.newAt (by simp)).kept hb1
    replace hb1 : Hid (Below w.heap.size w w1) := hid (bl_then (by exact blBy) hb1)
    have xa := Ba.cellF
    have ya := Ba.frz
    have za := Ba.lt
    have xr := Br.cellF
    have yr := Br.frz
    have zr := Br.lt
    go_wp2
    exact bodyPost_ret (v := .tuple #[.agg #[.string ⟨#[]⟩, .bool false, .slice none 0 0, .slice none 0 0, .slice none 0 0, .slice none 0 0], .int .i64 18]) (by simp [results, Tryd.results31, go_sem, xr, zr, yr]) rfl ⟨rfl, by have := hb1.out; exact blBy⟩
  | true =>
  rw [q] at HGC hno
  by_cases r1 : idx < 0
  case pos =>
    have r2 : (idx < 0) = True := eq_true r1
    clear h hk hm hno r1
    go_enter Tryd.func31, Tryd.ntmps31
    go_wp2_with fail
    refine (HGC.out _ (by exact blBy)).mono ?_
    rintro e w1 ⟨rfl, hb1⟩
    have Ba : Blk w1 w.heap.size 24 #[.slice ta l.length tc] := ((Blk.new _ _ _).kept (below_alloc _)).kept hb1
    have Br : Blk w1 (w.heap.size + 1) 62 #[.string ⟨#[]⟩, .bool false, .slice none 0 0, .slice none 0 0, .slice none 0 0, .slice none 0 0] := (Blk.newAt (by simp)).kept hb1
    replace hb1 : Hid (Below w.heap.size w w1) := hid (bl_then (by exact blBy) hb1)
    have xa := Ba.cellF
    have ya := Ba.frz
    have za := Ba.lt
    have xr := Br.cellF
    have yr := Br.frz
    have zr := Br.lt
    go_wp2
    exact bodyPost_ret (v := .tuple #[.agg #[.string ⟨#[]⟩, .bool false, .slice none 0 0, .slice none 0 0, .slice none 0 0, .slice none 0 0], .int .i64 18]) (by simp [results, Tryd.results31, go_sem, xr, zr, yr]) rfl ⟨rfl, by have := hb1.out; exact blBy⟩
  by_cases r3 : (l.length : Int) ≤ idx
  case pos =>
    have r2 : (idx < 0) = False := eq_false r1
    have r4 : ((l.length : Int) ≤ idx) = True := eq_true r3
    clear h hk hm hno r1 r3
    go_enter Tryd.func31, Tryd.ntmps31
    go_wp2_with fail
    refine (HGC.out _ (by exact blBy)).mono ?_
    rintro e w1 ⟨rfl, hb1⟩
    have Ba : Blk w1 w.heap.size 24 #[.slice ta l.length tc] := ((Blk.new _ _ _).kept (below_alloc _)).kept hb1
    have Br : Blk w1 (w.heap.size + 1) 62 #[.string ⟨#[]⟩, .bool false, .slice none 0 0, .slice none 0 0, .slice none 0 0, .slice none 0 0] := (Blk.newAt (by simp)).kept hb1
    replace hb1 : Hid (Below w.heap.size w w1) := hid (bl_then (by exact blBy) hb1)
    have xa := Ba.cellF
    have ya := Ba.frz
    have za := Ba.lt
    have xr := Br.cellF
    have yr := Br.frz
    have zr := Br.lt
    go_wp2
    exact bodyPost_ret (v := .tuple #[.agg #[.string ⟨#[]⟩, .bool false, .slice none 0 0, .slice none 0 0, .slice none 0 0, .slice none 0 0], .int .i64 18]) (by simp [results, Tryd.results31, go_sem, xr, zr, yr]) rfl ⟨rfl, by have := hb1.out; exact blBy⟩
  obtain ⟨k, rfl⟩ := Int.eq_ofNat_of_zero_le (show 0 ≤ idx by omega)
  have hkl : k < l.length := by omega
  obtain ⟨tb, tof, rfl, hbl, -, c1, -⟩ := row6 h.row hkl
  have hne : (l[k].t.enum == sort) = false := by simpa [hkl] using hno
  have r2 : ((k : Int) < 0) = False := eq_false r1
  have r4 : ((l.length : Int) ≤ (k : Int)) = False := eq_false r3
  have r5 : (k : Int) < (l.length : Int) := by omega
  clear h hk hm hno r1 r3
  generalize l[k].t.enum = en at *
  cases en with
  | true =>
    cases sort with
    | true =>
      cases hne
    | false =>
      go_enter Tryd.func31, Tryd.ntmps31
      go_wp2_with fail
      refine (HGC.out _ (by exact blBy)).mono ?_
      rintro e w1 ⟨rfl, hb1⟩
      have Ba : Blk w1 w.heap.size 24 #[.slice (some ⟨tb, tof, none⟩) l.length tc] := ((Blk.new _ _ _).kept (below_alloc _)).kept hb1
      have Br : Blk w1 (w.heap.size + 1) 62 #[.string ⟨#[]⟩, .bool false, .slice none 0 0, .slice none 0 0, .slice none 0 0, .slice none 0 0] := (Blk.newAt (by simp)).kept hb1
      replace hb1 : Hid (Below w.heap.size w w1) := hid (bl_then (by exact blBy) hb1)
      have d1 := cell_below c1 hb1.out
      have hbl1 : tb < w1.heap.size := World.block_lt_of_cell? _ _ d1
      clear c1
      have xa := Ba.cellF
      have ya := Ba.frz
      have za := Ba.lt
      have xr := Br.cellF
      have yr := Br.frz
      have zr := Br.lt
      go_wp2
      exact bodyPost_ret (v := .tuple #[.agg #[.string ⟨#[]⟩, .bool false, .slice none 0 0, .slice none 0 0, .slice none 0 0, .slice none 0 0], .int .i64 18]) (by simp [results, Tryd.results31, go_sem, xr, zr, yr]) rfl ⟨rfl, by have := hb1.out; exact blBy⟩
  | false =>
    cases sort with
    | true =>
      go_enter Tryd.func31, Tryd.ntmps31
      go_wp2_with fail
      refine (HGC.out _ (by exact blBy)).mono ?_
      rintro e w1 ⟨rfl, hb1⟩
      have Ba : Blk w1 w.heap.size 24 #[.slice (some ⟨tb, tof, none⟩) l.length tc] := ((Blk.new _ _ _).kept (below_alloc _)).kept hb1
      have Br : Blk w1 (w.heap.size + 1) 62 #[.string ⟨#[]⟩, .bool false, .slice none 0 0, .slice none 0 0, .slice none 0 0, .slice none 0 0] := (Blk.newAt (by simp)).kept hb1
      replace hb1 : Hid (Below w.heap.size w w1) := hid (bl_then (by exact blBy) hb1)
      have d1 := cell_below c1 hb1.out
      have hbl1 : tb < w1.heap.size := World.block_lt_of_cell? _ _ d1
      clear c1
      have xa := Ba.cellF
      have ya := Ba.frz
      have za := Ba.lt
      have xr := Br.cellF
      have yr := Br.frz
      have zr := Br.lt
      go_wp2
      exact bodyPost_ret (v := .tuple #[.agg #[.string ⟨#[]⟩, .bool false, .slice none 0 0, .slice none 0 0, .slice none 0 0, .slice none 0 0], .int .i64 18]) (by simp [results, Tryd.results31, go_sem, xr, zr, yr]) rfl ⟨rfl, by have := hb1.out; exact blBy⟩
    | false =>
      cases hne
end Go.Proofs.YtbiohlfcikdldaaDoor
