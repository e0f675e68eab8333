/-
  A name cut at its dots.
  A full name: its names, and how many.
  The names ahead, in a map.
  What is around a type.
  A table is good: what the program answers.
  A type by its name: both answers.
  The table of the examples.
  A type at its index, where it is a message of a good table.
  A type at its index, where there is none of that sort.
  A field by its number: where there is none; a field in memory of its own.
  A field by its number: what the program answers.
  What a field takes an entry as: what the program answers.
  Takes, Named: what the program answers.
-/
import Derived.Test.YtnfdlnelfnigdaaGreatDoorCAH
import Derived.Test.YtnfdlnelfnigdaaGreatDoorShelf
namespace Go.Proofs.YtnfdlnelfnigdaaGreatDoor
open Go.RowKit
set_option maxRecDepth 1000000
set_option linter.unusedVariables false
set_option linter.unusedSimpArgs false
set_option maxHeartbeats 1000000
def cut8 : List UInt8 → List (List UInt8)
  | [] => [[]]
  | c :: r => if c = 46 then [] :: cut8 r else (c :: (cut8 r).headD []) :: (cut8 r).tail
theorem split_cut8 : ∀ l : List UInt8, Lib.splitK [46] 0 (Lib.count l [46]) l = cut8 l
  | [] => by rfl
  | c :: r => by
    have ih := split_cut8 r
    rw [cut8]
    by_cases h : c = 46
    · subst h
      rw [if_pos rfl, Lib.count_cons_eq, Nat.add_comm, Lib.splitK, Lib.index_one, Lib.indexByte]
      simp [ih]
    · rw [if_neg h, Lib.count_cons_ne c 46 r h, ← ih]
      cases hn : Lib.count r [46] with
      | zero => simp [Lib.splitK]
      | succ k =>
        have hi : Lib.indexByte r 46 ≠ -1 := fun e => by
          rw [← Lib.index_one] at e
          rw [Lib.count_miss e] at hn
          cases hn
        have hg := Lib.indexByte_ge r 46
        obtain ⟨i, hi2⟩ : ∃ i : Nat, Lib.indexByte r 46 = i := ⟨(Lib.indexByte r 46).toNat, by omega⟩
        have hx : Lib.indexByte (c :: r) 46 = ((i + 1 : Nat) : Int) := by
          rw [Lib.indexByte, if_neg (by simpa using h), hi2, if_neg (by simp)]; omega
        rw [Lib.splitK, Lib.splitK, Lib.index_one, Lib.index_one, hx, hi2, if_neg (by simp; try omega), if_neg (by simp)]
        simp
def cutI : List Int → List (List Int)
  | [] => [[]]
  | c :: r => if c = 46 then [] :: cutI r else (c :: (cutI r).headD []) :: (cutI r).tail
def b8 (n : Int) : UInt8 := UInt8.ofNat n.toNat
theorem b8_dot {c : Int} (h : 0 ≤ c ∧ c ≤ 255) : b8 c = 46 ↔ c = 46 := by
  constructor
  · intro e
    have h2 := congrArg UInt8.toNat e
    simp only [b8, UInt8.toNat_ofNat'] at h2
    have : (46 : UInt8).toNat = 46 := rfl
    omega
  · intro e; subst e; rfl
theorem cutI_ne : ∀ l : List Int, ∃ p q, cutI l = p :: q
  | [] => ⟨_, _, rfl⟩
  | c :: r => by rw [cutI]; split <;> exact ⟨_, _, rfl⟩
theorem cut8_I : ∀ l : List Int, (∀ c ∈ l, 0 ≤ c ∧ c ≤ 255) → cut8 (l.map b8) = (cutI l).map (·.map b8)
  | [], _ => rfl
  | c :: r, h => by
    have ih := cut8_I r (fun c hc => h c (by simp [hc]))
    have hd := b8_dot (h c (by simp))
    rw [List.map_cons, cut8, cutI, ih]
    by_cases e : c = 46
    · rw [if_pos (hd.2 e), if_pos e]; rfl
    · rw [if_neg (fun q => e (hd.1 q)), if_neg e]
      obtain ⟨p, q, e2⟩ := cutI_ne r
      rw [e2]
      rfl
theorem cutI_mem : ∀ (l : List Int) (p : List Int), p ∈ cutI l → (∀ c ∈ p, c ∈ l) ∧ p.length ≤ l.length
  | [], p, h => by
    rw [cutI] at h
    simp at h
    subst h
    simp
  | c :: r, p, h => by
    have ih := cutI_mem r
    obtain ⟨x, y, e⟩ := cutI_ne r
    rw [cutI, e] at h
    rw [e] at ih
    split at h
    · rcases List.mem_cons.1 h with rfl | h
      · simp
      · obtain ⟨h1, h2⟩ := ih p h
        exact ⟨fun d hd => List.mem_cons_of_mem _ (h1 d hd), by simp; omega⟩
    · simp only [List.headD_cons, List.tail_cons] at h
      rcases List.mem_cons.1 h with rfl | h
      · obtain ⟨h1, h2⟩ := ih x (by simp)
        refine ⟨fun d hd => ?_, by simp; omega⟩
        rcases List.mem_cons.1 hd with rfl | hd
        · simp
        · exact List.mem_cons_of_mem _ (h1 d hd)
      · obtain ⟨h1, h2⟩ := ih p (List.mem_cons_of_mem _ h)
        exact ⟨fun d hd => List.mem_cons_of_mem _ (h1 d hd), by simp; omega⟩
theorem cutI_len : ∀ l : List Int, (cutI l).length = l.count 46 + 1
  | [] => rfl
  | c :: r => by
    have ih := cutI_len r
    obtain ⟨x, y, e⟩ := cutI_ne r
    rw [cutI, e]
    rw [e] at ih
    rw [List.count_cons]
    by_cases h : c = 46
    · subst h; simp at ih ⊢; omega
    · rw [if_neg h]; simp [h] at ih ⊢; omega
theorem str_data (xs : List Int) : (strOfNums xs).data.toList = xs.map b8 := by simp [strOfNums, b8]
def dotS : ByteArray := ⟨#[46]⟩
theorem count8 : ∀ l : List Int, (∀ c ∈ l, 0 ≤ c ∧ c ≤ 255) → (l.map b8).count 46 = l.count 46
  | [], _ => rfl
  | c :: r, h => by
    have hd := b8_dot (h c (by simp))
    rw [List.map_cons, List.count_cons, List.count_cons, count8 r (fun c hc => h c (by simp [hc]))]
    by_cases e : c = 46
    · rw [hd.2 e, e]; rfl
    · have : b8 c ≠ 46 := fun q => e (hd.1 q)
      simp [e, this]
theorem countB_dot (xs : List Int) (h : ∀ c ∈ xs, 0 ≤ c ∧ c ≤ 255) : Lib.countB (strOfNums xs) dotS = xs.count 46 := by
  unfold Lib.countB
  rw [show dotS.data.toList = [46] from rfl, Lib.count_one, str_data, count8 xs h]
theorem splitB_dot (xs : List Int) (h : ∀ c ∈ xs, 0 ≤ c ∧ c ≤ 255) : Lib.splitB dotS 0 (Lib.countB (strOfNums xs) dotS) (strOfNums xs) = (cutI xs).map strOfNums := by
  have e := Lib.splitB_data dotS 0 (Lib.countB (strOfNums xs) dotS) (strOfNums xs)
  have e2 : Lib.splitK dotS.data.toList 0 (Lib.countB (strOfNums xs) dotS) (strOfNums xs).data.toList = (cutI xs).map (·.map b8) := by
    unfold Lib.countB
    rw [show dotS.data.toList = [46] from rfl, split_cut8, str_data, cut8_I xs h]
  rw [e2] at e
  have inj : ∀ a b : List ByteArray, a.map (fun s => s.data.toList) = b.map (fun s => s.data.toList) → a = b := by
    intro a
    induction a with
    | nil => intro b h; cases b with
      | nil => rfl
      | cons _ _ => simp at h
    | cons x r ih => intro b h; cases b with
      | nil => simp at h
      | cons y s =>
        simp only [List.map_cons, List.cons.injEq] at h
        rw [ih s h.2]
        congr 1
        apply ByteArray.ext; apply Array.ext'; exact h.1
  apply inj
  rw [e, List.map_map]
  apply List.map_congr_left
  intro p _
  exact (str_data p).symm
def fullB (t : TT) : Bool := decide (t.name.count 46 < (if t.enum = true then 9 else 8)) && (cutI t.name).all nmB
theorem splitT (xs : List Int) (m : Int) (w : World) (hs : xs.length < 4294967281) (hb : ∀ c ∈ xs, 0 ≤ c ∧ c ≤ 255) (hm : w.cell? ⟨0, 0, none⟩ = some (.int .i64 m)) : Calls Tryz.prog 137 #[.string (strOfNums xs), .string dotS] w fun e w' => ∃ a c, e = .returned (.slice a (cutI xs).length c) ∧ RowS w' AnyZ 1 (.slice a (cutI xs).length c) (cutI xs).length ((cutI xs).flatMap cN) ∧ Below w.heap.size w w' := by
  refine (Tryz.strings_Split (strOfNums xs) dotS m w (by rw [strOfNums_size]; exact hs) hm (by decide)).mono ?_
  rintro e w' ⟨rfl, rfl⟩
  have hc := cutI_len xs
  rw [splitB_dot xs hb, countB_dot xs hb]
  refine ⟨some ⟨w.heap.size, 0, none⟩, xs.count 46 + 1, by rw [hc], ⟨some ⟨w.heap.size, 0, none⟩, xs.count 46 + 1, rfl, ⟨flatM_len (k := 1) (fun _ => rfl) _, by omega, by have := List.count_le_length (a := (46 : Int)) (l := xs); omega, .inr ⟨w.heap.size, 0, rfl, trivial, fun j u hu => ?_⟩⟩⟩, below_alloc _⟩
  rw [Nat.zero_add]
  refine (Blk.new w 9 _).cell j u ?_
  have e2 : ∀ l : List (List Int), l.flatMap cN = (l.map strOfNums).map Value.string := by
    intro l
    induction l with
    | nil => rfl
    | cons x r ih => rw [List.flatMap_cons, ih]; rfl
  rw [e2] at hu
  simpa using hu
theorem countT (xs : List Int) (w : World) (hb : ∀ c ∈ xs, 0 ≤ c ∧ c ≤ 255) : Calls Tryz.prog 135 #[.string (strOfNums xs), .string dotS] w fun e w' => e = .returned (.int .i64 (xs.count 46 : Nat)) ∧ w = w' := by
  refine (Tryz.strings_Count_one (strOfNums xs) 46 w).mono ?_
  rintro e w' ⟨rfl, rfl⟩
  unfold Lib.countByte
  rw [str_data, count8 xs hb]
  exact ⟨rfl, rfl⟩
theorem isFullNameT (w : World) (t : TT) (v1 v2 v3 v4 : Value) (m : Int) (hm : w.cell? ⟨0, 0, none⟩ = some (.int .i64 m)) (ht : ∀ c ∈ t.name, 0 ≤ c ∧ c ≤ 255) (hl : t.name.length < 4294967281) : Calls Tryz.prog 108 #[.agg #[.string (strOfNums t.name), .bool t.enum, v1, v2, v3, v4]] w fun e w' => e = .returned (.bool (fullB t)) ∧ Below w.heap.size w w' := by
  have HX : Hid (fullB t = (decide (t.name.count 46 < (if t.enum = true then 9 else 8)) && (cutI t.name).all nmB)) := hid rfl
  have hcl : t.name.count 46 < 4294967281 := Nat.lt_of_le_of_lt List.count_le_length hl
  have HM := hid hm
  have HT := hid ht
  have HL := hid hl
  have HS : Hid (∀ W, Below w.heap.size w W → Calls Tryz.prog 137 #[.string (strOfNums t.name), .string dotS] W fun e w' => ∃ a c, e = .returned (.slice a (cutI t.name).length c) ∧ RowS w' AnyZ 1 (.slice a (cutI t.name).length c) (cutI t.name).length ((cutI t.name).flatMap cN) ∧ Below W.heap.size W w') := hid fun W hW => splitT t.name m W HL.out HT.out (cell_below HM.out hW)
  have HC : Hid (∀ W, Calls Tryz.prog 135 #[.string (strOfNums t.name), .string dotS] W fun e w' => e = .returned (.int .i64 (t.name.count 46 : Nat)) ∧ W = w') := hid fun W => countT t.name W HT.out
  have HP : Hid (∀ x ∈ cutI t.name, TxA x) := hid fun x hx => ⟨fun c hc => HT.out c ((cutI_mem _ _ hx).1 c hc), by have := (cutI_mem _ _ hx).2; have := HL.out; omega⟩
  clear hm ht hl HT HL HM
  generalize hk : t.name.count 46 = k at *
  clear hk
  cases q : t.enum with
  | true =>
    rw [q] at HX
    by_cases h0 : k < 9
    case neg =>
      replace HX := hid (show fullB t = false by rw [HX.out, if_pos rfl, decide_eq_false h0]; rfl)
      have k0 : ¬ (k : Int) < 9 := by omega
      go_enter Tryz.func108, Tryz.ntmps108
      go_wp2_with (first | (go_at_call 135; refine (HC.out _).mono ?_; rintro e w1 ⟨rfl, rfl⟩))
      go_ret
      exact ⟨ret_bool HX.out.symm, by exact blBy⟩
    replace HX := hid (show fullB t = (cutI t.name).all nmB by rw [HX.out, if_pos rfl, decide_eq_true h0]; rfl)
    have k0 : (k : Int) < 9 := by omega
    go_enter Tryz.func108, Tryz.ntmps108
    go_wp2_with (first | (go_at_call 135; refine (HC.out _).mono ?_; rintro e w1 ⟨rfl, rfl⟩) | (go_at_call 137; refine (HS.out _ (by exact blBy)).mono ?_; rintro e w2 ⟨a2, c2, rfl, hr2, hb2⟩; replace hb2 : Hid (Below w.heap.size w w2) := hid (bl_then (by exact blBy) hb2); replace hr2 := hid hr2) | (go_at_call 136; refine (areNamesT _ _ _ _ _ hr2.out HP.out).mono ?_; rintro e w3 ⟨rfl, rfl⟩))
    go_ret
    exact ⟨ret_bool HX.out.symm, by have := hb2.out; exact blBy⟩
  | false =>
    rw [q] at HX
    by_cases h0 : k < 8
    case neg =>
      replace HX := hid (show fullB t = false by rw [HX.out, if_neg (by simp), decide_eq_false h0]; rfl)
      have k0 : ¬ (k : Int) < 8 := by omega
      go_enter Tryz.func108, Tryz.ntmps108
      go_wp2_with (first | (go_at_call 135; refine (HC.out _).mono ?_; rintro e w1 ⟨rfl, rfl⟩))
      go_ret
      exact ⟨ret_bool HX.out.symm, by exact blBy⟩
    replace HX := hid (show fullB t = (cutI t.name).all nmB by rw [HX.out, if_neg (by simp), decide_eq_true h0]; rfl)
    have k0 : (k : Int) < 8 := by omega
    go_enter Tryz.func108, Tryz.ntmps108
    go_wp2_with (first | (go_at_call 135; refine (HC.out _).mono ?_; rintro e w1 ⟨rfl, rfl⟩) | (go_at_call 137; refine (HS.out _ (by exact blBy)).mono ?_; rintro e w2 ⟨a2, c2, rfl, hr2, hb2⟩; replace hb2 : Hid (Below w.heap.size w w2) := hid (bl_then (by exact blBy) hb2); replace hr2 := hid hr2) | (go_at_call 136; refine (areNamesT _ _ _ _ _ hr2.out HP.out).mono ?_; rintro e w3 ⟨rfl, rfl⟩))
    go_ret
    exact ⟨ret_bool HX.out.symm, by have := hb2.out; exact blBy⟩
theorem litS_inj {x y : List Int} (hx : TxA x) (hy : TxA y) (h : litS x = litS y) : x = y := by
  unfold litS at h
  refine strOfNums_inj x y hx.1 hy.1 ?_
  apply ByteArray.ext
  apply Array.ext'
  injection h
def named (l : List TV) (x : List Int) : Bool := l.any (fun v => v.t.name == x)
/-- Block b is a map of the names of l's first i types, each to its index. -/
def Kn (w : World) (b : Nat) (l : List TV) (i : Nat) : Prop := ∃ D : DataW Unit, w.ownsMap Tryz.prog 9 (plainElem Tryz.prog 3) b i D ∧ Go.Maps.IsMap D ∧ ∀ x, TxA x → Go.Maps.has D (litS x) = named (l.take i) x ∧ ∀ j (hj : j < l.length), j < i → l[j].t.name = x → D.atKey (litS x) (.lit (.int .i64 0)) = .lit (.int .i64 j)
theorem wfI {i : Nat} (h : i < 128) : (Lit.int .i64 (i : Int)).wf = true := by
  simp [Lit.wf, IntKind.min, IntKind.max, IntKind.signed, IntKind.bits]
  omega
theorem Kn.kept {w w' : World} {b : Nat} {l : List TV} {i : Nat} (h : Kn w b l i) (hb : Below w.heap.size w w') : Kn w' b l i := by
  obtain ⟨D, h1, h2, h3⟩ := h
  exact ⟨D, h1.kept (below_grown hb) (by simp), h2, h3⟩
theorem Kn.lt {w : World} {b : Nat} {l : List TV} {i : Nat} (h : Kn w b l i) : b < w.heap.size := by
  obtain ⟨D, h1, _⟩ := h
  exact h1.lt
theorem Kn.new (w : World) (l : List TV) : Kn (w.alloc (.map #[] 0)) w.heap.size l 0 := by
  refine ⟨_, World.ownsMap_made _ _ _ _, ⟨[], rfl⟩, fun x hx => ⟨rfl, fun j hj h => by omega⟩⟩
theorem Kn.zero3 (w : World) : (zeroValue 3).run Tryz.prog w = .ok (.int .i64 0) w := by rfl
theorem Kn.look {w : World} {b : Nat} {l : List TV} {i : Nat} (h : Kn w b l i) {x : List Int} (hx : TxA x) : ∃ c, (Instr.lookup 143 (.map (some b)) (.string (strOfNums x)) true).run Tryz.prog w = .ok (.tuple #[.int .i64 c, .bool (named (l.take i) x)]) w ∧ ∀ j (hj : j < l.length), j < i → l[j].t.name = x → c = j := by
  obtain ⟨D, h1, h2, h3⟩ := h
  have hkey : keyOf Tryz.prog 9 (.string (strOfNums x)) = some (litS x) := Go.WideMaps.keyOf_string_mk Tryz.underlying9 (by rw [strOfNums_size]; exact hx.2)
  obtain ⟨v, ps, hrun, hv⟩ := h1.look_ok (Go.Maps.string_keyed Tryz.underlying9) Tryz.underlying143 (Kn.zero3 w) (plainElem_int Tryz.underlying3 (by decide)) hkey
  obtain ⟨c, rfl, hc, hwc⟩ := plainElem_int_inv Tryz.underlying3 hv
  obtain ⟨g1, g2⟩ := h3 x hx
  rw [g1] at hrun
  refine ⟨c, hrun, fun j hj hji e => ?_⟩
  have hc1 := congrArg Prod.fst hc
  have e2 := g2 j hj hji e
  rw [e2] at hc1
  injection hc1 with hc1
  injection hc1 with _ hc1
  exact hc1.symm
theorem Kn.put {w : World} {b : Nat} {l : List TV} {i : Nat} (h : Kn w b l i) (hi : i < l.length) (hs : i < 128) (hx : ∀ v ∈ l, TxA v.t.name) (hn : named (l.take i) l[i].t.name = false) : ∃ w', (Instr.mapUpdate 143 (.map (some b)) (.string (strOfNums l[i].t.name)) (.int .i64 (i : Int))).run Tryz.prog w = .ok () w' ∧ Kn w' b l (i + 1) ∧ w.grownBy w' (some b) := by
  obtain ⟨D, h1, h2, h3⟩ := h
  have hxi := hx _ (List.getElem_mem hi)
  have hkey : keyOf Tryz.prog 9 (.string (strOfNums l[i].t.name)) = some (litS l[i].t.name) := Go.WideMaps.keyOf_string_mk Tryz.underlying9 (by rw [strOfNums_size]; exact hxi.2)
  obtain ⟨w', hrun, ho, hg⟩ := h1.update (val := .int .i64 (i : Int)) (Go.Maps.string_keyed Tryz.underlying9) Tryz.underlying143 (by unfold maxLen; omega) hkey (plainElem_int Tryz.underlying3 (wfI (by omega)))
  refine ⟨w', hrun, ⟨_, ho, ?_, fun x hx2 => ?_⟩, hg⟩
  · obtain ⟨es, rfl⟩ := h2; exact ⟨_, rfl⟩
  · obtain ⟨g1, g2⟩ := h3 x hx2
    have htk : l.take (i + 1) = l.take i ++ [l[i]] := List.take_succ_eq_append_getElem hi
    by_cases e : x = l[i].t.name
    · subst e
      refine ⟨?_, fun j hj hji ej => ?_⟩
      · rw [Go.Maps.has_put_same h2 (by unfold litS; trivial), htk]
        unfold named
        rw [List.any_append]
        simp
      · rw [Go.Maps.atKey_put_same h2 (by unfold litS; trivial)]
        by_cases e3 : j = i
        · subst e3; rfl
        · exfalso
          have : named (l.take i) l[i].t.name = true := by
            unfold named
            rw [List.any_eq_true]
            refine ⟨l[j], ?_, by simp [ej]⟩
            rw [List.mem_take_iff_getElem]
            exact ⟨j, by omega, rfl⟩
          rw [hn] at this
          cases this
    · have hne : litS x ≠ litS l[i].t.name := fun q => e (litS_inj hx2 hxi q)
      refine ⟨?_, fun j hj hji ej => ?_⟩
      · rw [Go.Maps.has_put_other hne, g1, htk]
        have e4 : ¬ l[i].t.name = x := fun q => e q.symm
        unfold named
        rw [List.any_append]
        simp [e4]
      · rw [Go.Maps.atKey_put_other hne]
        refine g2 j hj ?_ ej
        have : j ≠ i := fun q => e (by subst q; exact ej.symm)
        omega
def lastD (x : List Int) : Int := Lib.lastIndexByte (strOfNums x) 46
theorem lastD_is (x : List Int) : lastD x = -1 ∨ ∃ i : Nat, lastD x = i ∧ i < x.length := by
  rcases Lib.lastIndexByte_spec (strOfNums x) 46 with ⟨e, _⟩ | ⟨i, hi, e, _⟩
  · exact .inl e
  · exact .inr ⟨i, e, by rw [strOfNums_size] at hi; exact hi⟩
theorem lastT (x : List Int) (w : World) (h : x.length < 4611686018427387904) : Calls Tryz.prog 138 #[.string (strOfNums x), .string dotS] w fun e w' => e = .returned (.int .i64 (lastD x)) ∧ w = w' := by
  refine (Tryz.strings_LastIndex_one (strOfNums x) dotS rfl (by rw [strOfNums_size]; exact h) w).mono ?_
  rintro e w' ⟨rfl, rfl⟩
  exact ⟨rfl, rfl⟩
def standB (l : List TV) (i : Nat) (x : List Int) : Bool := if lastD x < 0 then true else match (l.take i).find? (fun v => v.t.name == x.take (lastD x).toNat) with
  | none => false
  | some v => !v.t.enum
theorem standsRightT (w : World) (l : List TV) (ta : Option Addr) (tc : Nat) (b i : Nat) (x : List Int) (h : TbR w (.slice ta l.length tc) l) (hk : Kn w b l i) (hx : TxA x) (hl : x.length < 4294967281) : Calls Tryz.prog 109 #[.agg #[.slice ta l.length tc], .map (some b), .string (strOfNums x)] w fun e w' => e = .returned (.bool (standB l i x)) ∧ Below w.heap.size w w' := by
  have HX : Hid (standB l i x = if lastD x < 0 then true else match (l.take i).find? (fun v => v.t.name == x.take (lastD x).toNat) with
  | none => false
  | some v => !v.t.enum) := hid rfl
  have HC : Hid (∀ W, Calls Tryz.prog 138 #[.string (strOfNums x), .string dotS] W fun e w' => e = .returned (.int .i64 (lastD x)) ∧ W = w') := hid fun W => lastT x W (by omega)
  obtain ⟨_, _, e, hn⟩ := rowS_sl h.row
  clear e
  have h1 : (l.length : Int) ≤ 9223372036854775807 := by omega
  have HT := hid h
  have HK := hid hk
  rcases lastD_is x with e | ⟨k, e, hkx⟩
  · rw [e] at HX HC
    replace HX := hid (show standB l i x = true by rw [HX.out]; rfl)
    clear h hk hx
    go_enter Tryz.func109, Tryz.ntmps109
    go_wp2_with (first | (go_at_call 138; refine (HC.out _).mono ?_; rintro e w1 ⟨rfl, rfl⟩))
    go_ret
    exact ⟨ret_bool HX.out.symm, by exact blBy⟩
  rw [e] at HX HC
  have hy : TxA (x.take k) := ⟨fun c hc => hx.1 c (List.mem_of_mem_take hc), by have := hx.2; simp; omega⟩
  have HS : Hid ((strOfNums x).extract 0 k = strOfNums (x.take k)) := hid (by rw [str_cut]; rfl)
  have HSZ : (strOfNums x).size = x.length := strOfNums_size x
  replace HX := hid (show standB l i x = match (l.take i).find? (fun v => v.t.name == x.take k) with
  | none => false
  | some v => !v.t.enum by rw [HX.out, if_neg (by omega)]; rfl)
  have k0 : ¬ (k : Int) < 0 := by omega
  have hkx' : (k : Int) < (x.length : Int) := by omega
  obtain ⟨c, hr, hc⟩ := (HK.out.kept (below_alloc (w := w) (.cells #[.slice ta l.length tc] 46))).look hy
  rw [← HS.out] at hr
  cases hf : (l.take i).find? (fun v => v.t.name == x.take k) with
  | none =>
    have hno : named (l.take i) (x.take k) = false := by
      unfold named
      rw [List.any_eq_false]
      intro v hv
      exact List.find?_eq_none.1 hf v hv
    replace HX := hid (show standB l i x = false by rw [HX.out, hf])
    rw [hno] at hr
    clear h hk hx hno hf hc
    go_enter Tryz.func109, Tryz.ntmps109
    go_wp2_with (first | (go_at_call 138; refine (HC.out _).mono ?_; rintro e w1 ⟨rfl, rfl⟩))
    go_ret
    exact ⟨ret_bool HX.out.symm, by exact blBy⟩
  | some v =>
    have hyes : named (l.take i) (x.take k) = true := by
      unfold named
      rw [List.any_eq_true]
      exact ⟨v, List.mem_of_find?_eq_some hf, by simpa using List.find?_some hf⟩
    obtain ⟨j, hj, ej⟩ := List.mem_take_iff_getElem.1 (List.mem_of_find?_eq_some hf)
    have hjl : j < l.length := by omega
    have hcj : c = (j : Int) := hc j hjl (by omega) (by rw [ej]; simpa using List.find?_some hf)
    subst hcj
    replace HX := hid (show standB l i x = !l[j].t.enum by rw [HX.out, hf, ej])
    rw [hyes] at hr
    have hjl' : (j : Int) < (l.length : Int) := by omega
    obtain ⟨tb, tof, rfl, hbl, -, c1, -⟩ := row6 HT.out.row hjl
    clear h hk hx hyes hf hc ej
    generalize l[j].t.enum = en at *
    go_enter Tryz.func109, Tryz.ntmps109
    go_wp2_with (first | (go_at_call 138; refine (HC.out _).mono ?_; rintro e w1 ⟨rfl, rfl⟩))
    go_ret
    exact ⟨ret_bool HX.out.symm, by exact blBy⟩
/-- What is asked of a table: that its texts and numbers can be. -/
structure OkV (x : TV) : Prop where
  ok : OkT x.t
  nl : x.t.name.length < 4294967281
  sz : x.t.fs.length + x.t.os.length + x.t.rs.length ≤ 9223372036854775807
def stepB (l : List TV) (j : Nat) (t : TT) : Bool := !named (l.take j) t.name && (fullB t && (standB l j t.name && typB l t))
def goodA (l : List TV) : List TV → Nat → Bool
  | [], _ => true
  | x :: r, j => stepB l j x.t && goodA l r (j + 1)
def goodB (l : List TV) : Bool := decide (l.length ≤ 128) && goodA l l 0
theorem run_makeMap0 {P : Program} (t : TypeId) (w : World) {ki e : TypeId} (ht : P.underlying t = some (.map ki e)) : (Instr.makeMap t none).run P w = .ok (.map (some w.heap.size)) (w.alloc (.map #[] 0)) := by
  simp [Instr.makeMap, run_underlying ht, Result.andThen]
theorem goodT (w : World) (l : List TV) (ta : Option Addr) (tc : Nat) (h : TbR w (.slice ta l.length tc) l) (hk : ∀ x ∈ l, OkV x) (m : Int) (hm : w.cell? ⟨0, 0, none⟩ = some (.int .i64 m)) : Calls Tryz.prog 76 #[.agg #[.slice ta l.length tc]] w fun e w' => e = .returned (.bool (goodB l)) ∧ Below w.heap.size w w' := by
  obtain ⟨_, _, e, hn⟩ := rowS_sl h.row
  clear e
  have h1 : (l.length : Int) ≤ 9223372036854775807 := by omega
  have HT := hid h
  have HK := hid hk
  have HM := hid hm
  clear h hk hm
  have HX : Hid (goodB l = (decide (l.length ≤ 128) && goodA l l 0)) := hid rfl
  by_cases hbig : 128 < l.length
  case pos =>
    have h2 : (128 : Int) < (l.length : Int) := by omega
    replace HX := hid (show goodB l = false by rw [HX.out, decide_eq_false (by omega)]; rfl)
    go_enter Tryz.func76, Tryz.ntmps76
    go_wp2
    go_ret
    exact ⟨ret_bool HX.out.symm, by exact blBy⟩
  have h2 : ¬ (128 : Int) < (l.length : Int) := by omega
  replace HX := hid (show goodB l = goodA l l 0 by rw [HX.out, decide_eq_true (by omega)]; rfl)
  have hmk := fun W => run_makeMap0 (P := Tryz.prog) 143 W Tryz.underlying143
  go_enter Tryz.func76, Tryz.ntmps76
  go_wp2
  clear hmk
  go_loopw [16] (fun r wr => ∃ j : Nat, r = .int .i64 j ∧ j ≤ l.length ∧ Hid (goodA l l 0 = goodA l (l.drop j) j) ∧ Hid (Kn wr (w.heap.size + 1) l j) ∧ Hid (Blk wr w.heap.size 46 #[.slice ta l.length tc]) ∧ Hid (Below w.heap.size w wr)) (fun r wr => l.length - numAt wr r)
  case atStart => exact ⟨0, rfl, by omega, hid rfl, hid (by have := Kn.new (w.alloc (Obj.cells #[Value.slice ta l.length tc] 46)) l; simpa using this), hid ((Blk.new _ _ _).kept (below_alloc _)), hid (by exact blBy)⟩
  case round =>
    obtain ⟨j, rfl, hj, hg, HKN, hB, hb⟩ := hrel
    by_cases hlt : j < l.length
    · have h3 : (j : Int) < (l.length : Int) := by omega
      have HST : Hid (goodA l (l.drop j) j = (stepB l j l[j].t && goodA l (l.drop (j + 1)) (j + 1))) := hid (by rw [List.drop_eq_getElem_cons hlt, goodA])
      have HTY := hid (HT.out.ty _ (List.getElem_mem hlt))
      have HOK := hid (HK.out _ (List.getElem_mem hlt))
      obtain ⟨tb, tof, rfl, hbl, c0, c1, c2, c3, c4, c5⟩ := row6 (HT.out.row.kept hb.out) hlt
      have HPUT : Hid (∀ W, Kn W (w.heap.size + 1) l j → named (l.take j) l[j].t.name = false → ∃ w', (Instr.mapUpdate 143 (.map (some (w.heap.size + 1))) (.string (strOfNums l[j].t.name)) (.int .i64 (j : Int))).run Tryz.prog W = .ok () w' ∧ Kn w' (w.heap.size + 1) l (j + 1) ∧ W.grownBy w' (some (w.heap.size + 1))) := hid fun W hW hN => hW.put hlt (by omega) (fun v hv => (HK.out v hv).ok.nm) hN
      generalize l[j] = x at *
      obtain ⟨t, f, o, s, r⟩ := x
      obtain ⟨fa, fc, ef, -⟩ := rowS_sl HTY.out.f
      obtain ⟨oa, oc, eo, -⟩ := rowS_sl HTY.out.o
      obtain ⟨sa, sc, es, -⟩ := rowS_sl HTY.out.s
      obtain ⟨ra, rc, er, -⟩ := rowS_sl HTY.out.r
      dsimp only at ef eo es er
      subst ef eo es er
      dsimp only at c0 c1 c2 c3 c4 c5
      obtain ⟨c, hr, -⟩ := (HKN.out.kept (below_alloc (w := wr) (.cells #[.string (strOfNums t.name), .bool t.enum, .slice fa t.fs.length fc, .slice oa t.os.length oc, .slice sa t.ss.length sc, .slice ra t.rs.length rc] 66))).look HOK.out.ok.nm
      try dsimp only at hr
      have Ba := hB.out
      have xa := Ba.cellF
      have ya := Ba.frz
      have za : w.heap.size < wr.heap.size := Ba.lt
      cases q0 : named (l.take j) t.name with
      | true =>
        rw [q0] at hr
        have HF : Hid (goodB l = false) := hid (by rw [HX.out, hg.out, HST.out]; simp [stepB, q0])
        go_wp2
        go_ret
        exact ⟨ret_bool HF.out.symm, by have := hb.out; exact blBy⟩
      | false =>
      rw [q0] at hr
      go_wp2_with fail
      refine (isFullNameT _ t _ _ _ _ m (cell_below HM.out (by have := hb.out; exact blBy)) HOK.out.ok.nm.1 HOK.out.nl).mono ?_
      rintro e w1 ⟨rfl, hb1⟩
      have Bb : Blk (wr.alloc (.cells #[.string (strOfNums t.name), .bool t.enum, .slice fa t.fs.length fc, .slice oa t.os.length oc, .slice sa t.ss.length sc, .slice ra t.rs.length rc] 66)) wr.heap.size 66 #[.string (strOfNums t.name), .bool t.enum, .slice fa t.fs.length fc, .slice oa t.os.length oc, .slice sa t.ss.length sc, .slice ra t.rs.length rc] := Blk.new _ _ _
      have Ba := Ba.kept (below_alloc (.cells #[.string (strOfNums t.name), .bool t.enum, .slice fa t.fs.length fc, .slice oa t.os.length oc, .slice sa t.ss.length sc, .slice ra t.rs.length rc] 66))
      replace HKN := hid (HKN.out.kept (below_alloc (.cells #[.string (strOfNums t.name), .bool t.enum, .slice fa t.fs.length fc, .slice oa t.os.length oc, .slice sa t.ss.length sc, .slice ra t.rs.length rc] 66)))
      have xb : True := trivial
      have yb : True := trivial
      have zb : True := trivial
      clear hr
      replace Ba : Blk w1 w.heap.size 46 #[.slice (some ⟨tb, tof, none⟩) l.length tc] := Blk.kept (Ba.is (by first | rfl | simp)) hb1
      replace Bb : Blk w1 wr.heap.size 66 #[.string (strOfNums t.name), .bool t.enum, .slice fa t.fs.length fc, .slice oa t.os.length oc, .slice sa t.ss.length sc, .slice ra t.rs.length rc] := Blk.kept (Bb.is (by first | rfl | simp)) hb1
      replace HKN := hid (HKN.out.kept hb1)
      clear xa ya xb yb
      have hs1 := hb1.size
      try simp at hs1
      have xa := Ba.cellF
      have ya := Ba.frz
      replace za : w.heap.size < w1.heap.size := by omega
      have xb := Bb.cellF
      have yb := Bb.frz
      replace zb : wr.heap.size < w1.heap.size := by omega
      replace hb1 : Hid (Below w.heap.size w w1) := hid (bl_then (by have := hb.out; exact blBy) hb1)
      cases q1 : fullB t with
      | false =>
        have HF : Hid (goodB l = false) := hid (by rw [HX.out, hg.out, HST.out]; simp [stepB, q0, q1])
        go_wp2
        go_ret
        exact ⟨ret_bool HF.out.symm, by have := hb1.out; exact blBy⟩
      | true =>
      go_wp2_with fail
      refine (standsRightT _ l _ tc (w.heap.size + 1) j t.name (HT.out.kept (by have := hb1.out; exact blBy)) HKN.out HOK.out.ok.nm HOK.out.nl).mono ?_
      rintro e w2 ⟨rfl, hb2⟩
      replace Ba : Blk w2 w.heap.size 46 #[.slice (some ⟨tb, tof, none⟩) l.length tc] := Blk.kept (Ba.is (by first | rfl | simp)) hb2
      replace Bb : Blk w2 wr.heap.size 66 #[.string (strOfNums t.name), .bool t.enum, .slice fa t.fs.length fc, .slice oa t.os.length oc, .slice sa t.ss.length sc, .slice ra t.rs.length rc] := Blk.kept (Bb.is (by first | rfl | simp)) hb2
      replace HKN := hid (HKN.out.kept hb2)
      clear xa ya xb yb
      have hs2 := hb2.size
      try simp at hs2
      have xa := Ba.cellF
      have ya := Ba.frz
      replace za : w.heap.size < w2.heap.size := by omega
      have xb := Bb.cellF
      have yb := Bb.frz
      replace zb : wr.heap.size < w2.heap.size := by omega
      replace hb2 : Hid (Below w.heap.size w w2) := hid (bl_then hb1.out hb2)
      cases q2 : standB l j t.name with
      | false =>
        have HF : Hid (goodB l = false) := hid (by rw [HX.out, hg.out, HST.out]; simp [stepB, q0, q1, q2])
        go_wp2
        go_ret
        exact ⟨ret_bool HF.out.symm, by have := hb2.out; exact blBy⟩
      | true =>
      go_wp2_with fail
      refine (isGoodTypeT _ l _ tc t fa oa sa ra fc oc sc rc (HT.out.kept (by have := hb2.out; exact blBy)) (HTY.out.kept (by have := hb2.out; exact blBy)) HOK.out.ok HOK.out.sz).mono ?_
      rintro e w3 ⟨rfl, hb3⟩
      replace Ba : Blk w3 w.heap.size 46 #[.slice (some ⟨tb, tof, none⟩) l.length tc] := Blk.kept (Ba.is (by first | rfl | simp)) hb3
      replace Bb : Blk w3 wr.heap.size 66 #[.string (strOfNums t.name), .bool t.enum, .slice fa t.fs.length fc, .slice oa t.os.length oc, .slice sa t.ss.length sc, .slice ra t.rs.length rc] := Blk.kept (Bb.is (by first | rfl | simp)) hb3
      replace HKN := hid (HKN.out.kept hb3)
      clear xa ya xb yb
      have hs3 := hb3.size
      try simp at hs3
      have xa := Ba.cellF
      have ya := Ba.frz
      replace za : w.heap.size < w3.heap.size := by omega
      have xb := Bb.cellF
      have yb := Bb.frz
      replace zb : wr.heap.size < w3.heap.size := by omega
      replace hb3 : Hid (Below w.heap.size w w3) := hid (bl_then hb2.out hb3)
      cases q3 : typB l t with
      | false =>
        have HF : Hid (goodB l = false) := hid (by rw [HX.out, hg.out, HST.out]; simp [stepB, q0, q1, q2, q3])
        go_wp2
        go_ret
        exact ⟨ret_bool HF.out.symm, by have := hb3.out; exact blBy⟩
      | true =>
      obtain ⟨w4, hr4, hk4, hg4⟩ := HPUT.out w3 HKN.out q0
      try dsimp only at hr4
      have HK4 := hid hk4
      have HB4 : Hid (Blk w4 w.heap.size 46 #[.slice (some ⟨tb, tof, none⟩) l.length tc]) := hid ((hg4.block _ za (by simp)).trans Ba)
      have HL4 : Hid (Below w.heap.size w w4) := hid (hb3.out.trans (grown_below hg4 (by omega) (by omega)))
      clear hk4 hg4
      go_wp2
      exact ⟨⟨j + 1, by simp, by omega, hid (by rw [hg.out, HST.out]; simp [stepB, q0, q1, q2, q3]), HK4, HB4, HL4⟩, by simp [numAt]; omega⟩
    · have h3 : ¬ (j : Int) < (l.length : Int) := by omega
      have HF : Hid (goodB l = true) := hid (by rw [HX.out, hg.out, List.drop_of_length_le (by omega)]; rfl)
      go_wp2
      go_ret
      exact ⟨ret_bool HF.out.symm, hb.out⟩
theorem fnd_ge {α : Type} (p : α → Bool) : ∀ (l : List α) (i : Nat), fnd p l i < 0 → fnd p l i = -1
  | [], i, _ => rfl
  | x :: r, i, h => by
    rw [fnd] at h ⊢
    split at h
    · omega
    · rename_i q
      rw [if_neg q]
      exact fnd_ge p r (i + 1) h
theorem rowOf {w : World} {b : Nat} {t : TypeId} {cs : Array Value} (B : Blk w b t cs) (k n : Nat) (fl : List Value) (h : cs = fl.toArray) (hl : fl.length = n * k) (hn : n ≤ 9223372036854775807) : RowS w AnyZ k (.slice (some ⟨b, 0, none⟩) n n) n fl :=
  ⟨some ⟨b, 0, none⟩, n, rfl, hl, Nat.le_refl _, hn, .inr ⟨b, 0, rfl, trivial, fun j u hu => by
    rw [Nat.zero_add]
    exact B.cell j u (by rw [h, List.getElem?_toArray]; exact hu)⟩⟩
def simE (h : Nat) : TV := ⟨⟨[69], true, [], [], [⟨[65], 0⟩], []⟩, .slice none 0 0, .slice none 0 0, .slice (some ⟨h + 1, 0, none⟩) 1 1, .slice none 0 0⟩
def simF : List FT := [⟨[120], 1, 2, 0, 0, 0, 0⟩, ⟨[108], 2, 4, 0, 3, 0, 0⟩, ⟨[109], 3, 17, 1, 1, 0, 0⟩]
def simM (h : Nat) : TV := ⟨⟨[77], false, simF, [], [], []⟩, .slice (some ⟨h + 1 + 1, 0, none⟩) 3 3, .slice none 0 0, .slice none 0 0, .slice none 0 0⟩
def simL (h : Nat) : List TV := [simE h, simM h]
theorem simpleW (w : World) : Calls Tryz.prog 14 #[] w fun e w' => e = .returned (.agg #[.slice (some ⟨w.heap.size + 1 + 1 + 1, 0, none⟩) (simL w.heap.size).length 2]) ∧ TbR w' (.slice (some ⟨w.heap.size + 1 + 1 + 1, 0, none⟩) (simL w.heap.size).length 2) (simL w.heap.size) ∧ Below w.heap.size w w' := by
  have HT : Hid (∀ W : World, Blk W (w.heap.size + 1) 75 #[.string ⟨#[65]⟩, .int .i64 0] → Blk W (w.heap.size + 1 + 1) 77 #[.string ⟨#[120]⟩, .int .i64 1, .int .i64 2, .int .i64 0, .int .i64 0, .int .i64 0, .int .i64 0, .string ⟨#[108]⟩, .int .i64 2, .int .i64 4, .int .i64 0, .int .i64 3, .int .i64 0, .int .i64 0, .string ⟨#[109]⟩, .int .i64 3, .int .i64 17, .int .i64 1, .int .i64 1, .int .i64 0, .int .i64 0] → Blk W (w.heap.size + 1 + 1 + 1) 66 #[.string ⟨#[69]⟩, .bool true, .slice none 0 0, .slice none 0 0, .slice (some ⟨w.heap.size + 1, 0, none⟩) 1 1, .slice none 0 0, .string ⟨#[77]⟩, .bool false, .slice (some ⟨w.heap.size + 1 + 1, 0, none⟩) 3 3, .slice none 0 0, .slice none 0 0, .slice none 0 0] → TbR W (.slice (some ⟨w.heap.size + 1 + 1 + 1, 0, none⟩) (simL w.heap.size).length 2) (simL w.heap.size)) := hid fun W B1 B2 B3 => by
    refine ⟨rowOf B3 6 2 _ rfl rfl (by decide), fun x hx => ?_⟩
    rcases List.mem_cons.1 hx with rfl | hx
    · exact ⟨rowS_nil _ _ _, rowS_nil _ _ _, rowOf B1 2 1 _ rfl rfl (by decide), rowS_nil _ _ _⟩
    · rcases List.mem_cons.1 hx with rfl | hx
      · exact ⟨rowOf B2 7 3 _ rfl rfl (by decide), rowS_nil _ _ _, rowS_nil _ _ _, rowS_nil _ _ _⟩
      · cases hx
  go_enter Tryz.func14, Tryz.ntmps14
  go_wp2
  refine bodyPost_ret (v := .agg #[.slice (some ⟨w.heap.size + 1 + 1 + 1, 0, none⟩) 2 2]) (by simp [results, Tryz.results14, go_sem]) rfl ⟨rfl, HT.out _ ?_ ?_ ?_, by exact blBy⟩
  · exact ((Blk.newAt (by simp)).kept (below_alloc _)).kept (below_alloc _)
  · exact (Blk.newAt (by simp)).kept (below_alloc _)
  · exact Blk.newAt (by simp)
theorem simGood (h : Nat) : goodB (simL h) = true := by kernel_rfl
theorem simOk (h : Nat) : ∀ x ∈ simL h, OkV x := by
  have tx : ∀ n : List Int, n ∈ ([[69], [77], [65], [120], [108], [109]] : List (List Int)) → TxA n := by
    intro n hn
    simp only [List.mem_cons, List.not_mem_nil, or_false] at hn
    rcases hn with rfl | rfl | rfl | rfl | rfl | rfl <;> exact ⟨by decide, by decide⟩
  intro x hx
  rcases List.mem_cons.1 hx with rfl | hx
  · refine ⟨⟨tx _ (by simp [simE]), by simp [simE], by simp [simE], fun s hs => ?_⟩, by simp [simE], by simp [simE]⟩
    simp [simE] at hs
    subst hs
    exact ⟨tx _ (by simp), by unfold I64; decide⟩
  · rcases List.mem_cons.1 hx with rfl | hx
    · refine ⟨⟨tx _ (by simp [simM]), fun f hf => ?_, by simp [simM], by simp [simM]⟩, by simp [simM], by simp [simM, simF]⟩
      simp [simM, simF] at hf
      rcases hf with rfl | rfl | rfl <;> exact tx _ (by simp)
    · cases hx
/-- What Find answers, where a field has that number. -/
theorem fieldOfOk (fs : List FT) (n : Int) (w : World) (a : Option Addr) (c : Nat) (h : RowS w AnyZ 7 (.slice a fs.length c) fs.length (fs.flatMap cFT)) (hr : Rise fs) (hl : fs.length ≤ 128) (k : Nat) (hk : k < fs.length) (hn : fs[k].num = n) : Calls Tryz.prog 74 #[.slice a fs.length c, .int .i64 n] w fun e w' => e = .returned (.tuple #[.agg #[.string (strOfNums fs[k].name), .int .i64 fs[k].num, .int .i64 fs[k].kind, .int .i64 fs[k].ref, .int .i64 fs[k].lab, .int .i64 fs[k].one, .int .i64 fs[k].key], .bool true]) ∧ Below w.heap.size w w' := by
  have HL : Hid (∀ W, Below w.heap.size w W → Calls Tryz.prog 106 #[.slice a fs.length c, .int .i64 n] W fun e w' => e = .returned (.tuple #[.agg #[.string (strOfNums fs[k].name), .int .i64 fs[k].num, .int .i64 fs[k].kind, .int .i64 fs[k].ref, .int .i64 fs[k].lab, .int .i64 fs[k].one, .int .i64 fs[k].key], .bool true]) ∧ Below W.heap.size W w') := hid fun W hW => ((lastUpToT fs n W a c (h.kept hW) hr hl).mono fun e w' hq => by
    rcases hq with ⟨⟨_, h1⟩ | ⟨j, hj, e1, h1, h2⟩, hb⟩
    · have := h1 k hk; omega
    · have ej : j = k := by
        rcases Nat.lt_trichotomy j k with q | q | q
        · have := h2 k q hk; omega
        · exact q
        · have := hr k j q hj hk; omega
      subst ej
      exact ⟨e1, hb⟩)
  clear h hr
  subst hn
  generalize fs[k] = f at *
  have kq : (f.num == f.num) = true := by simp
  go_enter Tryz.func74, Tryz.ntmps74
  go_wp2_with fail
  refine (HL.out _ (by exact blBy)).mono ?_
  rintro e w1 ⟨rfl, hb1⟩
  have Br : Blk w1 w.heap.size 77 #[.string ⟨#[]⟩, .int .i64 0, .int .i64 0, .int .i64 0, .int .i64 0, .int .i64 0, .int .i64 0] := (Blk.new _ _ _).kept hb1
  replace hb1 : Hid (Below w.heap.size w w1) := hid (bl_then (by exact blBy) hb1)
  have xr := Br.cellF
  have yr := Br.frz
  have zr := Br.lt
  go_wp2
  exact bodyPost_ret (v := .tuple #[.agg #[.string (strOfNums f.name), .int .i64 f.num, .int .i64 f.kind, .int .i64 f.ref, .int .i64 f.lab, .int .i64 f.one, .int .i64 f.key], .bool true]) (by simp [results, Tryz.results74, go_sem, xr, zr, yr]) rfl ⟨rfl, by have := hb1.out; exact blBy⟩
/-- In which wire kind a field's values stand, whatever the field. -/
theorem valueWireG (f : FT) (w : World) : Calls Tryz.prog 132 #[.agg #[.string (strOfNums f.name), .int .i64 f.num, .int .i64 f.kind, .int .i64 f.ref, .int .i64 f.lab, .int .i64 f.one, .int .i64 f.key]] w fun e w' => e = .returned (.tuple #[.int .i64 (if f.lab = 5 then 2 else max (kwire f.kind) 0), .int .i64 (if f.lab = 5 then 0 else kwireE f.kind)]) ∧ Below w.heap.size w w' := by
  have HK := hid (wireKW f.kind)
  by_cases h5 : f.lab = 5
  · rw [if_pos h5, if_pos h5]
    have k5 : (f.lab == 5) = true := by simpa using h5
    clear h5
    go_enter Tryz.func132, Tryz.ntmps132
    go_wp2
    go_ret2
    exact ⟨rfl, by exact blBy⟩
  · rw [if_neg h5, if_neg h5]
    have k5 : (f.lab == 5) = false := by simpa using h5
    clear h5
    generalize max (kwire f.kind) 0 = kw at *
    generalize kwireE f.kind = ke at *
    go_enter Tryz.func132, Tryz.ntmps132
    go_wp2_with (first | (go_at_call 153; refine (HK.out _).mono ?_; rintro e w1 ⟨rfl, rfl⟩))
    go_ret2
    exact ⟨rfl, by exact blBy⟩
/-- Is there a type of that sort at an index of a good table? -/
def isB (l : List TV) (idx : Int) (sort : Bool) : Bool := goodB l && (decide (0 ≤ idx) && (match l[idx.toNat]? with | some x => x.t.enum == sort | none => false))
def ftZ : FT := ⟨[], 0, 0, 0, 0, 0, 0⟩
theorem fieldOfNo (fs : List FT) (n : Int) (w : World) (a : Option Addr) (c : Nat) (h : RowS w AnyZ 7 (.slice a fs.length c) fs.length (fs.flatMap cFT)) (hr : Rise fs) (hl : fs.length ≤ 128) (hno : ∀ f ∈ fs, f.num ≠ n) : Calls Tryz.prog 74 #[.slice a fs.length c, .int .i64 n] w fun e w' => e = .returned (.tuple #[.agg #[.string ⟨#[]⟩, .int .i64 0, .int .i64 0, .int .i64 0, .int .i64 0, .int .i64 0, .int .i64 0], .bool false]) ∧ Below w.heap.size w w' := by
  have HL : Hid (∀ W, Below w.heap.size w W → Calls Tryz.prog 106 #[.slice a fs.length c, .int .i64 n] W fun e w' => (∃ (g : FT) (ok : Bool), e = .returned (.tuple #[.agg #[.string (strOfNums g.name), .int .i64 g.num, .int .i64 g.kind, .int .i64 g.ref, .int .i64 g.lab, .int .i64 g.one, .int .i64 g.key], .bool ok]) ∧ Hid (ok = true → (g.num == n) = false)) ∧ Below W.heap.size W w') := hid fun W hW => ((lastUpToT fs n W a c (h.kept hW) hr hl).mono fun e w' hq => by
    rcases hq with ⟨⟨e1, _⟩ | ⟨j, hj, e1, h1, h2⟩, hb⟩
    · exact ⟨⟨ftZ, false, e1, hid (fun q => by cases q)⟩, hb⟩
    · exact ⟨⟨fs[j], true, e1, hid (fun _ => by rw [beq_eq_false_iff_ne]; exact hno _ (List.getElem_mem hj))⟩, hb⟩)
  clear h hr hno
  go_enter Tryz.func74, Tryz.ntmps74
  go_wp2_with fail
  refine (HL.out _ (by exact blBy)).mono ?_
  rintro e w1 ⟨⟨f, ok, rfl, hok⟩, hb1⟩
  have Br : Blk w1 w.heap.size 77 #[.string ⟨#[]⟩, .int .i64 0, .int .i64 0, .int .i64 0, .int .i64 0, .int .i64 0, .int .i64 0] := (Blk.new _ _ _).kept hb1
  replace hb1 : Hid (Below w.heap.size w w1) := hid (bl_then (by exact blBy) hb1)
  have xr := Br.cellF
  have yr := Br.frz
  have zr := Br.lt
  cases ok with
  | false =>
    go_wp2
    exact bodyPost_ret (v := .tuple #[.agg #[.string ⟨#[]⟩, .int .i64 0, .int .i64 0, .int .i64 0, .int .i64 0, .int .i64 0, .int .i64 0], .bool false]) (by simp [results, Tryz.results74, go_sem, xr, zr, yr]) rfl ⟨rfl, by have := hb1.out; exact blBy⟩
  | true =>
    have kq := hok.out rfl
    go_wp2
    exact bodyPost_ret (v := .tuple #[.agg #[.string ⟨#[]⟩, .int .i64 0, .int .i64 0, .int .i64 0, .int .i64 0, .int .i64 0, .int .i64 0], .bool false]) (by simp [results, Tryz.results74, go_sem, xr, zr, yr]) rfl ⟨rfl, by have := hb1.out; exact blBy⟩
theorem good_at {l : List TV} (hg : goodB l = true) {k : Nat} (hk : k < l.length) : stepB l k l[k].t = true := by
  unfold goodB at hg
  rw [Bool.and_eq_true] at hg
  have : ∀ (r : List TV) (i j : Nat), goodA l r i = true → (hj : j < r.length) → stepB l (i + j) r[j].t = true := by
    intro r
    induction r with
    | nil => intro i j _ hj; simp at hj
    | cons x r ih =>
      intro i j h hj
      rw [goodA, Bool.and_eq_true] at h
      cases j with
      | zero => exact h.1
      | succ j =>
        have := ih (i + 1) j h.2 (by simpa using hj)
        rw [show i + (j + 1) = i + 1 + j by omega]
        exact this
  have := this l 0 k hg.2 hk
  rw [Nat.zero_add] at this
  exact this
theorem good_msg {l : List TV} (hg : goodB l = true) {k : Nat} (hk : k < l.length) (he : l[k].t.enum = false) : Rise l[k].t.fs ∧ l[k].t.fs.length ≤ 128 := by
  have h := good_at hg hk
  unfold stepB typB msgB at h
  rw [he] at h
  simp only [Bool.and_eq_true, decide_eq_true_eq] at h
  have h2 := h.2.2.2
  simp only [Bool.false_eq_true, if_false, Bool.and_eq_true, decide_eq_true_eq] at h2
  exact ⟨(rise_all _ 0 h2.2.2.2.1).2, h2.2.1.1⟩
theorem isB_at {l : List TV} {idx : Int} {sort : Bool} (h : isB l idx sort = true) : ∃ (k : Nat) (hk : k < l.length), idx = (k : Int) ∧ goodB l = true ∧ l[k].t.enum = sort := by
  unfold isB at h
  simp only [Bool.and_eq_true, decide_eq_true_eq] at h
  obtain ⟨h1, h2, h3⟩ := h
  obtain ⟨k, rfl⟩ := Int.eq_ofNat_of_zero_le h2
  rw [Int.toNat_natCast] at h3
  by_cases hk : k < l.length
  · rw [List.getElem?_eq_getElem hk] at h3
    exact ⟨k, hk, rfl, h1, by simpa using h3⟩
  · rw [List.getElem?_eq_none (by omega)] at h3
    cases h3
def rowsF (f : FT) : Bool := decide (f.lab = 2 ∨ f.lab = 3) && knum f.kind
theorem beq_dec (a b : Int) : (a == b) = decide (a = b) := by by_cases h : a = b <;> simp [h]
/-- Does it take entries of a wire kind as values, as rows? -/
def tvF (f : FT) (k : Int) : Bool := if f.lab = 5 then decide (k = 2) else (decide (kwireE f.kind = 0) && decide (k = max (kwire f.kind) 0))
def trF (f : FT) (k : Int) : Bool := rowsF f && decide (k = 2)
section
variable (f : FT) (w : World)
theorem takesValueT (k : Int) : Calls Tryz.prog 104 #[.agg #[.string (strOfNums f.name), .int .i64 f.num, .int .i64 f.kind, .int .i64 f.ref, .int .i64 f.lab, .int .i64 f.one, .int .i64 f.key], .int .i64 k] w fun e w' => e = .returned (.bool (tvF f k)) ∧ Below w.heap.size w w' := by
  have HV := hid fun W => valueWireG f W
  have HX : Hid (tvF f k = if f.lab = 5 then decide (k = 2) else (decide (kwireE f.kind = 0) && decide (k = max (kwire f.kind) 0))) := hid rfl
  generalize tvF f k = res at *
  by_cases h : f.lab = 5
  · rw [if_pos h, if_pos h] at HV
    rw [if_pos h] at HX
    replace h := hid h
    go_enter Tryz.func104, Tryz.ntmps104
    go_wp2_with fail
    refine (HV.out _).mono ?_
    rintro e w1 ⟨rfl, hb1⟩
    have HB : Hid (Below w.heap.size w w1) := hid (bl_then (by exact blBy) hb1)
    clear hb1
    go_wp2
    go_ret
    exact ⟨ret_bool (by rw [HX.out]; exact beq_dec k 2), HB.out⟩
  · rw [if_neg h, if_neg h] at HV
    rw [if_neg h] at HX
    replace h := hid h
    generalize max (kwire f.kind) 0 = kw at *
    generalize kwireE f.kind = ke at *
    by_cases h0 : ke = 0
    · have k0 : (ke == 0) = true := by simpa using h0
      rw [decide_eq_true h0, Bool.true_and] at HX
      replace h0 := hid h0
      go_enter Tryz.func104, Tryz.ntmps104
      go_wp2_with fail
      refine (HV.out _).mono ?_
      rintro e w1 ⟨rfl, hb1⟩
      have HB : Hid (Below w.heap.size w w1) := hid (bl_then (by exact blBy) hb1)
      clear hb1
      go_wp2
      go_ret
      exact ⟨ret_bool (by rw [HX.out]; exact beq_dec k kw), HB.out⟩
    · have k0 : (ke == 0) = false := by simpa using h0
      rw [decide_eq_false h0, Bool.false_and] at HX
      replace h0 := hid h0
      go_enter Tryz.func104, Tryz.ntmps104
      go_wp2_with fail
      refine (HV.out _).mono ?_
      rintro e w1 ⟨rfl, hb1⟩
      have HB : Hid (Below w.heap.size w w1) := hid (bl_then (by exact blBy) hb1)
      clear hb1
      go_wp2
      go_ret
      exact ⟨ret_bool HX.out.symm, HB.out⟩
theorem takesRowT (k : Int) : Calls Tryz.prog 105 #[.agg #[.string (strOfNums f.name), .int .i64 f.num, .int .i64 f.kind, .int .i64 f.ref, .int .i64 f.lab, .int .i64 f.one, .int .i64 f.key], .int .i64 k] w fun e w' => e = .returned (.bool (trF f k)) ∧ Below w.heap.size w w' := by
  have HK := hid (numericW f.kind)
  have HX : Hid (trF f k = ((decide (f.lab = 2 ∨ f.lab = 3) && knum f.kind) && decide (k = 2))) := hid rfl
  generalize knum f.kind = kn at *
  generalize trF f k = res at *
  by_cases h2 : f.lab = 2
  · have k2 : (f.lab == 2) = true := by simpa using h2
    rw [decide_eq_true (.inl h2), Bool.true_and] at HX
    replace h2 := hid h2
    cases kn <;>
    · go_enter Tryz.func105, Tryz.ntmps105
      go_wp2_with (first | (go_at_call 133; refine (HK.out _).mono ?_; rintro e w1 ⟨rfl, rfl⟩))
      go_ret
      exact ⟨ret_bool (by rw [HX.out]; simp [beq_dec]), by exact blBy⟩
  · have k2 : (f.lab == 2) = false := by simpa using h2
    by_cases h3 : f.lab = 3
    · have k3 : (f.lab == 3) = true := by simpa using h3
      rw [decide_eq_true (.inr h3), Bool.true_and] at HX
      replace h2 := hid h2
      replace h3 := hid h3
      cases kn <;>
      · go_enter Tryz.func105, Tryz.ntmps105
        go_wp2_with (first | (go_at_call 133; refine (HK.out _).mono ?_; rintro e w1 ⟨rfl, rfl⟩))
        go_ret
        exact ⟨ret_bool (by rw [HX.out]; simp [beq_dec]), by exact blBy⟩
    · have k3 : (f.lab == 3) = false := by simpa using h3
      rw [decide_eq_false (by omega), Bool.false_and, Bool.false_and] at HX
      replace h2 := hid h2
      replace h3 := hid h3
      go_enter Tryz.func105, Tryz.ntmps105
      go_wp2
      go_ret
      exact ⟨ret_bool HX.out.symm, by exact blBy⟩
end
theorem fnd_find {α : Type} (p : α → Bool) : ∀ (l : List α) (i : Nat), (fnd p l i < 0 ∧ l.find? p = none) ∨ ∃ (j : Nat) (hj : j < l.length), fnd p l i = ((i + j : Nat) : Int) ∧ l.find? p = some l[j]
  | [], i => .inl ⟨by simp [fnd], rfl⟩
  | x :: r, i => by
    rw [fnd, List.find?_cons]
    by_cases h : p x = true
    · rw [if_pos h, h]
      exact .inr ⟨0, by simp, by simp, rfl⟩
    · rw [if_neg h, Bool.eq_false_iff.2 h]
      rcases fnd_find p r (i + 1) with ⟨h1, h2⟩ | ⟨j, hj, h1, h2⟩
      · exact .inl ⟨h1, h2⟩
      · exact .inr ⟨j + 1, by simp; omega, by rw [h1]; congr 1; omega, by simpa using h2⟩
end Go.Proofs.YtnfdlnelfnigdaaGreatDoor
