/-
  Trees, and how words become trees: each form as a function of the words that are left and of the first fault; nothing of the program.
  Words as Split tells them; what a form does behind a fault.
  Rows of structs in memory: what can be read, what is one's own; trees.
-/
import Derived.Test.YtidimdbnnnpplaaDoorCYB
import Derived.Test.YtidimdbnnnpplaaDoorCYL
import Derived.Test.YtidimdbnnnpplaaDoorCQB
namespace Go.Proofs.YtidimdbnnnpplaaDoor
open Go.RowKit
set_option maxRecDepth 1000000
set_option linter.unusedVariables false

structure MF where
  name : List Int
  ty : List Int
  key : List Int
  num : Int
  label : Int
  packed : Int
  oneof : Int
  at1 : Int × Int
  nat1 : Int × Int
  tat : Int × Int
  mat : Int × Int
structure MI where
  name : List Int
  at1 : Int × Int
structure MO where
  name : List Int
  at1 : Int × Int
structure MR where
  low : Int
  high : Int
  at1 : Int × Int
structure MS where
  name : List Int
  num : Int
  at1 : Int × Int
  nat1 : Int × Int
structure MD where
  enum : Bool
  name : List Int
  at1 : Int × Int
  fields : List MF
  oneofs : List MO
  decls : List MD
  res : List MR
  syms : List MS
structure MT where
  imps : List MI
  decls : List MD
def zM : Mw := ⟨0, [], 0, [], 0, 0⟩
def zD : MD := ⟨false, [], (0, 0), [], [], [], [], []⟩
/-- The words that are left, and the first fault. -/
structure PS where
  l : List Mw
  cd : Int
  ln : Int
  cl : Int
def hdM (s : PS) : Mw := s.l.headD zM
def badM (s : PS) (c : Int) : PS := if s.cd = 0 then ⟨s.l, c, (hdM s).line, (hdM s).col⟩ else s
def isM (s : PS) (x : List Int) : Bool := decide (s.cd = 0) && ((decide ((hdM s).kind = 1) || decide ((hdM s).kind = 4)) && decide ((hdM s).s = x))
def nxM (s : PS) : PS := ⟨s.l.tail, s.cd, s.ln, s.cl⟩
def eatM (s : PS) (x : List Int) : PS := if s.cd = 0 then (if isM s x = true then nxM s else badM s 11) else s
def takeM (s : PS) (k : Int) : Mw × PS := if s.cd = 0 then (if (hdM s).kind = k then (hdM s, nxM s) else (zM, badM s 11)) else (zM, s)
def atM (m : Mw) : Int × Int := (m.line, m.col)
/-- How much is left. -/
def muM (s : PS) : Nat := if s.cd = 0 then s.l.length + 1 else 0
section
variable {σ : Type}
def lpM (c : σ → Bool) (f : σ → σ) : Nat → σ → σ
  | 0, x => x
  | n + 1, x => if c x = true then lpM c f n (f x) else x
/-- While c holds. -/
def whM (c : σ → Bool) (f : σ → σ) (p : σ → PS) (x : σ) : σ := lpM c f (muM (p x)) x
theorem lpM_fuel {c : σ → Bool} {f : σ → σ} {p : σ → PS} (h : ∀ x, c x = true → muM (p (f x)) < muM (p x)) : ∀ n m x, muM (p x) ≤ n → muM (p x) ≤ m → lpM c f n x = lpM c f m x
  | 0, 0, x, _, _ => rfl
  | 0, m + 1, x, h0, _ => by
    have : ¬ c x = true := fun e => by have := h x e; omega
    rw [lpM, lpM, if_neg this]
  | n + 1, 0, x, _, h0 => by
    have : ¬ c x = true := fun e => by have := h x e; omega
    rw [lpM, lpM, if_neg this]
  | n + 1, m + 1, x, h1, h2 => by
    rw [lpM, lpM]
    by_cases hc : c x = true
    · have := h x hc
      rw [if_pos hc, if_pos hc, lpM_fuel h n m (f x) (by omega) (by omega)]
    · rw [if_neg hc, if_neg hc]
theorem whM_go {c : σ → Bool} {f : σ → σ} {p : σ → PS} (h : ∀ x, c x = true → muM (p (f x)) < muM (p x)) {x : σ} (hc : c x = true) : whM c f p x = whM c f p (f x) := by
  have hl := h x hc
  unfold whM
  obtain ⟨n, hn⟩ : ∃ n, muM (p x) = n + 1 := ⟨muM (p x) - 1, by omega⟩
  rw [hn, lpM, if_pos hc]
  exact lpM_fuel h _ _ _ (by omega) (Nat.le_refl _)
theorem whM_stop {c : σ → Bool} {f : σ → σ} {p : σ → PS} {x : σ} (hc : c x = false) : whM c f p x = x := by
  unfold whM
  cases muM (p x) with
  | zero => rfl
  | succ n => rw [lpM, if_neg (by simp [hc])]
theorem whM_le {c : σ → Bool} {f : σ → σ} {p : σ → PS} (h : ∀ x, c x = true → muM (p (f x)) ≤ muM (p x)) (x : σ) : muM (p (whM c f p x)) ≤ muM (p x) := by
  unfold whM
  suffices H : ∀ n x, muM (p (lpM c f n x)) ≤ muM (p x) from H _ _
  clear x
  intro n
  induction n with
  | zero => intro x; exact Nat.le_refl _
  | succ n ih =>
    intro x
    rw [lpM]
    by_cases hc : c x = true
    · rw [if_pos hc]; exact Nat.le_trans (ih _) (h x hc)
    · rw [if_neg hc]; exact Nat.le_refl _
end
-- the forms
def typSt (x : List Int × PS) : List Int × PS := (x.1 ++ 46 :: (takeM (eatM x.2 [46]) 1).1.s, (takeM (eatM x.2 [46]) 1).2)
def typC (x : List Int × PS) : Bool := isM x.2 [46]
def typL (x : List Int × PS) : List Int × PS := whM typC typSt (·.2) x
def typM (s : PS) : List Int × (Int × Int) × PS := ((typL ((takeM s 1).1.s, (takeM s 1).2)).1, atM (takeM s 1).1, (typL ((takeM s 1).1.s, (takeM s 1).2)).2)
def namM (s : PS) : Mw × Mw × PS := ((takeM s 1).1, takeM (eatM (takeM s 1).2 [61]) 2)
def wPacked : List Int := [112, 97, 99, 107, 101, 100]
def wTrue : List Int := [116, 114, 117, 101]
def wFalse : List Int := [102, 97, 108, 115, 101]
def wMap : List Int := [109, 97, 112]
def wEnum : List Int := [101, 110, 117, 109]
def wMessage : List Int := [109, 101, 115, 115, 97, 103, 101]
def wOneof : List Int := [111, 110, 101, 111, 102]
def wReserved : List Int := [114, 101, 115, 101, 114, 118, 101, 100]
def wTo : List Int := [116, 111]
def wOptional : List Int := [111, 112, 116, 105, 111, 110, 97, 108]
def wRepeated : List Int := [114, 101, 112, 101, 97, 116, 101, 100]
def wImport : List Int := [105, 109, 112, 111, 114, 116]
/-- Behind the sign that opens it: packed, and what it says. -/
def opA (s : PS) : PS := eatM s [91]
def opB (s : PS) : PS := eatM (eatM (opA s) wPacked) [61]
def opM (f : MF) (s : PS) : MF × PS :=
  if isM (opB s) wTrue = true then ({ f with mat := if (opA s).cd = 0 then atM (hdM (opA s)) else f.mat, packed := 1 }, eatM (eatM (opB s) wTrue) [93])
  else ({ f with mat := if (opA s).cd = 0 then atM (hdM (opA s)) else f.mat, packed := 2 }, eatM (eatM (opB s) wFalse) [93])
def fld (key t : List Int) (tat : Int × Int) (w n : Mw) (label : Int) (mark : Int × Int) : MF := ⟨w.s, t, key, n.n, label, 0, 0, atM w, atM n, tat, mark⟩
def fldA (s : PS) (label : Int) (mark : Int × Int) : MF × PS :=
  (fld [] (typM s).1 (typM s).2.1 (namM (typM s).2.2).1 (namM (typM s).2.2).2.1 label mark, (namM (typM s).2.2).2.2)
def fldM (s : PS) (label : Int) (mark : Int × Int) : MF × PS :=
  if label ≠ 4 ∧ isM (fldA s label mark).2 [91] = true then ((opM (fldA s label mark).1 (fldA s label mark).2).1, eatM (opM (fldA s label mark).1 (fldA s label mark).2).2 [59])
  else ((fldA s label mark).1, eatM (fldA s label mark).2 [59])
def prA (s : PS) : Mw × PS := takeM (eatM (eatM s wMap) [60]) 1
def prB (s : PS) : List Int × (Int × Int) × PS := typM (eatM (prA s).2 [44])
def prC (s : PS) : Mw × Mw × PS := namM (eatM (prB s).2.2 [62])
def prsM (s : PS) : MF × PS := (fld (prA s).1.s (prB s).1 (prB s).2.1 (prC s).1 (prC s).2.1 5 (atM (prA s).1), eatM (prC s).2.2 [59])
def symM (s : PS) : MS × PS := (⟨(namM s).1.s, (namM s).2.1.n, atM (namM s).1, atM (namM s).2.1⟩, eatM (namM s).2.2 [59])
def endC (s : PS) : Bool := decide (s.cd = 0) && !isM s [125]
-- a oneof's members
def oneM (i : Int) (s : PS) : MF × PS := ({ (fldM s 4 (0, 0)).1 with oneof := i }, (fldM s 4 (0, 0)).2)
def oneSt (i : Int) (x : List MF × PS) : List MF × PS := (x.1 ++ [(oneM i x.2).1], (oneM i x.2).2)
def oneL (i : Int) (x : List MF × PS) : List MF × PS := whM (fun x => endC x.2) (oneSt i) (·.2) x
def onA (s : PS) : Mw × PS := takeM (eatM s wOneof) 1
def onB (i : Int) (fs : List MF) (s : PS) : List MF × PS := oneL i (oneSt i (fs, eatM (onA s).2 [123]))
def oneofM (d : MD) (s : PS) : MD × PS :=
  ({ d with oneofs := d.oneofs ++ [⟨(onA s).1.s, atM (onA s).1⟩], fields := (onB d.oneofs.length d.fields s).1 }, eatM (onB d.oneofs.length d.fields s).2 [125])
-- ranges
def rngM (s : PS) : MR × PS :=
  if isM (takeM s 2).2 wTo = true then (⟨(takeM s 2).1.n, (takeM (eatM (takeM s 2).2 wTo) 2).1.n, atM (takeM s 2).1⟩, (takeM (eatM (takeM s 2).2 wTo) 2).2)
  else (⟨(takeM s 2).1.n, (takeM s 2).1.n, atM (takeM s 2).1⟩, (takeM s 2).2)
def rngSt (x : List MR × PS) : List MR × PS := (x.1 ++ [(rngM (eatM x.2 [44])).1], (rngM (eatM x.2 [44])).2)
def rngL (x : List MR × PS) : List MR × PS := whM (fun x => isM x.2 [44]) rngSt (·.2) x
def rsB (rs : List MR) (s : PS) : List MR × PS := rngL (rs ++ [(rngM (eatM s wReserved)).1], (rngM (eatM s wReserved)).2)
def resM (d : MD) (s : PS) : MD × PS := ({ d with res := (rsB d.res s).1 }, eatM (rsB d.res s).2 [59])
-- a message's members
def labM (s : PS) : Int := if isM s wRepeated = true then 2 else if isM s wOptional = true then 1 else 0
def memM (sub : PS → MD × PS) (x : MD × PS) : MD × PS :=
  if isM x.2 wMessage = true ∨ isM x.2 wEnum = true then ({ x.1 with decls := x.1.decls ++ [(sub x.2).1] }, (sub x.2).2)
  else if isM x.2 wOneof = true then oneofM x.1 x.2
  else if isM x.2 wReserved = true then resM x.1 x.2
  else if isM x.2 wMap = true then ({ x.1 with fields := x.1.fields ++ [(prsM x.2).1] }, (prsM x.2).2)
  else if labM x.2 = 0 then ({ x.1 with fields := x.1.fields ++ [(fldM x.2 0 (0, 0)).1] }, (fldM x.2 0 (0, 0)).2)
  else ({ x.1 with fields := x.1.fields ++ [(fldM (nxM x.2) (labM x.2) (atM (hdM x.2))).1] }, (fldM (nxM x.2) (labM x.2) (atM (hdM x.2))).2)
def symSt (x : List MS × PS) : List MS × PS := (x.1 ++ [(symM x.2).1], (symM x.2).2)
def symL (x : List MS × PS) : List MS × PS := whM (fun x => endC x.2) symSt (·.2) x
def enA (s : PS) : Mw × PS := takeM (eatM s wEnum) 1
def enmM (s : PS) : MD × PS :=
  (⟨true, (enA s).1.s, atM (enA s).1, [], [], [], [], (symL ([], eatM (enA s).2 [123])).1⟩, eatM (symL ([], eatM (enA s).2 [123])).2 [125])
def memL (sub : PS → MD × PS) (x : MD × PS) : MD × PS := whM (fun x => endC x.2) (memM sub) (·.2) x
def msA (s : PS) : Mw × PS := takeM (eatM s wMessage) 1
def msB (sub : PS → MD × PS) (s : PS) : MD × PS := memL sub (⟨false, (msA s).1.s, atM (msA s).1, [], [], [], [], []⟩, eatM (msA s).2 [123])
def msgM (sub : PS → MD × PS) (s : PS) : MD × PS := ((msB sub s).1, eatM (msB sub s).2 [125])
/-- A declaration; so many messages may still be around. -/
def dclM : Nat → PS → MD × PS
  | 0, s => if isM s wEnum = true then enmM s else (zD, badM s 17)
  | k + 1, s => if isM s wEnum = true then enmM s else msgM (dclM k) s
-- a file
def impM (s : PS) : MI × PS := (⟨(takeM (eatM s wImport) 3).1.b, atM (takeM (eatM s wImport) 3).1⟩, eatM (takeM (eatM s wImport) 3).2 [59])
def filSt (x : MT × PS) : MT × PS :=
  if isM x.2 wImport = true then (⟨x.1.imps ++ [(impM x.2).1], x.1.decls⟩, (impM x.2).2)
  else if isM x.2 wMessage = true ∨ isM x.2 wEnum = true then (⟨x.1.imps, x.1.decls ++ [(dclM 8 x.2).1]⟩, (dclM 8 x.2).2)
  else (x.1, badM x.2 11)
def filC (x : MT × PS) : Bool := decide (x.2.cd = 0) && decide ((hdM x.2).kind ≠ 5)
def filL (x : MT × PS) : MT × PS := whM filC filSt (·.2) x
def wsM (ms : List Mw) : MT × PS := filL (⟨[], []⟩, ⟨ms, 0, 0, 0⟩)

-- how much is left, form by form
theorem mu_nx {s : PS} (h0 : s.cd = 0) (hk : (hdM s).kind ≠ 0) : muM (nxM s) < muM s := by
  unfold hdM at hk
  cases hl : s.l with
  | nil => rw [hl] at hk; exact absurd rfl hk
  | cons x r => unfold muM nxM; simp [h0, hl]
theorem is_parts {s : PS} {x : List Int} (h : isM s x = true) : s.cd = 0 ∧ ((hdM s).kind = 1 ∨ (hdM s).kind = 4) ∧ (hdM s).s = x := by
  unfold isM at h
  simpa using h
theorem mu_bad (s : PS) (c : Int) (hc : c ≠ 0) : muM (badM s c) = 0 := by
  unfold badM
  by_cases h : s.cd = 0
  · rw [if_pos h]; unfold muM; rw [if_neg hc]
  · rw [if_neg h]; unfold muM; rw [if_neg h]
theorem mu_zero {s : PS} (h : s.cd ≠ 0) : muM s = 0 := by unfold muM; rw [if_neg h]
theorem mu_pos {s : PS} (h : s.cd = 0) : 0 < muM s := by unfold muM; rw [if_pos h]; omega
theorem mu_eat_lt {s : PS} (h : s.cd = 0) (x : List Int) : muM (eatM s x) < muM s := by
  unfold eatM
  rw [if_pos h]
  split
  · rename_i hi
    obtain ⟨_, hk, _⟩ := is_parts hi
    exact mu_nx h (by omega)
  · rw [mu_bad _ _ (by decide)]; exact mu_pos h
theorem mu_eat (s : PS) (x : List Int) : muM (eatM s x) ≤ muM s := by
  by_cases h : s.cd = 0
  · exact Nat.le_of_lt (mu_eat_lt h x)
  · unfold eatM; rw [if_neg h]; exact Nat.le_refl _
theorem mu_take_lt {s : PS} (h : s.cd = 0) {k : Int} (hk : k ≠ 0) : muM (takeM s k).2 < muM s := by
  unfold takeM
  rw [if_pos h]
  split
  · rename_i hi
    exact mu_nx h (by omega)
  · simp only []; rw [mu_bad _ _ (by decide)]; exact mu_pos h
theorem mu_take (s : PS) {k : Int} (hk : k ≠ 0) : muM (takeM s k).2 ≤ muM s := by
  by_cases h : s.cd = 0
  · exact Nat.le_of_lt (mu_take_lt h hk)
  · unfold takeM; rw [if_neg h]; exact Nat.le_refl _
theorem typ_dec : ∀ x : List Int × PS, typC x = true → muM (typSt x).2 < muM x.2 := fun x h => by
  obtain ⟨h0, _⟩ := is_parts (show isM x.2 [46] = true from h)
  exact Nat.lt_of_le_of_lt (mu_take _ (by decide)) (mu_eat_lt h0 _)
theorem mu_typL (x : List Int × PS) : muM (typL x).2 ≤ muM x.2 := whM_le (p := (·.2)) (fun x h => Nat.le_of_lt (typ_dec x h)) x
theorem mu_typ_lt {s : PS} (h : s.cd = 0) : muM (typM s).2.2 < muM s := Nat.lt_of_le_of_lt (mu_typL _) (mu_take_lt h (by decide))
theorem mu_typ (s : PS) : muM (typM s).2.2 ≤ muM s := Nat.le_trans (mu_typL _) (mu_take s (by decide))
theorem mu_nam (s : PS) : muM (namM s).2.2 ≤ muM s := Nat.le_trans (mu_take _ (by decide)) (Nat.le_trans (mu_eat _ _) (mu_take _ (by decide)))
theorem mu_nam_lt {s : PS} (h : s.cd = 0) : muM (namM s).2.2 < muM s := Nat.lt_of_le_of_lt (mu_take _ (by decide)) (Nat.lt_of_le_of_lt (mu_eat _ _) (mu_take_lt h (by decide)))
theorem mu_opB (s : PS) : muM (opB s) ≤ muM s := Nat.le_trans (mu_eat _ _) (Nat.le_trans (mu_eat _ _) (mu_eat _ _))
theorem mu_op (f : MF) (s : PS) : muM (opM f s).2 ≤ muM s := by
  unfold opM
  split <;> exact Nat.le_trans (mu_eat _ _) (Nat.le_trans (mu_eat _ _) (mu_opB s))
theorem mu_fldA_lt {s : PS} (h : s.cd = 0) (label : Int) (mark : Int × Int) : muM (fldA s label mark).2 < muM s := Nat.lt_of_le_of_lt (mu_nam _) (mu_typ_lt h)
theorem mu_fldA (s : PS) (label : Int) (mark : Int × Int) : muM (fldA s label mark).2 ≤ muM s := Nat.le_trans (mu_nam _) (mu_typ _)
theorem mu_fld' (s : PS) (label : Int) (mark : Int × Int) : muM (fldM s label mark).2 ≤ muM (fldA s label mark).2 := by
  unfold fldM
  split
  · exact Nat.le_trans (mu_eat _ _) (mu_op _ _)
  · exact mu_eat _ _
theorem mu_fld (s : PS) (label : Int) (mark : Int × Int) : muM (fldM s label mark).2 ≤ muM s := Nat.le_trans (mu_fld' _ _ _) (mu_fldA _ _ _)
theorem mu_fld_lt {s : PS} (h : s.cd = 0) (label : Int) (mark : Int × Int) : muM (fldM s label mark).2 < muM s := Nat.lt_of_le_of_lt (mu_fld' _ _ _) (mu_fldA_lt h _ _)
theorem mu_prs_lt {s : PS} (h : s.cd = 0) : muM (prsM s).2 < muM s :=
  Nat.lt_of_le_of_lt (mu_eat _ _) (Nat.lt_of_le_of_lt (mu_nam _) (Nat.lt_of_le_of_lt (mu_eat _ _) (Nat.lt_of_le_of_lt (mu_typ _) (Nat.lt_of_le_of_lt (mu_eat _ _) (Nat.lt_of_le_of_lt (mu_take _ (by decide)) (Nat.lt_of_le_of_lt (mu_eat _ _) (mu_eat_lt h _)))))))
theorem mu_sym_lt {s : PS} (h : s.cd = 0) : muM (symM s).2 < muM s := Nat.lt_of_le_of_lt (mu_eat _ _) (mu_nam_lt h)
theorem endC_cd {s : PS} (h : endC s = true) : s.cd = 0 ∧ isM s [125] = false := by unfold endC at h; simpa using h
theorem one_dec (i : Int) : ∀ x : List MF × PS, endC x.2 = true → muM (oneSt i x).2 < muM x.2 := fun x h => mu_fld_lt (endC_cd h).1 _ _
theorem mu_onB (i : Int) (fs : List MF) (s : PS) : muM (onB i fs s).2 ≤ muM (eatM s wOneof) :=
  Nat.le_trans (whM_le (p := (·.2)) (fun x h => Nat.le_of_lt (one_dec i x h)) _) (Nat.le_trans (mu_fld _ _ _) (Nat.le_trans (mu_eat _ _) (mu_take _ (by decide))))
theorem mu_oneof_lt {s : PS} (h : s.cd = 0) (d : MD) : muM (oneofM d s).2 < muM s := Nat.lt_of_le_of_lt (mu_eat _ _) (Nat.lt_of_le_of_lt (mu_onB _ _ _) (mu_eat_lt h _))
theorem mu_rng (s : PS) : muM (rngM s).2 ≤ muM s := by
  unfold rngM
  split
  · exact Nat.le_trans (mu_take _ (by decide)) (Nat.le_trans (mu_eat _ _) (mu_take _ (by decide)))
  · exact mu_take _ (by decide)
theorem rng_dec : ∀ x : List MR × PS, isM x.2 [44] = true → muM (rngSt x).2 < muM x.2 := fun x h => Nat.lt_of_le_of_lt (mu_rng _) (mu_eat_lt (is_parts h).1 _)
theorem mu_rsB (rs : List MR) (s : PS) : muM (rsB rs s).2 ≤ muM (eatM s wReserved) :=
  Nat.le_trans (whM_le (p := (·.2)) (fun x h => Nat.le_of_lt (rng_dec x h)) _) (mu_rng _)
theorem mu_res_lt {s : PS} (h : s.cd = 0) (d : MD) : muM (resM d s).2 < muM s := Nat.lt_of_le_of_lt (mu_eat _ _) (Nat.lt_of_le_of_lt (mu_rsB _ _) (mu_eat_lt h _))
theorem labM_is {s : PS} (h : labM s ≠ 0) : ∃ x, isM s x = true := by
  unfold labM at h
  split at h
  · exact ⟨_, by assumption⟩
  · split at h
    · exact ⟨_, by assumption⟩
    · exact absurd rfl h
theorem mem_dec {sub : PS → MD × PS} (hs : ∀ s, s.cd = 0 → muM (sub s).2 < muM s) {x : MD × PS} (h : x.2.cd = 0) : muM (memM sub x).2 < muM x.2 := by
  unfold memM
  split
  · exact hs _ h
  · split
    · exact mu_oneof_lt h _
    · split
      · exact mu_res_lt h _
      · split
        · exact mu_prs_lt h
        · split
          · exact mu_fld_lt h _ _
          · rename_i hl
            obtain ⟨y, hy⟩ := labM_is hl
            exact Nat.lt_of_le_of_lt (mu_fld _ _ _) (mu_nx h (by have := (is_parts hy).2.1; omega))
theorem sym_dec : ∀ x : List MS × PS, endC x.2 = true → muM (symSt x).2 < muM x.2 := fun x h => mu_sym_lt (endC_cd h).1
theorem mu_symL (x : List MS × PS) : muM (symL x).2 ≤ muM x.2 := whM_le (p := (·.2)) (fun x h => Nat.le_of_lt (sym_dec x h)) x
theorem mu_enm_lt {s : PS} (h : s.cd = 0) : muM (enmM s).2 < muM s :=
  Nat.lt_of_le_of_lt (mu_eat _ _) (Nat.lt_of_le_of_lt (mu_symL _) (Nat.lt_of_le_of_lt (mu_eat _ _) (Nat.lt_of_le_of_lt (mu_take _ (by decide)) (mu_eat_lt h _))))
theorem mu_memL {sub : PS → MD × PS} (hs : ∀ s, s.cd = 0 → muM (sub s).2 < muM s) (x : MD × PS) : muM (memL sub x).2 ≤ muM x.2 := whM_le (p := (·.2)) (fun x h => Nat.le_of_lt (mem_dec hs (endC_cd h).1)) x
theorem mu_msg_lt {sub : PS → MD × PS} (hs : ∀ s, s.cd = 0 → muM (sub s).2 < muM s) {s : PS} (h : s.cd = 0) : muM (msgM sub s).2 < muM s :=
  Nat.lt_of_le_of_lt (mu_eat _ _) (Nat.lt_of_le_of_lt (mu_memL hs _) (Nat.lt_of_le_of_lt (mu_eat _ _) (Nat.lt_of_le_of_lt (mu_take _ (by decide)) (mu_eat_lt h _))))
theorem mu_dcl_lt : ∀ (k : Nat) {s : PS}, s.cd = 0 → muM (dclM k s).2 < muM s
  | 0, s, h => by
    unfold dclM
    split
    · exact mu_enm_lt h
    · rw [mu_bad _ _ (by decide)]; exact mu_pos h
  | k + 1, s, h => by
    unfold dclM
    split
    · exact mu_enm_lt h
    · exact mu_msg_lt (fun s hs => mu_dcl_lt k hs) h
theorem fil_dec : ∀ x : MT × PS, filC x = true → muM (filSt x).2 < muM x.2 := fun x h => by
  have h0 : x.2.cd = 0 := by unfold filC at h; simp at h; exact h.1
  unfold filSt
  split
  · exact Nat.lt_of_le_of_lt (mu_eat _ _) (Nat.lt_of_le_of_lt (mu_take _ (by decide)) (mu_eat_lt h0 _))
  · split
    · exact mu_dcl_lt 8 h0
    · simp only []; rw [mu_bad _ _ (by decide)]; exact mu_pos h0
-- how many items there are
theorem whM_inv {σ : Type} {c : σ → Bool} {f : σ → σ} {p : σ → PS} {Φ : σ → Nat} (h : ∀ x, c x = true → Φ (f x) ≤ Φ x) (x : σ) : Φ (whM c f p x) ≤ Φ x := by
  unfold whM
  suffices H : ∀ n x, Φ (lpM c f n x) ≤ Φ x from H _ _
  clear x
  intro n
  induction n with
  | zero => intro x; exact Nat.le_refl _
  | succ n ih =>
    intro x
    rw [lpM]
    by_cases hc : c x = true
    · rw [if_pos hc]; exact Nat.le_trans (ih _) (h x hc)
    · rw [if_neg hc]; exact Nat.le_refl _
def tot (d : MD) : Nat := d.fields.length + d.oneofs.length + d.decls.length + d.res.length + d.syms.length
theorem one_tot (i : Int) (x : List MF × PS) (h : endC x.2 = true) : (oneSt i x).1.length + 3 * muM (oneSt i x).2 ≤ x.1.length + 3 * muM x.2 := by
  have h1 := one_dec i x h
  have h2 : (oneSt i x).1.length = x.1.length + 1 := by simp [oneSt]
  omega
theorem oneL_tot (i : Int) (x : List MF × PS) : (oneL i x).1.length + 3 * muM (oneL i x).2 ≤ x.1.length + 3 * muM x.2 :=
  whM_inv (p := (·.2)) (Φ := fun x => x.1.length + 3 * muM x.2) (fun x h => one_tot i x h) x
theorem onB_tot (i : Int) (fs : List MF) {s : PS} (h : s.cd = 0) : (onB i fs s).1.length + 3 * muM (onB i fs s).2 + 2 ≤ fs.length + 3 * muM s := by
  have h1 := oneL_tot i (oneSt i (fs, eatM (onA s).2 [123]))
  have h2 : (oneSt i (fs, eatM (onA s).2 [123])).1.length = fs.length + 1 := by simp [oneSt]
  have h3 : muM (oneSt i (fs, eatM (onA s).2 [123])).2 ≤ muM (eatM s wOneof) := Nat.le_trans (mu_fld _ _ _) (Nat.le_trans (mu_eat _ _) (mu_take _ (by decide)))
  have h4 := mu_eat_lt h wOneof
  unfold onB
  omega
theorem oneof_tot (d : MD) {s : PS} (h : s.cd = 0) : tot (oneofM d s).1 + 3 * muM (oneofM d s).2 ≤ tot d + 3 * muM s := by
  have h1 := onB_tot d.oneofs.length d.fields h
  have h2 : muM (oneofM d s).2 ≤ muM (onB d.oneofs.length d.fields s).2 := mu_eat _ _
  have h3 : tot (oneofM d s).1 + d.fields.length = tot d + 1 + (onB d.oneofs.length d.fields s).1.length := by unfold tot oneofM; simp; omega
  omega
theorem rng_tot (x : List MR × PS) (h : isM x.2 [44] = true) : (rngSt x).1.length + 3 * muM (rngSt x).2 ≤ x.1.length + 3 * muM x.2 := by
  have h1 := rng_dec x h
  have h2 : (rngSt x).1.length = x.1.length + 1 := by simp [rngSt]
  omega
theorem rngL_tot (x : List MR × PS) : (rngL x).1.length + 3 * muM (rngL x).2 ≤ x.1.length + 3 * muM x.2 :=
  whM_inv (p := (·.2)) (Φ := fun x => x.1.length + 3 * muM x.2) (fun x h => rng_tot x h) x
theorem rsB_tot (rs : List MR) {s : PS} (h : s.cd = 0) : (rsB rs s).1.length + 3 * muM (rsB rs s).2 + 2 ≤ rs.length + 3 * muM s := by
  have h1 := rngL_tot (rs ++ [(rngM (eatM s wReserved)).1], (rngM (eatM s wReserved)).2)
  have h2 : (rs ++ [(rngM (eatM s wReserved)).1]).length = rs.length + 1 := by simp
  have h3 := mu_rng (eatM s wReserved)
  have h4 := mu_eat_lt h wReserved
  unfold rsB
  simp only [] at h1
  omega
theorem res_tot (d : MD) {s : PS} (h : s.cd = 0) : tot (resM d s).1 + 3 * muM (resM d s).2 ≤ tot d + 3 * muM s := by
  have h1 := rsB_tot d.res h
  have h2 : muM (resM d s).2 ≤ muM (rsB d.res s).2 := mu_eat _ _
  have h3 : tot (resM d s).1 + d.res.length = tot d + (rsB d.res s).1.length := by unfold tot resM; simp; omega
  omega
theorem mem_tot {sub : PS → MD × PS} (hs : ∀ s, s.cd = 0 → muM (sub s).2 < muM s) {x : MD × PS} (h : x.2.cd = 0) : tot (memM sub x).1 + 3 * muM (memM sub x).2 ≤ tot x.1 + 3 * muM x.2 := by
  have hd := mem_dec hs h
  unfold memM at hd ⊢
  split
  · rename_i h1
    rw [if_pos h1] at hd
    unfold tot
    simp only [List.length_append, List.length_cons, List.length_nil] at hd ⊢
    omega
  · rename_i h1
    rw [if_neg h1] at hd
    split
    · exact oneof_tot x.1 h
    · rename_i h2
      rw [if_neg h2] at hd
      split
      · exact res_tot x.1 h
      · rename_i h3
        rw [if_neg h3] at hd
        split
        · rename_i h4
          rw [if_pos h4] at hd
          unfold tot
          simp only [List.length_append, List.length_cons, List.length_nil] at hd ⊢
          omega
        · rename_i h4
          rw [if_neg h4] at hd
          split
          · rename_i h5
            rw [if_pos h5] at hd
            unfold tot
            simp only [List.length_append, List.length_cons, List.length_nil] at hd ⊢
            omega
          · rename_i h5
            rw [if_neg h5] at hd
            unfold tot
            simp only [List.length_append, List.length_cons, List.length_nil] at hd ⊢
            omega
theorem fil_tot (x : MT × PS) (h : filC x = true) : (filSt x).1.imps.length + (filSt x).1.decls.length + 3 * muM (filSt x).2 ≤ x.1.imps.length + x.1.decls.length + 3 * muM x.2 := by
  have hd := fil_dec x h
  unfold filSt at hd ⊢
  split
  · rename_i h1
    rw [if_pos h1] at hd
    simp only [List.length_append, List.length_cons, List.length_nil] at hd ⊢
    omega
  · rename_i h1
    rw [if_neg h1] at hd
    split
    · rename_i h2
      rw [if_pos h2] at hd
      simp only [List.length_append, List.length_cons, List.length_nil] at hd ⊢
      omega
    · rename_i h2
      rw [if_neg h2] at hd
      simp only [] at hd ⊢
      omega
end Go.Proofs.YtidimdbnnnpplaaDoor
namespace Go.Proofs.YtidimdbnnnpplaaDoor
open Go.RowKit
set_option maxRecDepth 1000000
set_option linter.unusedVariables false

/-- The end's word is the last, and no other. -/
def wfL : List Mw → Prop
  | [] => False
  | x :: r => (x.kind = 5 ∧ r = []) ∨ (x.kind ≠ 5 ∧ wfL r)
structure okW (m : Mw) : Prop where
  bd : ∀ x ∈ m.s, 0 ≤ x ∧ x ≤ 255
  sl : m.s.length ≤ 65536
  own : m.kind = 1 ∨ m.kind = 4 ∨ m.s = [] ∨ ∃ c r, m.s = c :: r ∧ (digB c = true ∨ c = 34)
structure Ws (l : List Mw) : Prop where
  wf : wfL l
  ok : ∀ m ∈ l, okW m
  len : l.length ≤ 70000
theorem Ws.ne {l : List Mw} (h : Ws l) : ∃ x r, l = x :: r := by
  cases l with
  | nil => exact h.wf.elim
  | cons x r => exact ⟨x, r, rfl⟩
theorem Ws.tail {l : List Mw} (h : Ws l) (hk : (l.headD zM).kind ≠ 5) : Ws l.tail := by
  obtain ⟨x, r, rfl⟩ := h.ne
  refine ⟨?_, fun m hm => h.ok m (List.mem_cons_of_mem _ hm), by have := h.len; simp at this ⊢; omega⟩
  rcases h.wf with ⟨h1, _⟩ | ⟨_, h2⟩
  · exact absurd h1 hk
  · exact h2
theorem okW_z : okW zM := ⟨by simp [zM], by simp [zM], .inr (.inr (.inl rfl))⟩
theorem Ws.hd {s : PS} (h : Ws s.l) : okW (hdM s) := by
  obtain ⟨x, r, e⟩ := h.ne
  unfold hdM
  rw [e]
  exact h.ok x (by rw [e]; simp)
/-- A word that stands for itself. -/
def plainW (x : List Int) : Prop := (∀ c ∈ x, 0 ≤ c ∧ c ≤ 255) ∧ ∃ c r, x = c :: r ∧ digB c = false ∧ c ≠ 34
theorem plain_is {m : Mw} (h : okW m) {x : List Int} (hx : plainW x) (e : m.s = x) : m.kind = 1 ∨ m.kind = 4 := by
  obtain ⟨c, r, e2, hd, h34⟩ := hx.2
  rcases h.own with h1 | h1 | h1 | ⟨c', r', h1, h2⟩
  · exact .inl h1
  · exact .inr h1
  · rw [e, e2] at h1; cases h1
  · rw [e, e2] at h1
    cases h1
    rcases h2 with h2 | h2
    · rw [hd] at h2; cases h2
    · exact absurd h2 h34
theorem is_plain {s : PS} (h0 : s.cd = 0) (h : okW (hdM s)) {x : List Int} (hx : plainW x) : isM s x = decide ((hdM s).s = x) := by
  unfold isM
  by_cases e : (hdM s).s = x
  · have := plain_is h hx e
    simp [h0, e, this]
  · simp [e]
-- behind a fault
section
variable {s : PS} (h : s.cd ≠ 0)
include h
theorem is_bad (x : List Int) : isM s x = false := by unfold isM; simp [h]
theorem eat_bad (x : List Int) : eatM s x = s := by unfold eatM; rw [if_neg h]
theorem take_bad (k : Int) : takeM s k = (zM, s) := by unfold takeM; rw [if_neg h]
theorem badM_bad (c : Int) : badM s c = s := by unfold badM; rw [if_neg h]
theorem typ_bad : (typM s).2.2 = s := by
  unfold typM typL
  simp only [take_bad h]
  rw [whM_stop (show typC (zM.s, s) = false from is_bad h _)]
theorem nam_bad : (namM s).2.2 = s := by unfold namM; simp only [take_bad h, eat_bad h]
theorem op_bad (f : MF) : (opM f s).2 = s := by
  unfold opM opB opA
  simp only [eat_bad h, is_bad h]
  rfl
theorem fldA_bad (label : Int) (mark : Int × Int) : (fldA s label mark).2 = s := by unfold fldA; simp only [typ_bad h, nam_bad h]
theorem fld_bad (label : Int) (mark : Int × Int) : (fldM s label mark).2 = s := by
  unfold fldM
  rw [fldA_bad h]
  rw [if_neg (by simp [is_bad h])]
  simp only [eat_bad h]
theorem endC_bad : endC s = false := by unfold endC; simp [h]
theorem oneL_bad (i : Int) (fs : List MF) : oneL i (fs, s) = (fs, s) := by unfold oneL; exact whM_stop (endC_bad h)
theorem symL_bad (l : List MS) : symL (l, s) = (l, s) := by unfold symL; exact whM_stop (endC_bad h)
theorem rngL_bad (l : List MR) : rngL (l, s) = (l, s) := by unfold rngL; exact whM_stop (is_bad h _)
theorem memL_bad (sub : PS → MD × PS) (d : MD) : memL sub (d, s) = (d, s) := by unfold memL; exact whM_stop (endC_bad h)
theorem one_bad (i : Int) : (oneM i s).2 = s := fld_bad h _ _
theorem rng_bad : (rngM s).2 = s := by
  unfold rngM
  simp only [take_bad h, is_bad h]
  rfl
end
theorem bad_cd {s : PS} {c : Int} (hc : c ≠ 0) : (badM s c).cd ≠ 0 := by
  unfold badM
  by_cases h : s.cd = 0
  · rw [if_pos h]; exact hc
  · rw [if_neg h]; exact h

-- the words of a text
theorem tok_opens {xs : List Int} {i e : Nat} {k n : Int} {b : List Int} (h : tok xs i = .word k e n b) : k = 1 ∨ k = 4 ∨ (digB (bt xs i) = true ∨ bt xs i = 34) := by
  unfold tok at h
  split at h
  · cases h
  · split at h
    · unfold tokC at h
      split at h
      · cases h
      · split at h
        · split at h <;> cases h
        · cases h
    · split at h
      · cases h; exact .inl rfl
      · split at h
        · exact .inr (.inr (.inl (by assumption)))
        · split at h
          · exact .inr (.inr (.inr (by assumption)))
          · split at h
            · cases h; exact .inr (.inl rfl)
            · cases h
theorem cut_opens {xs : List Int} {a b : Nat} (h : a < b) (hb : b ≤ xs.length) : ∃ r, cut xs a b = bt xs a :: r := by
  refine ⟨cut xs (a + 1) b, ?_⟩
  unfold cut bt
  have h1 : a < (xs.take b).length := by simp; omega
  rw [List.drop_eq_getElem_cons h1]
  have h2 : a < xs.length := by omega
  simp [h2]
theorem ch_ws {xs : List Int} (hx : ∀ x ∈ xs, 0 ≤ x ∧ x ≤ 255) (hl : xs.length ≤ 65536) : ∀ (l : List Wd) (i : Nat), Ch xs i l → wfL (l.map (mw xs)) ∧ (∀ m ∈ l.map (mw xs), okW m) ∧ l.length + i ≤ xs.length + 1
  | [], _, h => h.elim
  | x :: r, i, h => by
    have hsl : (cut xs x.st x.en).length ≤ 65536 := by unfold cut; simp; omega
    rcases h with ⟨rfl, rfl, h3⟩ | ⟨h1, h2, h3, h4, h5, h6, hc⟩
    · refine ⟨.inl ⟨rfl, rfl⟩, fun m hm => ?_, by simp; omega⟩
      simp at hm
      subst hm
      exact ⟨cut_bd hx _ _, hsl, .inr (.inr (.inl (by unfold mw; simp only []; rw [cut_nil])))⟩
    · obtain ⟨g1, g2, g3⟩ := ch_ws hx hl r _ hc
      refine ⟨.inr ⟨by unfold mw; simp only []; omega, g1⟩, fun m hm => ?_, by simp; omega⟩
      simp only [List.map_cons, List.mem_cons] at hm
      rcases hm with rfl | hm
      · refine ⟨cut_bd hx _ _, hsl, ?_⟩
        obtain ⟨q, hq⟩ := cut_opens h2 h3
        rcases tok_opens h6 with e | e | e
        · exact .inl e
        · exact .inr (.inl e)
        · exact .inr (.inr (.inr ⟨_, q, hq, e⟩))
      · exact g2 m hm
theorem outE_ws {xs : List Int} (hx : ∀ x ∈ xs, 0 ≤ x ∧ x ≤ 255) (h : (outE xs).2.1 = 0) : Ws (outE xs).1 := by
  unfold outE at h ⊢
  by_cases h1 : 65536 < xs.length
  · rw [if_pos h1] at h; exact absurd h (by decide)
  · rw [if_neg h1] at h ⊢
    by_cases h2 : (lx xs).code = 0
    · rw [if_pos h2]
      obtain ⟨g1, g2, g3⟩ := ch_ws hx (by omega) _ _ (lx_ch h2)
      exact ⟨g1, g2, by simp; omega⟩
    · rw [if_neg h2] at h; exact absurd h h2
theorem outE_bad_nil {xs : List Int} (h : (outE xs).2.1 ≠ 0) : (outE xs).1 = [] := by
  unfold outE at h ⊢
  split
  · rfl
  · rename_i h1
    rw [if_neg h1] at h
    split
    · rename_i h2; rw [if_pos h2] at h; exact absurd rfl h
    · rfl
end Go.Proofs.YtidimdbnnnpplaaDoor
namespace Go.Proofs.YtidimdbnnnpplaaDoor
open Go.RowKit
set_option maxRecDepth 1000000
set_option linter.unusedVariables false
set_option maxHeartbeats 1000000

/-- A row of structs of k cells that can be read, in a block that Z names. -/
structure RowV (w : World) (Z : Nat → Prop) (k : Nat) (a : Option Addr) (len cap : Nat) (fl : List Value) : Prop where
  length : fl.length = len * k
  le : len ≤ cap
  max : cap ≤ 9223372036854775807
  cells : (len = 0 ∧ (a = none → cap = 0)) ∨ ∃ b off, a = some ⟨b, off, none⟩ ∧ Z b ∧ ∀ j u, fl[j]? = some u → w.cell? ⟨b, off + j, none⟩ = some u
theorem RowV.keep {w w' : World} {Z f : Nat → Prop} {k : Nat} {a : Option Addr} {len cap : Nat} {fl : List Value} (h : RowV w Z k a len cap fl) (g : Keep f w w') (hf : ∀ k, Z k → f k) : RowV w' Z k a len cap fl := by
  refine ⟨h.length, h.le, h.max, ?_⟩
  rcases h.cells with h0 | ⟨b, off, rfl, hz, hc⟩
  · exact .inl h0
  · refine .inr ⟨b, off, rfl, hz, fun j u hu => ?_⟩
    have h1 := hc j u hu
    have hlt := World.block_lt_of_cell? _ _ h1
    rw [← h1]
    simp only [World.cell?]
    rw [g.block b hlt (hf b hz)]
theorem RowV.weak {w : World} {Z Z' : Nat → Prop} {k : Nat} {a : Option Addr} {len cap : Nat} {fl : List Value} (h : RowV w Z k a len cap fl) (hz : ∀ k, Z k → Z' k) : RowV w Z' k a len cap fl :=
  ⟨h.length, h.le, h.max, h.cells.imp id fun ⟨b, off, e, h1, h2⟩ => ⟨b, off, e, hz b h1, h2⟩⟩
def RowS (w : World) (Z : Nat → Prop) (k : Nat) (v : Value) (n : Nat) (fl : List Value) : Prop := ∃ a cap, v = .slice a n cap ∧ RowV w Z k a n cap fl
theorem RowS.keep {w w' : World} {Z f : Nat → Prop} {k : Nat} {v : Value} {n : Nat} {fl : List Value} (h : RowS w Z k v n fl) (g : Keep f w w') (hf : ∀ k, Z k → f k) : RowS w' Z k v n fl := by
  obtain ⟨a, c, e, h⟩ := h
  exact ⟨a, c, e, h.keep g hf⟩
theorem RowS.weak {w : World} {Z Z' : Nat → Prop} {k : Nat} {v : Value} {n : Nat} {fl : List Value} (h : RowS w Z k v n fl) (hz : ∀ k, Z k → Z' k) : RowS w Z' k v n fl := by
  obtain ⟨a, c, e, h⟩ := h
  exact ⟨a, c, e, h.weak hz⟩
theorem own_row {w : World} {base e size n : Nat} {v : Value} {fl : List Value} (h : w.ownsRow base e size v n fl) {Z : Nat → Prop} (hz : ∀ k, v.ownBlock = some k → Z k) : RowS w Z size v n fl := by
  have hl := h.1
  rcases h.2 with ⟨rfl, h0⟩ | ⟨g, cap, cur, rfl, hbg, hg, hnc, hcm, hcs, htake⟩
  · subst h0
    exact ⟨none, 0, rfl, hl, Nat.le_refl _, by omega, .inl ⟨rfl, fun _ => rfl⟩⟩
  · refine ⟨_, cap, rfl, hl, hnc, by unfold maxLen at hcm; omega, .inr ⟨g, 0, rfl, hz g rfl, fun j u hu => ?_⟩⟩
    have := h.cells (g := g) rfl j u hu
    have hadd : (⟨g, 0, none⟩ : Addr).add j = ⟨g, 0 + j, none⟩ := by unfold Addr.add; split <;> simp_all
    rwa [hadd] at this
theorem own_type {w : World} {base e size n k : Nat} {v : Value} {fl : List Value} (h : w.ownsRow base e size v n fl) (hk : v.ownBlock = some k) : base ≤ k ∧ k < w.heap.size ∧ ∃ cur, w.heap[k]? = some (.cells cur e (0, 0)) := by
  rcases h.2 with ⟨rfl, h0⟩ | ⟨g, cap, cur, rfl, hbg, hg, hnc, hcm, hcs, htake⟩
  · simp [Value.ownBlock] at hk
  · simp [Value.ownBlock] at hk
    subst hk
    exact ⟨hbg, (Array.getElem?_eq_some_iff.1 hg).1, cur, hg⟩
theorem own_apart {w : World} {base e1 e2 s1 s2 n1 n2 : Nat} {v1 v2 : Value} {f1 f2 : List Value} (h1 : w.ownsRow base e1 s1 v1 n1 f1) (h2 : w.ownsRow base e2 s2 v2 n2 f2) (hne : e1 ≠ e2) {k : Nat} (hk : v1.ownBlock = some k) : v2.ownBlock ≠ some k := by
  intro hk2
  obtain ⟨_, _, c1, g1⟩ := own_type h1 hk
  obtain ⟨_, _, c2, g2⟩ := own_type h2 hk2
  rw [g1] at g2
  cases g2
  exact hne rfl
theorem flatM_get {α : Type} {g : α → List Value} {k : Nat} (hk : ∀ x, (g x).length = k) : ∀ (l : List α) (i j : Nat) (x : α) (u : Value), l[i]? = some x → (g x)[j]? = some u → (l.flatMap g)[i * k + j]? = some u
  | [], i, j, x, u, h, _ => by simp at h
  | y :: l, 0, j, x, u, h, hu => by
    simp at h
    subst h
    have hj : j < (g y).length := (List.getElem?_eq_some_iff.1 hu).1
    rw [List.flatMap_cons, Nat.zero_mul, Nat.zero_add, List.getElem?_append_left hj]
    exact hu
  | y :: l, i + 1, j, x, u, h, hu => by
    have h' : l[i]? = some x := by simpa using h
    rw [List.flatMap_cons, List.getElem?_append_right (by rw [hk, Nat.add_mul]; omega), hk]
    rw [show (i + 1) * k + j - k = i * k + j by rw [Nat.add_mul]; omega]
    exact flatM_get hk l i j x u h' hu
theorem flatM_len {α : Type} {g : α → List Value} {k : Nat} (hk : ∀ x, (g x).length = k) : ∀ (l : List α), (l.flatMap g).length = l.length * k
  | [] => by simp
  | y :: l => by rw [List.flatMap_cons, List.length_append, hk, flatM_len hk l, List.length_cons, Nat.add_mul]; omega
def cF (f : MF) : List Value := [.string (strOfNums f.name), .string (strOfNums f.ty), .string (strOfNums f.key), .int .u64 f.num, .int .i64 f.label, .int .i64 f.packed, .int .i64 f.oneof, .int .i64 f.at1.1, .int .i64 f.at1.2, .int .i64 f.nat1.1, .int .i64 f.nat1.2, .int .i64 f.tat.1, .int .i64 f.tat.2, .int .i64 f.mat.1, .int .i64 f.mat.2]
def cI (f : MI) : List Value := [.string (strOfNums f.name), .int .i64 f.at1.1, .int .i64 f.at1.2]
def cO (f : MO) : List Value := [.string (strOfNums f.name), .int .i64 f.at1.1, .int .i64 f.at1.2]
def cR (f : MR) : List Value := [.int .u64 f.low, .int .u64 f.high, .int .i64 f.at1.1, .int .i64 f.at1.2]
def cS (f : MS) : List Value := [.string (strOfNums f.name), .int .u64 f.num, .int .i64 f.at1.1, .int .i64 f.at1.2, .int .i64 f.nat1.1, .int .i64 f.nat1.2]
/-- A declaration and its five lists' values: fields, oneofs, declarations, ranges, symbols. -/
structure DV where
  d : MD
  f : Value
  o : Value
  dd : Value
  r : Value
  s : Value
def cD (x : DV) : List Value := [.bool x.d.enum, .string (strOfNums x.d.name), .int .i64 x.d.at1.1, .int .i64 x.d.at1.2, x.f, x.o, x.dd, x.r, x.s]
theorem cF_len (x : MF) : (cF x).length = 15 := rfl
theorem cI_len (x : MI) : (cI x).length = 3 := rfl
theorem cO_len (x : MO) : (cO x).length = 3 := rfl
theorem cR_len (x : MR) : (cR x).length = 4 := rfl
theorem cS_len (x : MS) : (cS x).length = 6 := rfl
theorem cD_len (x : DV) : (cD x).length = 9 := rfl
/-- A declaration's lists, in memory, so deep. -/
def RD : Nat → World → (Nat → Prop) → DV → Prop
  | 0, _, _, _ => False
  | n + 1, w, Z, x => RowS w Z 15 x.f x.d.fields.length (x.d.fields.flatMap cF) ∧ RowS w Z 3 x.o x.d.oneofs.length (x.d.oneofs.flatMap cO) ∧ RowS w Z 4 x.r x.d.res.length (x.d.res.flatMap cR) ∧ RowS w Z 6 x.s x.d.syms.length (x.d.syms.flatMap cS) ∧
    ∃ dvs : List DV, dvs.map DV.d = x.d.decls ∧ RowS w Z 9 x.dd dvs.length (dvs.flatMap cD) ∧ ∀ y ∈ dvs, RD n w Z y
theorem RD.keep {w w' : World} {Z f : Nat → Prop} (g : Keep f w w') (hf : ∀ k, Z k → f k) : ∀ (n : Nat) (x : DV), RD n w Z x → RD n w' Z x
  | 0, _, h => h
  | n + 1, x, ⟨h1, h2, h3, h4, dvs, h5, h6, h7⟩ => ⟨h1.keep g hf, h2.keep g hf, h3.keep g hf, h4.keep g hf, dvs, h5, h6.keep g hf, fun y hy => RD.keep g hf n y (h7 y hy)⟩
theorem RD.weak {w : World} {Z Z' : Nat → Prop} (hz : ∀ k, Z k → Z' k) : ∀ (n : Nat) (x : DV), RD n w Z x → RD n w Z' x
  | 0, _, h => h
  | n + 1, x, ⟨h1, h2, h3, h4, dvs, h5, h6, h7⟩ => ⟨h1.weak hz, h2.weak hz, h3.weak hz, h4.weak hz, dvs, h5, h6.weak hz, fun y hy => RD.weak hz n y (h7 y hy)⟩
theorem RD.more {w : World} {Z : Nat → Prop} : ∀ (n : Nat) (x : DV), RD n w Z x → RD (n + 1) w Z x
  | 0, _, h => h.elim
  | n + 1, x, ⟨h1, h2, h3, h4, dvs, h5, h6, h7⟩ => ⟨h1, h2, h3, h4, dvs, h5, h6, fun y hy => RD.more n y (h7 y hy)⟩
theorem RD.upto {w : World} {Z : Nat → Prop} {n m : Nat} (h : n ≤ m) (x : DV) (hx : RD n w Z x) : RD m w Z x := by
  induction h with
  | refl => exact hx
  | step _ ih => exact RD.more _ _ ih
/-- One of the five lists' own blocks. -/
def DV.mine (x : DV) (k : Nat) : Prop := x.f.ownBlock = some k ∨ x.o.ownBlock = some k ∨ x.dd.ownBlock = some k ∨ x.r.ownBlock = some k ∨ x.s.ownBlock = some k
/-- A declaration that a call builds. -/
structure OwnD (w : World) (base n : Nat) (tF tO tD tR tS : TypeId) (E : Nat → Prop) (x : DV) : Prop where
  f : w.ownsRow base tF 15 x.f x.d.fields.length (x.d.fields.flatMap cF)
  o : w.ownsRow base tO 3 x.o x.d.oneofs.length (x.d.oneofs.flatMap cO)
  r : w.ownsRow base tR 4 x.r x.d.res.length (x.d.res.flatMap cR)
  s : w.ownsRow base tS 6 x.s x.d.syms.length (x.d.syms.flatMap cS)
  dd : ∃ (Z : Nat → Prop) (dvs : List DV), dvs.map DV.d = x.d.decls ∧ w.ownsRow base tD 9 x.dd dvs.length (dvs.flatMap cD) ∧ (∀ k, Z k → base ≤ k ∧ k < w.heap.size) ∧ (∀ k, x.mine k ∨ E k → ¬ Z k) ∧ ∀ y ∈ dvs, RD n w Z y
  me : ∀ k, x.mine k → ¬ E k
  eb : ∀ k, E k → k < w.heap.size
section
variable {w w' : World} {base n : Nat} {tF tO tD tR tS : TypeId} {E : Nat → Prop} {x : DV}
theorem OwnD.lt (h : OwnD w base n tF tO tD tR tS E x) {k : Nat} (hk : x.mine k) : base ≤ k ∧ k < w.heap.size := by
  obtain ⟨Z, dvs, _, hd, _⟩ := h.dd
  rcases hk with hk | hk | hk | hk | hk
  · exact ⟨(own_type h.f hk).1, (own_type h.f hk).2.1⟩
  · exact ⟨(own_type h.o hk).1, (own_type h.o hk).2.1⟩
  · exact ⟨(own_type hd hk).1, (own_type hd hk).2.1⟩
  · exact ⟨(own_type h.r hk).1, (own_type h.r hk).2.1⟩
  · exact ⟨(own_type h.s hk).1, (own_type h.s hk).2.1⟩
/-- What is built stays, where a call keeps all from base on but what E names. -/
theorem OwnD.keep {f : Nat → Prop} (h : OwnD w base n tF tO tD tR tS E x) (g : Keep f w w') (hf : ∀ k, base ≤ k → ¬ E k → f k) : OwnD w' base n tF tO tD tR tS E x := by
  obtain ⟨Z, dvs, e, hd, hz, hm, hy⟩ := h.dd
  refine ⟨own_keep h.f (fun k hk => hf k (own_type h.f hk).1 (h.me k (.inl hk))) g, own_keep h.o (fun k hk => hf k (own_type h.o hk).1 (h.me k (.inr (.inl hk)))) g, own_keep h.r (fun k hk => hf k (own_type h.r hk).1 (h.me k (.inr (.inr (.inr (.inl hk)))))) g, own_keep h.s (fun k hk => hf k (own_type h.s hk).1 (h.me k (.inr (.inr (.inr (.inr hk)))))) g,
    ⟨Z, dvs, e, own_keep hd (fun k hk => hf k (own_type hd hk).1 (h.me k (.inr (.inr (.inl hk))))) g, fun k hk => ⟨(hz k hk).1, Nat.lt_of_lt_of_le (hz k hk).2 g.size⟩, hm, fun y hy' => RD.keep g (fun k hk => hf k (hz k hk).1 (fun he => hm k (.inr he) hk)) n y (hy y hy')⟩, h.me, fun k hk => Nat.lt_of_lt_of_le (h.eb k hk) g.size⟩
theorem OwnD.kept (h : OwnD w base n tF tO tD tR tS E x) (hb : Below w.heap.size w w') : OwnD w' base n tF tO tD tR tS E x := h.keep (f := fun _ => True) (Keep.ofBelow hb) (fun _ _ _ => trivial)
theorem OwnD.nil (w : World) (base n : Nat) (tF tO tD tR tS : TypeId) (E : Nat → Prop) (hE : ∀ k, E k → k < w.heap.size) (e : Bool) (nm : List Int) (a : Int × Int) : OwnD w base n tF tO tD tR tS E ⟨⟨e, nm, a, [], [], [], [], []⟩, .slice none 0 0, .slice none 0 0, .slice none 0 0, .slice none 0 0, .slice none 0 0⟩ :=
  ⟨World.ownsRow_nil _ _ _ _, World.ownsRow_nil _ _ _ _, World.ownsRow_nil _ _ _ _, World.ownsRow_nil _ _ _ _, ⟨fun _ => False, [], rfl, World.ownsRow_nil _ _ _ _, fun _ h => h.elim, fun _ _ h => h, by simp⟩, fun k hk => by simp [DV.mine, Value.ownBlock] at hk, hE⟩
/-- What is built can be read. -/
theorem OwnD.rd (h : OwnD w base n tF tO tD tR tS E x) : RD (n + 1) w (fun k => base ≤ k ∧ k < w.heap.size) x := by
  have hl := fun k (hk : x.mine k) => h.lt hk
  obtain ⟨Z, dvs, e, hd, hz, hm, hy⟩ := h.dd
  refine ⟨own_row h.f (fun k hk => hl k (.inl hk)), own_row h.o (fun k hk => hl k (.inr (.inl hk))), own_row h.r (fun k hk => hl k (.inr (.inr (.inr (.inl hk))))), own_row h.s (fun k hk => hl k (.inr (.inr (.inr (.inr hk))))), dvs, e, own_row hd (fun k hk => hl k (.inr (.inr (.inl hk)))), fun y hy' => RD.weak hz n y (hy y hy')⟩
/-- A row that grew: where its block is. -/
theorem grow_mine {v v' : Value} (g : Grow w w' v v') {k : Nat} (hk : v'.ownBlock = some k) : v.ownBlock = some k ∨ w.heap.size ≤ k := by
  rcases g.own with h | h
  · exact .inl (h.symm.trans hk)
  · exact .inr (h k hk)

theorem OwnD.addF (h : OwnD w base n tF tO tD tR tS E x) (hO : tF ≠ tO) (hR : tF ≠ tR) (hS : tF ≠ tS) (hD : tF ≠ tD) {v' : Value} {l : List MF} (g : Grow w w' x.f v') (ho : w'.ownsRow base tF 15 v' l.length (l.flatMap cF)) :
    OwnD w' base n tF tO tD tR tS E ⟨{ x.d with fields := l }, v', x.o, x.dd, x.r, x.s⟩ := by
  have hK : Keep (fun k => x.f.ownBlock ≠ some k) w w' := Keep.ofGrow g (fun _ hk => hk)
  obtain ⟨Z, dvs, e, hd, hz, hm, hy⟩ := h.dd
  have hd' := own_keep hd (fun k hk (e2 : x.f.ownBlock = some k) => own_apart h.f hd hD e2 hk) hK
  have hO' := own_keep h.o (fun k hk (e2 : x.f.ownBlock = some k) => own_apart h.f h.o hO e2 hk) hK
  have hR' := own_keep h.r (fun k hk (e2 : x.f.ownBlock = some k) => own_apart h.f h.r hR e2 hk) hK
  have hS' := own_keep h.s (fun k hk (e2 : x.f.ownBlock = some k) => own_apart h.f h.s hS e2 hk) hK
  refine ⟨ho, hO', hR', hS', ⟨Z, dvs, e, hd', fun k hk => ⟨(hz k hk).1, Nat.lt_of_lt_of_le (hz k hk).2 g.size⟩, fun k hk hZ => ?_, fun y hy' => RD.keep hK (fun k hk e2 => hm k (.inl (.inl e2)) hk) n y (hy y hy')⟩, fun k hk he => ?_, fun k hk => Nat.lt_of_lt_of_le (h.eb k hk) g.size⟩
  · have hlt := (hz k hZ).2
    rcases hk with (hk | hk | hk | hk | hk) | hk
    · rcases grow_mine g hk with hk | hk
      · exact hm k (.inl (.inl hk)) hZ
      · omega
    · exact hm k (.inl (.inr (.inl hk))) hZ
    · exact hm k (.inl (.inr (.inr (.inl hk)))) hZ
    · exact hm k (.inl (.inr (.inr (.inr (.inl hk))))) hZ
    · exact hm k (.inl (.inr (.inr (.inr (.inr hk))))) hZ
    · exact hm k (.inr hk) hZ
  · have hlt := h.eb k he
    rcases hk with hk | hk | hk | hk | hk
    · rcases grow_mine g hk with hk | hk
      · exact h.me k (.inl hk) he
      · omega
    · exact h.me k (.inr (.inl hk)) he
    · exact h.me k (.inr (.inr (.inl hk))) he
    · exact h.me k (.inr (.inr (.inr (.inl hk)))) he
    · exact h.me k (.inr (.inr (.inr (.inr hk)))) he
theorem OwnD.addO (h : OwnD w base n tF tO tD tR tS E x) (hF : tO ≠ tF) (hR : tO ≠ tR) (hS : tO ≠ tS) (hD : tO ≠ tD) {v' : Value} {l : List MO} (g : Grow w w' x.o v') (ho : w'.ownsRow base tO 3 v' l.length (l.flatMap cO)) :
    OwnD w' base n tF tO tD tR tS E ⟨{ x.d with oneofs := l }, x.f, v', x.dd, x.r, x.s⟩ := by
  have hK : Keep (fun k => x.o.ownBlock ≠ some k) w w' := Keep.ofGrow g (fun _ hk => hk)
  obtain ⟨Z, dvs, e, hd, hz, hm, hy⟩ := h.dd
  have hd' := own_keep hd (fun k hk (e2 : x.o.ownBlock = some k) => own_apart h.o hd hD e2 hk) hK
  have hF' := own_keep h.f (fun k hk (e2 : x.o.ownBlock = some k) => own_apart h.o h.f hF e2 hk) hK
  have hR' := own_keep h.r (fun k hk (e2 : x.o.ownBlock = some k) => own_apart h.o h.r hR e2 hk) hK
  have hS' := own_keep h.s (fun k hk (e2 : x.o.ownBlock = some k) => own_apart h.o h.s hS e2 hk) hK
  refine ⟨hF', ho, hR', hS', ⟨Z, dvs, e, hd', fun k hk => ⟨(hz k hk).1, Nat.lt_of_lt_of_le (hz k hk).2 g.size⟩, fun k hk hZ => ?_, fun y hy' => RD.keep hK (fun k hk e2 => hm k (.inl (.inr (.inl e2))) hk) n y (hy y hy')⟩, fun k hk he => ?_, fun k hk => Nat.lt_of_lt_of_le (h.eb k hk) g.size⟩
  · have hlt := (hz k hZ).2
    rcases hk with (hk | hk | hk | hk | hk) | hk
    · exact hm k (.inl (.inl hk)) hZ
    · rcases grow_mine g hk with hk | hk
      · exact hm k (.inl (.inr (.inl hk))) hZ
      · omega
    · exact hm k (.inl (.inr (.inr (.inl hk)))) hZ
    · exact hm k (.inl (.inr (.inr (.inr (.inl hk))))) hZ
    · exact hm k (.inl (.inr (.inr (.inr (.inr hk))))) hZ
    · exact hm k (.inr hk) hZ
  · have hlt := h.eb k he
    rcases hk with hk | hk | hk | hk | hk
    · exact h.me k (.inl hk) he
    · rcases grow_mine g hk with hk | hk
      · exact h.me k (.inr (.inl hk)) he
      · omega
    · exact h.me k (.inr (.inr (.inl hk))) he
    · exact h.me k (.inr (.inr (.inr (.inl hk)))) he
    · exact h.me k (.inr (.inr (.inr (.inr hk)))) he
theorem OwnD.addR (h : OwnD w base n tF tO tD tR tS E x) (hF : tR ≠ tF) (hO : tR ≠ tO) (hS : tR ≠ tS) (hD : tR ≠ tD) {v' : Value} {l : List MR} (g : Grow w w' x.r v') (ho : w'.ownsRow base tR 4 v' l.length (l.flatMap cR)) :
    OwnD w' base n tF tO tD tR tS E ⟨{ x.d with res := l }, x.f, x.o, x.dd, v', x.s⟩ := by
  have hK : Keep (fun k => x.r.ownBlock ≠ some k) w w' := Keep.ofGrow g (fun _ hk => hk)
  obtain ⟨Z, dvs, e, hd, hz, hm, hy⟩ := h.dd
  have hd' := own_keep hd (fun k hk (e2 : x.r.ownBlock = some k) => own_apart h.r hd hD e2 hk) hK
  have hF' := own_keep h.f (fun k hk (e2 : x.r.ownBlock = some k) => own_apart h.r h.f hF e2 hk) hK
  have hO' := own_keep h.o (fun k hk (e2 : x.r.ownBlock = some k) => own_apart h.r h.o hO e2 hk) hK
  have hS' := own_keep h.s (fun k hk (e2 : x.r.ownBlock = some k) => own_apart h.r h.s hS e2 hk) hK
  refine ⟨hF', hO', ho, hS', ⟨Z, dvs, e, hd', fun k hk => ⟨(hz k hk).1, Nat.lt_of_lt_of_le (hz k hk).2 g.size⟩, fun k hk hZ => ?_, fun y hy' => RD.keep hK (fun k hk e2 => hm k (.inl (.inr (.inr (.inr (.inl e2))))) hk) n y (hy y hy')⟩, fun k hk he => ?_, fun k hk => Nat.lt_of_lt_of_le (h.eb k hk) g.size⟩
  · have hlt := (hz k hZ).2
    rcases hk with (hk | hk | hk | hk | hk) | hk
    · exact hm k (.inl (.inl hk)) hZ
    · exact hm k (.inl (.inr (.inl hk))) hZ
    · exact hm k (.inl (.inr (.inr (.inl hk)))) hZ
    · rcases grow_mine g hk with hk | hk
      · exact hm k (.inl (.inr (.inr (.inr (.inl hk))))) hZ
      · omega
    · exact hm k (.inl (.inr (.inr (.inr (.inr hk))))) hZ
    · exact hm k (.inr hk) hZ
  · have hlt := h.eb k he
    rcases hk with hk | hk | hk | hk | hk
    · exact h.me k (.inl hk) he
    · exact h.me k (.inr (.inl hk)) he
    · exact h.me k (.inr (.inr (.inl hk))) he
    · rcases grow_mine g hk with hk | hk
      · exact h.me k (.inr (.inr (.inr (.inl hk)))) he
      · omega
    · exact h.me k (.inr (.inr (.inr (.inr hk)))) he
theorem OwnD.addS (h : OwnD w base n tF tO tD tR tS E x) (hF : tS ≠ tF) (hO : tS ≠ tO) (hR : tS ≠ tR) (hD : tS ≠ tD) {v' : Value} {l : List MS} (g : Grow w w' x.s v') (ho : w'.ownsRow base tS 6 v' l.length (l.flatMap cS)) :
    OwnD w' base n tF tO tD tR tS E ⟨{ x.d with syms := l }, x.f, x.o, x.dd, x.r, v'⟩ := by
  have hK : Keep (fun k => x.s.ownBlock ≠ some k) w w' := Keep.ofGrow g (fun _ hk => hk)
  obtain ⟨Z, dvs, e, hd, hz, hm, hy⟩ := h.dd
  have hd' := own_keep hd (fun k hk (e2 : x.s.ownBlock = some k) => own_apart h.s hd hD e2 hk) hK
  have hF' := own_keep h.f (fun k hk (e2 : x.s.ownBlock = some k) => own_apart h.s h.f hF e2 hk) hK
  have hO' := own_keep h.o (fun k hk (e2 : x.s.ownBlock = some k) => own_apart h.s h.o hO e2 hk) hK
  have hR' := own_keep h.r (fun k hk (e2 : x.s.ownBlock = some k) => own_apart h.s h.r hR e2 hk) hK
  refine ⟨hF', hO', hR', ho, ⟨Z, dvs, e, hd', fun k hk => ⟨(hz k hk).1, Nat.lt_of_lt_of_le (hz k hk).2 g.size⟩, fun k hk hZ => ?_, fun y hy' => RD.keep hK (fun k hk e2 => hm k (.inl (.inr (.inr (.inr (.inr e2))))) hk) n y (hy y hy')⟩, fun k hk he => ?_, fun k hk => Nat.lt_of_lt_of_le (h.eb k hk) g.size⟩
  · have hlt := (hz k hZ).2
    rcases hk with (hk | hk | hk | hk | hk) | hk
    · exact hm k (.inl (.inl hk)) hZ
    · exact hm k (.inl (.inr (.inl hk))) hZ
    · exact hm k (.inl (.inr (.inr (.inl hk)))) hZ
    · exact hm k (.inl (.inr (.inr (.inr (.inl hk))))) hZ
    · rcases grow_mine g hk with hk | hk
      · exact hm k (.inl (.inr (.inr (.inr (.inr hk))))) hZ
      · omega
    · exact hm k (.inr hk) hZ
  · have hlt := h.eb k he
    rcases hk with hk | hk | hk | hk | hk
    · exact h.me k (.inl hk) he
    · exact h.me k (.inr (.inl hk)) he
    · exact h.me k (.inr (.inr (.inl hk))) he
    · exact h.me k (.inr (.inr (.inr (.inl hk)))) he
    · rcases grow_mine g hk with hk | hk
      · exact h.me k (.inr (.inr (.inr (.inr hk)))) he
      · omega
theorem OwnD.addD (h : OwnD w base n tF tO tD tR tS E x) (hF : tF ≠ tD) (hO : tO ≠ tD) (hR : tR ≠ tD) (hS : tS ≠ tD) {Zy : Nat → Prop} {y : DV} (hz2 : ∀ k, Zy k → base ≤ k ∧ k < w.heap.size) (hm2 : ∀ k, x.mine k ∨ E k → ¬ Zy k) (hy2 : RD n w Zy y) {v' : Value} {dvs : List DV}
    (Z : Nat → Prop) (e : dvs.map DV.d = x.d.decls) (hd : w.ownsRow base tD 9 x.dd dvs.length (dvs.flatMap cD)) (hz : ∀ k, Z k → base ≤ k ∧ k < w.heap.size) (hm : ∀ k, x.mine k ∨ E k → ¬ Z k) (hy : ∀ y ∈ dvs, RD n w Z y)
    (g : Grow w w' x.dd v') (ho : w'.ownsRow base tD 9 v' (dvs.length + 1) (dvs.flatMap cD ++ cD y)) :
    OwnD w' base n tF tO tD tR tS E ⟨{ x.d with decls := x.d.decls ++ [y.d] }, x.f, x.o, v', x.r, x.s⟩ := by
  have hK : Keep (fun k => x.dd.ownBlock ≠ some k) w w' := Keep.ofGrow g (fun _ hk => hk)
  have hF' := own_keep h.f (fun k hk (e2 : x.dd.ownBlock = some k) => own_apart h.f hd hF hk e2) hK
  have hO' := own_keep h.o (fun k hk (e2 : x.dd.ownBlock = some k) => own_apart h.o hd hO hk e2) hK
  have hR' := own_keep h.r (fun k hk (e2 : x.dd.ownBlock = some k) => own_apart h.r hd hR hk e2) hK
  have hS' := own_keep h.s (fun k hk (e2 : x.dd.ownBlock = some k) => own_apart h.s hd hS hk e2) hK
  have hno : ∀ k, x.mine k ∨ E k → ¬ (Z k ∨ Zy k) := fun k hk hh => hh.elim (hm k hk) (hm2 k hk)
  refine ⟨hF', hO', hR', hS', ⟨fun k => Z k ∨ Zy k, dvs ++ [y], by simp [e], by simpa using ho, fun k hk => ?_, fun k hk hZ => ?_, fun z hz' => ?_⟩, fun k hk he => ?_, fun k hk => Nat.lt_of_lt_of_le (h.eb k hk) g.size⟩
  · rcases hk with hk | hk
    · exact ⟨(hz k hk).1, Nat.lt_of_lt_of_le (hz k hk).2 g.size⟩
    · exact ⟨(hz2 k hk).1, Nat.lt_of_lt_of_le (hz2 k hk).2 g.size⟩
  · have hlt : k < w.heap.size := hZ.elim (fun h => (hz k h).2) (fun h => (hz2 k h).2)
    rcases hk with (hk | hk | hk | hk | hk) | hk
    · exact hno k (.inl (.inl hk)) hZ
    · exact hno k (.inl (.inr (.inl hk))) hZ
    · rcases grow_mine g hk with hk | hk
      · exact hno k (.inl (.inr (.inr (.inl hk)))) hZ
      · omega
    · exact hno k (.inl (.inr (.inr (.inr (.inl hk))))) hZ
    · exact hno k (.inl (.inr (.inr (.inr (.inr hk))))) hZ
    · exact hno k (.inr hk) hZ
  · rcases List.mem_append.1 hz' with h1 | h1
    · exact RD.weak (fun k hk => Or.inl hk) n z (RD.keep hK (fun k hk e2 => hm k (.inl (.inr (.inr (.inl e2)))) hk) n z (hy z h1))
    · simp at h1
      subst h1
      exact RD.weak (fun k hk => Or.inr hk) n z (RD.keep hK (fun k hk e2 => hm2 k (.inl (.inr (.inr (.inl e2)))) hk) n z hy2)
  · have hlt := h.eb k he
    rcases hk with hk | hk | hk | hk | hk
    · exact h.me k (.inl hk) he
    · exact h.me k (.inr (.inl hk)) he
    · rcases grow_mine g hk with hk | hk
      · exact h.me k (.inr (.inr (.inl hk))) he
      · omega
    · exact h.me k (.inr (.inr (.inr (.inl hk)))) he
    · exact h.me k (.inr (.inr (.inr (.inr hk)))) he
end
/-- One struct more, laid in a block of its own first. -/
theorem append_st (t ts : TypeId) (size bytes : Nat) (z : Value) (hts : Tryd.prog.underlying ts = some (.slice t)) (hinfo : (Tryd.prog.info? t).map (fun i => (i.zero, i.size, i.bytes)) = some (some z, size, bytes)) (hzs : z.cells.size = size) (h0 : 0 < size) (hby : bytes ≤ 400)
    (base : Nat) (v : Value) (n : Nat) (fl : List Value) (w : World) (cs : Array Value) (hcs : cs.size = size) (h1 : ∀ u ∈ cs.toList, u.oneCell' = true) (h : w.ownsRow base t size v n fl) (hb : base ≤ w.heap.size) (hn : n ≤ 400000) :
    ∃ v' w', (Builtin.append_ #[ts, ts] ts #[v, .slice (some ⟨w.heap.size, 0, none⟩) 1 1]).run Tryd.prog (w.alloc (.cells cs t)) = .ok v' w' ∧ w'.ownsRow base t size v' (n + 1) (fl ++ cs.toList) ∧ Grow w w' v v' := by
  obtain ⟨i0, hi, hz0, hz1, hz2⟩ := info_parts hinfo
  have hcell : ∀ j u, cs.toList[j]? = some u → (w.alloc (.cells cs t)).cell? ((⟨w.heap.size, 0, none⟩ : Addr).add j) = some u := by
    intro j u hu
    have hadd : (⟨w.heap.size, 0, none⟩ : Addr).add j = ⟨w.heap.size, j, none⟩ := by unfold Addr.add; split <;> simp_all
    rw [hadd, World.cell?_alloc_at _ _ _ _ rfl]
    simpa using hu
  obtain ⟨v', w', hr, ho, hg⟩ := run_append_mine (P := Tryd.prog) (w.alloc (.cells cs t)) base ts ts t i0 z size bytes hts hi hz0 hz1 hz2 hzs h0 v n fl (h.alloc _) ⟨w.heap.size, 0, none⟩ 1 1 cs.toList (by simp [hcs]) hcell h1 (by unfold maxLen; omega) (Nat.le_trans (Nat.mul_le_mul (show n + 1 ≤ 400001 by omega) hby) (by decide)) (by simp; omega)
  exact ⟨v', w', hr, ho, ((Grow.refl w v).alloc _).trans hg⟩
end Go.Proofs.YtidimdbnnnpplaaDoor
