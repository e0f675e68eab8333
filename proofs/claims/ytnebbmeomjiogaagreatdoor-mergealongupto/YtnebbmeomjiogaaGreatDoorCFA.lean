/-
  Two lists in order, put together: what stands in both, once.
  The messages of a field, one by one: the iterator's contract.
  Copy: what the program answers.
-/
import Derived.Test.YtnebbmeomjiogaaGreatDoorCTA
import Derived.Test.YtnebbmeomjiogaaGreatDoorCAB
import Derived.RangeFuncNested
import Derived.RangeFuncBound
import Derived.RangeFuncCalls
import Derived.RangeFuncLeaves
import Derived.Shelf.Abstract
import Derived.Shelf.RegionOpen
import Derived.WalkKit
import Derived.OwnWalkIn
import Derived.TacticsInMore
import Derived.LoopNIn
import Derived.LoopIn
import Derived.Deep.RegionHeld3
namespace Go.Proofs.YtnebbmeomjiogaaGreatDoor
set_option linter.unusedVariables false
set_option linter.unusedSimpArgs false
/-- The union of two lists. -/
def uni {α : Type} (ord : α → α → Int) (both : α → α → α) : List α → List α → List α
  | [], b => b
  | x :: a, [] => x :: a
  | x :: a, y :: b => if ord x y < 0 then x :: uni ord both a (y :: b) else if 0 < ord x y then y :: uni ord both (x :: a) b else both x y :: uni ord both a b
termination_by a b => a.length + b.length
theorem uni_nil {α : Type} {ord : α → α → Int} {both : α → α → α} (b : List α) : uni ord both [] b = b := by rw [uni]
theorem uni_nilR {α : Type} {ord : α → α → Int} {both : α → α → α} (a : List α) : uni ord both a [] = a := by cases a <;> rw [uni]
theorem uni_lt {α : Type} {ord : α → α → Int} {both : α → α → α} {x y : α} {a b : List α} (h : ord x y < 0) : uni ord both (x :: a) (y :: b) = x :: uni ord both a (y :: b) := by rw [uni, if_pos h]
theorem uni_gt {α : Type} {ord : α → α → Int} {both : α → α → α} {x y : α} {a b : List α} (h : 0 < ord x y) : uni ord both (x :: a) (y :: b) = y :: uni ord both (x :: a) b := by rw [uni, if_neg (by omega), if_pos h]
theorem uni_eq {α : Type} {ord : α → α → Int} {both : α → α → α} {x y : α} {a b : List α} (h : ord x y = 0) : uni ord both (x :: a) (y :: b) = both x y :: uni ord both a b := by rw [uni, if_neg (by omega), if_neg (by omega)]
/-- An order of those that are so, by what a key tells. -/
structure Ord {α : Type} (In : α → Prop) (ord : α → α → Int) : Prop where
  swap : ∀ {x y}, In x → In y → (ord x y < 0 ↔ 0 < ord y x)
  lt : ∀ {x y z}, In x → In y → In z → ord x y < 0 → ord y z < 0 → ord x z < 0
  le : ∀ {x y z}, In x → In y → In z → ord x y = 0 → ord y z < 0 → ord x z < 0
  el : ∀ {x y z}, In x → In y → In z → ord x y < 0 → ord y z = 0 → ord x z < 0
theorem Ord.swap0 {α : Type} {In : α → Prop} {ord : α → α → Int} (O : Ord In ord) {x y : α} (hx : In x) (hy : In y) : ord x y = 0 ↔ ord y x = 0 := by
  have h1 := O.swap hx hy
  have h2 := O.swap hy hx
  omega
theorem Ord.gt {α : Type} {In : α → Prop} {ord : α → α → Int} (O : Ord In ord) {x y : α} (hx : In x) (hy : In y) : 0 < ord x y ↔ ord y x < 0 := (O.swap hy hx).symm
theorem Ord.ee {α : Type} {In : α → Prop} {ord : α → α → Int} (O : Ord In ord) {x y z : α} (hx : In x) (hy : In y) (hz : In z) (h : ord x y = 0) (g : ord y z = 0) : ord x z = 0 := by
  have a1 : ¬ ord x z < 0 := fun q => by
    have := O.el hy hx hz |> fun _ => O.le hy hx hz ((O.swap0 hx hy).1 h) q
    omega
  have a2 : ¬ 0 < ord x z := fun q => by
    have q' := (O.gt hx hz).1 q
    have := O.el hz hx hy q' h
    have := (O.swap hz hy).1 this
    omega
  omega
def Asc {α : Type} (ord : α → α → Int) (l : List α) : Prop := l.Pairwise (fun x y => ord x y < 0)
theorem uni_mem {α : Type} {ord : α → α → Int} {both : α → α → α} : ∀ (a b : List α) {z : α}, z ∈ uni ord both a b → z ∈ a ∨ z ∈ b ∨ ∃ x ∈ a, ∃ y ∈ b, ord x y = 0 ∧ z = both x y
  | [], b, z, h => by rw [uni_nil] at h; exact .inr (.inl h)
  | x :: a, [], z, h => by rw [uni_nilR] at h; exact .inl h
  | x :: a, y :: b, z, h => by
    rcases Int.lt_trichotomy (ord x y) 0 with q | q | q
    · rw [uni_lt q, List.mem_cons] at h
      rcases h with rfl | h
      · exact .inl List.mem_cons_self
      · rcases uni_mem a (y :: b) h with h | h | ⟨x', hx, y', hy, e⟩
        · exact .inl (List.mem_cons_of_mem _ h)
        · exact .inr (.inl h)
        · exact .inr (.inr ⟨x', List.mem_cons_of_mem _ hx, y', hy, e⟩)
    · rw [uni_eq q, List.mem_cons] at h
      rcases h with rfl | h
      · exact .inr (.inr ⟨x, List.mem_cons_self, y, List.mem_cons_self, q, rfl⟩)
      · rcases uni_mem a b h with h | h | ⟨x', hx, y', hy, e⟩
        · exact .inl (List.mem_cons_of_mem _ h)
        · exact .inr (.inl (List.mem_cons_of_mem _ h))
        · exact .inr (.inr ⟨x', List.mem_cons_of_mem _ hx, y', List.mem_cons_of_mem _ hy, e⟩)
    · rw [uni_gt q, List.mem_cons] at h
      rcases h with rfl | h
      · exact .inr (.inl List.mem_cons_self)
      · rcases uni_mem (x :: a) b h with h | h | ⟨x', hx, y', hy, e⟩
        · exact .inl h
        · exact .inr (.inl (List.mem_cons_of_mem _ h))
        · exact .inr (.inr ⟨x', hx, y', List.mem_cons_of_mem _ hy, e⟩)
termination_by a b => a.length + b.length
/-- What becomes of two of one key has that key. -/
structure Bth {α : Type} (In : α → Prop) (ord : α → α → Int) (both : α → α → α) : Prop where
  mem : ∀ {x y}, In x → In y → ord x y = 0 → In (both x y)
  l : ∀ {x y z}, In x → In y → In z → ord x y = 0 → ord (both x y) z = ord x z
  r : ∀ {x y z}, In x → In y → In z → ord x y = 0 → ord z (both x y) = ord z x
section
variable {α : Type} {In : α → Prop} {ord : α → α → Int} {both : α → α → α}
theorem uni_in (B : Bth In ord both) {a b : List α} (ha : ∀ x ∈ a, In x) (hb : ∀ x ∈ b, In x) : ∀ z ∈ uni ord both a b, In z := fun z hz => by
  rcases uni_mem a b hz with h | h | ⟨x, hx, y, hy, e, rfl⟩
  · exact ha z h
  · exact hb z h
  · exact B.mem (ha x hx) (hb y hy) e
theorem uni_lb (B : Bth In ord both) {a b : List α} (ha : ∀ x ∈ a, In x) (hb : ∀ x ∈ b, In x) {m : α} (hm : In m) (h1 : ∀ x ∈ a, ord m x < 0) (h2 : ∀ x ∈ b, ord m x < 0) : ∀ z ∈ uni ord both a b, ord m z < 0 := fun z hz => by
  rcases uni_mem a b hz with h | h | ⟨x, hx, y, hy, e, rfl⟩
  · exact h1 z h
  · exact h2 z h
  · rw [B.r (ha x hx) (hb y hy) hm e]
    exact h1 x hx
theorem uni_consL {x : α} {a F : List α} (h : ∀ y ∈ F, ord x y < 0) : uni ord both (x :: a) F = x :: uni ord both a F := by
  cases F with
  | nil => rw [uni_nilR, uni_nilR]
  | cons y r => exact uni_lt (h y List.mem_cons_self)
theorem uni_consR {y : α} {A b : List α} (h : ∀ x ∈ A, 0 < ord x y) : uni ord both A (y :: b) = y :: uni ord both A b := by
  cases A with
  | nil => rw [uni_nil, uni_nil]
  | cons x r => exact uni_gt (h x List.mem_cons_self)
theorem asc_head (O : Ord In ord) {x y : α} {b : List α} (hx : In x) (hy : In y) (hb : ∀ z ∈ b, In z) (h : ord x y < 0 ∨ ord x y = 0) (g : Asc ord (y :: b)) : ∀ z ∈ b, ord x z < 0 := fun z hz => by
  have := (List.pairwise_cons.1 g).1 z hz
  rcases h with h | h
  · exact O.lt hx hy (hb z hz) h this
  · exact O.le hx hy (hb z hz) h this
theorem uni_asc (O : Ord In ord) (B : Bth In ord both) : ∀ (a b : List α), (∀ x ∈ a, In x) → (∀ x ∈ b, In x) → Asc ord a → Asc ord b → Asc ord (uni ord both a b)
  | [], b, _, _, _, hb => by rw [uni_nil]; exact hb
  | x :: a, [], _, _, ha, _ => by rw [uni_nilR]; exact ha
  | x :: a, y :: b, ia, ib, ha, hb => by
    have ix := ia x List.mem_cons_self
    have iy := ib y List.mem_cons_self
    have ia' : ∀ z ∈ a, In z := fun z hz => ia z (List.mem_cons_of_mem _ hz)
    have ib' : ∀ z ∈ b, In z := fun z hz => ib z (List.mem_cons_of_mem _ hz)
    have pa := List.pairwise_cons.1 ha
    have pb := List.pairwise_cons.1 hb
    rcases Int.lt_trichotomy (ord x y) 0 with q | q | q
    · rw [uni_lt q]
      refine List.pairwise_cons.2 ⟨uni_lb B ia' ib ix pa.1 (fun z hz => ?_), uni_asc O B a (y :: b) ia' ib pa.2 hb⟩
      rcases List.mem_cons.1 hz with rfl | hz
      · exact q
      · exact asc_head O ix iy ib' (.inl q) hb z hz
    · rw [uni_eq q]
      refine List.pairwise_cons.2 ⟨fun z hz => ?_, uni_asc O B a b ia' ib' pa.2 pb.2⟩
      rw [B.l ix iy (uni_in B ia' ib' z hz) q]
      exact uni_lb B ia' ib' ix pa.1 (asc_head O ix iy ib' (.inr q) hb) z hz
    · rw [uni_gt q]
      have q' := (O.gt ix iy).1 q
      refine List.pairwise_cons.2 ⟨uni_lb B ia ib' iy (fun z hz => ?_) pb.1, uni_asc O B (x :: a) b ia ib' ha pb.2⟩
      rcases List.mem_cons.1 hz with rfl | hz
      · exact q'
      · exact asc_head O iy ix ia' (.inl q') ha z hz
termination_by a b => a.length + b.length
theorem uni_filter (O : Ord In ord) (P : α → Bool) : ∀ (a b : List α), (∀ x ∈ a, In x) → (∀ x ∈ b, In x) → Asc ord a → Asc ord b → (∀ x ∈ a, ∀ y ∈ b, ord x y = 0 → P x = P y ∧ P (both x y) = P x) → (uni ord both a b).filter P = uni ord both (a.filter P) (b.filter P)
  | [], b, _, _, _, _, _ => by rw [uni_nil, List.filter_nil, uni_nil]
  | x :: a, [], _, _, _, _, _ => by rw [uni_nilR, List.filter_nil, uni_nilR]
  | x :: a, y :: b, ia, ib, ha, hb, hP => by
    have ix := ia x List.mem_cons_self
    have iy := ib y List.mem_cons_self
    have ia' : ∀ z ∈ a, In z := fun z hz => ia z (List.mem_cons_of_mem _ hz)
    have ib' : ∀ z ∈ b, In z := fun z hz => ib z (List.mem_cons_of_mem _ hz)
    have pa := List.pairwise_cons.1 ha
    have pb := List.pairwise_cons.1 hb
    rcases Int.lt_trichotomy (ord x y) 0 with q | q | q
    · rw [uni_lt q, List.filter_cons, uni_filter O P a (y :: b) ia' ib pa.2 hb (fun x' hx y' hy => hP x' (List.mem_cons_of_mem _ hx) y' hy)]
      rw [List.filter_cons (x := x) (xs := a)]
      split
      · refine (uni_consL fun z hz => ?_).symm
        rcases List.mem_cons.1 (List.mem_filter.1 hz).1 with rfl | hz
        · exact q
        · exact asc_head O ix iy ib' (.inl q) hb z hz
      · rfl
    · obtain ⟨e1, e2⟩ := hP x List.mem_cons_self y List.mem_cons_self q
      rw [uni_eq q, List.filter_cons, uni_filter O P a b ia' ib' pa.2 pb.2 (fun x' hx y' hy => hP x' (List.mem_cons_of_mem _ hx) y' (List.mem_cons_of_mem _ hy)), List.filter_cons (x := x), List.filter_cons (x := y), e2, ← e1]
      split
      · exact (uni_eq q).symm
      · rfl
    · have q' := (O.gt ix iy).1 q
      rw [uni_gt q, List.filter_cons, uni_filter O P (x :: a) b ia ib' ha pb.2 (fun x' hx y' hy => hP x' hx y' (List.mem_cons_of_mem _ hy))]
      rw [List.filter_cons (x := y) (xs := b)]
      split
      · refine (uni_consR fun z hz => ?_).symm
        have iz := ia z (List.mem_filter.1 hz).1
        rw [O.gt iz iy]
        rcases List.mem_cons.1 (List.mem_filter.1 hz).1 with rfl | hz
        · exact q'
        · exact asc_head O iy ix ia' (.inl q') ha z hz
      · rfl
termination_by a b => a.length + b.length
theorem uni_assoc (O : Ord In ord) (B : Bth In ord both) : ∀ (a b c : List α), (∀ x ∈ a, In x) → (∀ x ∈ b, In x) → (∀ x ∈ c, In x) → Asc ord a → Asc ord b → Asc ord c → (∀ x ∈ a, ∀ y ∈ b, ∀ z ∈ c, ord x y = 0 → ord y z = 0 → both (both x y) z = both x (both y z)) → uni ord both (uni ord both a b) c = uni ord both a (uni ord both b c)
  | [], b, c, _, _, _, _, _, _, _ => by rw [uni_nil, uni_nil]
  | x :: a, [], c, _, _, _, _, _, _, _ => by rw [uni_nilR, uni_nil]
  | x :: a, y :: b, [], _, _, _, _, _, _, _ => by rw [uni_nilR, uni_nilR]
  | x :: a, y :: b, z :: c, ia, ib, ic, ha, hb, hc, hA => by
    have ix := ia x List.mem_cons_self
    have iy := ib y List.mem_cons_self
    have iz := ic z List.mem_cons_self
    have ia' : ∀ z ∈ a, In z := fun z hz => ia z (List.mem_cons_of_mem _ hz)
    have ib' : ∀ z ∈ b, In z := fun z hz => ib z (List.mem_cons_of_mem _ hz)
    have ic' : ∀ z ∈ c, In z := fun z hz => ic z (List.mem_cons_of_mem _ hz)
    have pa := List.pairwise_cons.1 ha
    have pb := List.pairwise_cons.1 hb
    have pc := List.pairwise_cons.1 hc
    have lt_all : ∀ {m u : α} {l : List α}, In m → In u → (∀ w ∈ l, In w) → ord m u < 0 → Asc ord (u :: l) → ∀ w ∈ u :: l, ord m w < 0 := fun {m u l} im iu il h g w hw => by
      rcases List.mem_cons.1 hw with rfl | hw
      · exact h
      · exact asc_head O im iu il (.inl h) g w hw
    rcases Int.lt_trichotomy (ord x y) 0 with q | q | q
    · rcases Int.lt_trichotomy (ord x z) 0 with p | p | p
      · -- x is the least
        rw [uni_lt q, uni_lt p, uni_assoc O B a (y :: b) (z :: c) ia' ib ic pa.2 hb hc (fun x' hx y' hy z' hz => hA x' (List.mem_cons_of_mem _ hx) y' hy z' hz)]
        exact (uni_consL (uni_lb B ib ic ix (lt_all ix iy ib' q hb) (lt_all ix iz ic' p hc))).symm
      · -- x and z
        have q' := O.gt iy iz |>.2 (O.le iz ix iy ((O.swap0 ix iz).1 p) q)
        rw [uni_lt q, uni_eq p, uni_gt q', uni_eq p, uni_assoc O B a (y :: b) c ia' ib ic' pa.2 hb pc.2 (fun x' hx y' hy z' hz => hA x' (List.mem_cons_of_mem _ hx) y' hy z' (List.mem_cons_of_mem _ hz))]
      · -- z is the least
        have p' := (O.gt ix iz).1 p
        have r : ord z y < 0 := O.lt iz ix iy p' q
        have r' := (O.gt iy iz).2 r
        rw [uni_gt r', uni_gt p, ← uni_assoc O B (x :: a) (y :: b) c ia ib ic' ha hb pc.2 (fun x' hx y' hy z' hz => hA x' hx y' hy z' (List.mem_cons_of_mem _ hz))]
        refine uni_consR fun w hw => ?_
        have iw := uni_in B ia ib w hw
        exact (O.gt iw iz).2 (uni_lb B ia ib iz (lt_all iz ix ia' p' ha) (lt_all iz iy ib' r hb) w hw)
    · rcases Int.lt_trichotomy (ord x z) 0 with p | p | p
      · -- x and y
        have r : ord y z < 0 := O.le iy ix iz ((O.swap0 ix iy).1 q) p
        have p2 : ord (both x y) z < 0 := by rw [B.l ix iy iz q]; exact p
        rw [uni_eq q, uni_lt p2, uni_lt r, uni_eq q, uni_assoc O B a b (z :: c) ia' ib' ic pa.2 pb.2 hc (fun x' hx y' hy z' hz => hA x' (List.mem_cons_of_mem _ hx) y' (List.mem_cons_of_mem _ hy) z' hz)]
      · -- all three
        have r : ord y z = 0 := O.ee iy ix iz ((O.swap0 ix iy).1 q) p
        have p2 : ord (both x y) z = 0 := by rw [B.l ix iy iz q]; exact p
        have p3 : ord x (both y z) = 0 := by rw [B.r iy iz ix r]; exact q
        rw [uni_eq q, uni_eq p2, uni_eq r, uni_eq p3, hA x List.mem_cons_self y List.mem_cons_self z List.mem_cons_self q r, uni_assoc O B a b c ia' ib' ic' pa.2 pb.2 pc.2 (fun x' hx y' hy z' hz => hA x' (List.mem_cons_of_mem _ hx) y' (List.mem_cons_of_mem _ hy) z' (List.mem_cons_of_mem _ hz))]
      · -- z is the least
        have p' := (O.gt ix iz).1 p
        have r : ord z y < 0 := O.el iz ix iy p' q
        have r' := (O.gt iy iz).2 r
        rw [uni_gt r', uni_gt p, ← uni_assoc O B (x :: a) (y :: b) c ia ib ic' ha hb pc.2 (fun x' hx y' hy z' hz => hA x' hx y' hy z' (List.mem_cons_of_mem _ hz))]
        refine uni_consR fun w hw => ?_
        have iw := uni_in B ia ib w hw
        exact (O.gt iw iz).2 (uni_lb B ia ib iz (lt_all iz ix ia' p' ha) (lt_all iz iy ib' r hb) w hw)
    · have q' := (O.gt ix iy).1 q
      rcases Int.lt_trichotomy (ord y z) 0 with p | p | p
      · -- y is the least
        rw [uni_gt q, uni_lt p, uni_lt p, uni_gt q, uni_assoc O B (x :: a) b (z :: c) ia ib' ic ha pb.2 hc (fun x' hx y' hy z' hz => hA x' hx y' (List.mem_cons_of_mem _ hy) z' hz)]
      · -- y and z
        have p3 : 0 < ord x (both y z) := by rw [B.r iy iz ix p]; exact q
        rw [uni_gt q, uni_eq p, uni_eq p, uni_gt p3, uni_assoc O B (x :: a) b c ia ib' ic' ha pb.2 pc.2 (fun x' hx y' hy z' hz => hA x' hx y' (List.mem_cons_of_mem _ hy) z' (List.mem_cons_of_mem _ hz))]
      · -- z is the least
        have p' := (O.gt iy iz).1 p
        have r : ord z x < 0 := O.lt iz iy ix p' q'
        have r' := (O.gt ix iz).2 r
        rw [uni_gt p, uni_gt r', ← uni_assoc O B (x :: a) (y :: b) c ia ib ic' ha hb pc.2 (fun x' hx y' hy z' hz => hA x' hx y' hy z' (List.mem_cons_of_mem _ hz))]
        refine uni_consR fun w hw => ?_
        have iw := uni_in B ia ib w hw
        exact (O.gt iw iz).2 (uni_lb B ia ib iz (lt_all iz ix ia' r ha) (lt_all iz iy ib' p' hb) w hw)
termination_by a b c => a.length + b.length + c.length
end
end Go.Proofs.YtnebbmeomjiogaaGreatDoor
namespace Go.Proofs.YtnebbmeomjiogaaGreatDoor
open Go.RowKit Go.Shelf
set_option maxRecDepth 1000000
attribute [local go_sem] Oper.semAt_some
set_option linter.unusedVariables false
set_option linter.unusedSimpArgs false
set_option maxHeartbeats 2000000
/-- A message that lies in w. -/
abbrev XM (w : World) (Z : Nat → Prop) (d : Nat) (L : List CM) : Type := {x : List Value × CM // MsgE w Z d x.1 x.2 ∧ x.2 ∈ L}
def encM {w : World} {Z : Nat → Prop} {d : Nat} {L : List CM} (x : XM w Z d L) : Array Value := #[.agg x.1.1.toArray]
def allM (x : CF CM) : List CM := x.ks.flatMap CV.ms ++ x.vs.flatMap CV.ms
theorem abide_alloc {β : Type} {B : Nat} {J : β → World → Prop} (h : AbidesFrom B J) {s : β} {W : World} (hs : J s W) (o : Obj) : J s (W.alloc o) := h s W _ none hs (World.grownBy_alloc W o none) (fun r e => by cases e)
theorem flat_split {l : List (CV CM)} {j k : Nat} (hj : j < l.length) (hk : k < l[j].ms.length) : l.flatMap CV.ms = (l.take j).flatMap CV.ms ++ (l[j].ms.take k ++ (l[j].ms[k] :: (l[j].ms.drop (k + 1) ++ (l.drop (j + 1)).flatMap CV.ms))) := by
  have e : l.flatMap CV.ms = (l.take j).flatMap CV.ms ++ (l[j].ms ++ (l.drop (j + 1)).flatMap CV.ms) := by
    conv => lhs; rw [← List.take_append_drop j l, List.drop_eq_getElem_cons hj]
    rw [List.flatMap_append, List.flatMap_cons]
  have e2 : l[j].ms = l[j].ms.take k ++ (l[j].ms[k] :: l[j].ms.drop (k + 1)) := by
    conv => lhs; rw [← List.take_append_drop k l[j].ms, List.drop_eq_getElem_cons hk]
  rw [e]
  conv => lhs; rw [e2]
  simp only [List.append_assoc, List.cons_append]
theorem flat_next {l : List (CV CM)} {j : Nat} (hj : j < l.length) : (l.take (j + 1)).flatMap CV.ms = (l.take j).flatMap CV.ms ++ l[j].ms := by
  rw [List.take_succ_eq_append_getElem hj, List.flatMap_append]
  simp
theorem msgsOf_in (w : World) (Z : Nat → Prop) (d : Nat) (n : Nat) (hn : 1 ≤ n) (p : Nat) (x : CF CM) (ka va : Option Addr) (kc vc : Nat) (hp : Blk w p 33 #[.int .i64 x.num, .slice ka x.ks.length kc, .slice va x.vs.length vc]) (h1 : VlsR w Z d (.slice ka x.ks.length kc) x.ks) (h2 : VlsR w Z d (.slice va x.vs.length vc) x.vs) :
    SeqStopsK Fence.wide n Tryz.prog 158 #[.pointer (some ⟨p, 0, none⟩)] (encM (w := w) (Z := Z) (d := d) (L := allM x)) (Below w.heap.size) (fun xs => xs.map (fun y => y.1.2) = allM x) (fun xs => xs.map (fun y => y.1.2) <+: allM x) (allM x).length w := by
  intro l J Jx W hW hJ hJx hY h0
  have H1 := hid h1
  have H2 := hid h2
  have HJ := hid hJ
  have HY := hid hY
  have HW := hid hW
  have Bp := hp.kept hW
  have xp := Bp.cellF
  have zp := Bp.lt
  clear h1 h2 hp hJ hJx hY hW Bp
  refine callsIn_of_wp Tryz.func158 rfl trivial ?_ rfl
  simp only [Tryz.ntmps158, List.size_toArray, List.length_cons, List.length_nil, Nat.reduceAdd, Nat.reduceSub, Array.replicate_succ, Array.replicate_zero, List.push_toArray, List.append_toArray, List.nil_append, List.cons_append]
  gi_wp2
  gi_loopw [14] (fun s wr => ∃ (i : Nat) (pre : List (XM w Z d (allM x))), s = .int .i64 i ∧ i ≤ 2 ∧ Hid (pre.map (fun y => y.1.2) = (([x.ks, x.vs] : List (List (CV CM))).take i).flatMap (fun l => l.flatMap CV.ms)) ∧ Hid (J pre wr) ∧ Hid (Below w.heap.size w wr)) (fun s _ => 2 - (intOf s).toNat)
  case atStart => exact ⟨0, [], rfl, by omega, hid rfl, hid h0, HW⟩
  case round =>
    obtain ⟨i, pre, rfl, hi, HP, HJ0, hb⟩ := hrel
    by_cases hlt : i < 2
    · have k0 : (i : Int) < 2 := by omega
      obtain ⟨xs, la, lc, P0, R0, hidx, HV, HP0, HAL, HNX⟩ : ∃ (xs : List (CV CM)) (la : Option Addr) (lc : Nat) (P0 R0 : List CM), (∀ W, (Instr.index 212 (.agg #[.slice ka x.ks.length kc, .slice va x.vs.length vc]) (.int .i64 (i : Int))).run Tryz.prog W = .ok (.slice la xs.length lc) W) ∧ Hid (VlsR w Z d (.slice la xs.length lc) xs) ∧ Hid (pre.map (fun y => y.1.2) = P0) ∧ Hid (allM x = P0 ++ (xs.flatMap CV.ms ++ R0)) ∧ Hid ((([x.ks, x.vs] : List (List (CV CM))).take (i + 1)).flatMap (fun l => l.flatMap CV.ms) = P0 ++ xs.flatMap CV.ms) := by
        have ei : i = 0 ∨ i = 1 := by omega
        rcases ei with rfl | rfl
        · exact ⟨x.ks, ka, kc, [], x.vs.flatMap CV.ms, fun W => by rfl, H1, hid (by rw [HP.out]; rfl), hid rfl, hid (by simp)⟩
        · exact ⟨x.vs, va, vc, x.ks.flatMap CV.ms, [], fun W => by rfl, H2, hid (by rw [HP.out]; simp), hid (by unfold allM; simp), hid (by simp)⟩
      obtain ⟨_, _, e1, l1⟩ := RowM.sl HV.out
      clear e1
      have m1 : (xs.length : Int) ≤ 9223372036854775807 := by omega
      clear HP
      gi_wp2
      gi_loopw [19] (fun s wr => ∃ (j : Nat) (pre : List (XM w Z d (allM x))), s = .int .i64 j ∧ j ≤ xs.length ∧ Hid (pre.map (fun y => y.1.2) = P0 ++ (xs.take j).flatMap CV.ms) ∧ Hid (J pre wr) ∧ Hid (Below w.heap.size w wr)) (fun s _ => xs.length - (intOf s).toNat)
      case atStart => exact ⟨0, pre, rfl, by omega, hid (by rw [HP0.out]; simp), HJ0, hb⟩
      case round =>
        clear HJ0 hb
        obtain ⟨j, pre, rfl, hj, HP, HJ0, hb⟩ := hrel
        by_cases hjl : j < xs.length
        · have k1 : (j : Int) < (xs.length : Int) := by omega
          obtain ⟨b1, o1, ba1, bc1, ma1, mc1, rfl, -, hb1, c0, c1, c2, he⟩ := vls_at HV.out hjl
          obtain ⟨_, _, _, _, e1, -, q1, -, ml1, -⟩ := val_open he
          simp only [List.cons.injEq, Value.slice.injEq, true_and, and_true] at e1
          obtain ⟨⟨rfl, rfl⟩, rfl, rfl⟩ := e1
          have Q := hid q1
          have HSP := hid (fun k (hk : k < xs[j].ms.length) => flat_split hjl hk)
          have HNJ := hid (flat_next hjl)
          replace c0 := cell_below c0 hb.out
          replace c1 := cell_below c1 hb.out
          replace c2 := cell_below c2 hb.out
          replace hb1 : b1 < wr.heap.size := World.block_lt_of_cell? _ _ c0
          clear he q1
          generalize xs[j] = v at *
          have ml3 : (v.ms.length : Int) ≤ 9223372036854775807 := by omega
          gi_wp2
          gi_loopw [26] (fun s wr => ∃ (k : Nat) (pre : List (XM w Z d (allM x))), s = .int .i64 k ∧ k ≤ v.ms.length ∧ Hid (pre.map (fun y => y.1.2) = P0 ++ ((xs.take j).flatMap CV.ms ++ v.ms.take k)) ∧ Hid (J pre wr) ∧ Hid (Below w.heap.size w wr)) (fun s _ => v.ms.length - (intOf s).toNat)
          case atStart => exact ⟨0, pre, rfl, by omega, hid (by rw [HP.out]; simp), hid (abide_alloc HJ.out HJ0.out _), hid (by have := hb.out; exact blBy)⟩
          case round =>
            clear HJ0 hb HP c0 c1 c2 hb1
            obtain ⟨k, pre, rfl, hk, HP, HJ0, hb⟩ := hrel
            by_cases hkl : k < v.ms.length
            · have k2 : (k : Int) < (v.ms.length : Int) := by omega
              obtain ⟨p1, r1, fa1, fc1, ua1, uc1, rfl, -, hp1, m10, m11, hm1⟩ := mgs_at' Q.out hkl
              have HSK := hid (HSP.out k hkl)
              have HTK : Hid (v.ms.take (k + 1) = v.ms.take k ++ [v.ms[k]]) := hid (List.take_succ_eq_append_getElem hkl)
              replace m10 := cell_below m10 hb.out
              replace m11 := cell_below m11 hb.out
              replace hp1 : p1 < wr.heap.size := World.block_lt_of_cell? _ _ m10
              generalize v.ms[k] = m at *
              have HLN : pre.length < (allM x).length := by
                have e1 : pre.length = (P0 ++ ((xs.take j).flatMap CV.ms ++ v.ms.take k)).length := by rw [← HP.out, List.length_map]
                rw [e1, HAL.out, HSK.out]
                simp only [List.length_append, List.length_cons]
                omega
              have HPX : Hid (P0 ++ ((xs.take j).flatMap CV.ms ++ v.ms.take (k + 1)) <+: allM x) := hid (by
                rw [HAL.out, HSK.out, HTK.out]
                exact ⟨v.ms.drop (k + 1) ++ (xs.drop (j + 1)).flatMap CV.ms ++ R0, by simp only [List.append_assoc, List.cons_append, List.nil_append]⟩)
              have HME : Hid (MsgE w Z d [.slice fa1 m.fs.length fc1, .slice ua1 m.us.length uc1] m) := hid hm1
              have HIN : Hid (m ∈ allM x) := hid (by rw [HAL.out, HSK.out]; simp)
              clear hm1
              obtain ⟨fn, tmps, assign, body, hy, hR⟩ := HY.out pre ⟨([.slice fa1 m.fs.length fc1, .slice ua1 m.us.length uc1], m), HME.out, HIN.out⟩ (wr.alloc (.cells #[.slice fa1 m.fs.length fc1, .slice ua1 m.us.length uc1] 29)) (abide_alloc HJ.out HJ0.out _) HLN
              dsimp only [encM] at hy
              have HR := hid hR
              clear hR HLN
              gi_wp2
              refine HR.out.mono ?_
              rintro e W3 (⟨rfl, hJ3, hk3⟩ | ⟨rfl, hJx3⟩)
              · have hb3 : Hid (Below w.heap.size w W3) := hid (Below.trans (by have := hb.out; exact blBy) hk3)
                have HJ3 := hid hJ3
                clear hJ3 hk3 hy m10 m11 hp1
                gi_wp2
                exact ⟨⟨k + 1, _, by simp, by omega, hid (by rw [List.map_append, HP.out, HTK.out]; simp), HJ3, hb3⟩, by simp [intOf]; omega⟩
              · have HJ3 := hid hJx3
                clear hJx3 hy m10 m11 hp1
                gi_wp2
                refine bodyPost_ret (results_none rfl _ _ _) rfl ?_
                exact ⟨⟨_, rfl⟩, .inr ⟨_, by rw [List.map_append, HP.out]; have := HPX.out; rw [HTK.out] at this; simpa using this, HJ3.out⟩⟩
            · have k2 : ¬ (k : Int) < (v.ms.length : Int) := by omega
              have e1 : v.ms.take k = v.ms := List.take_of_length_le (by omega)
              rw [e1] at HP
              clear e1
              gi_wp2
              exact ⟨⟨j + 1, pre, by simp, by omega, hid (by rw [HP.out, HNJ.out]), HJ0, hb⟩, by simp [intOf]; omega⟩
        · have k1 : ¬ (j : Int) < (xs.length : Int) := by omega
          have e1 : xs.take j = xs := List.take_of_length_le (by omega)
          rw [e1] at HP
          clear e1
          gi_wp2
          exact ⟨⟨i + 1, pre, by simp, by omega, hid (by rw [HP.out, HNX.out]), HJ0, hb⟩, by simp [intOf]; omega⟩
    · have k0 : ¬ (i : Int) < 2 := by omega
      have ei : i = 2 := by omega
      rw [ei] at HP
      clear ei
      gi_wp2
      go_end0
      exact ⟨⟨_, rfl⟩, .inl ⟨pre, by rw [HP.out]; unfold allM; simp, HJ0.out⟩⟩
end Go.Proofs.YtnebbmeomjiogaaGreatDoor
namespace Go.Proofs.YtnebbmeomjiogaaGreatDoor
open Go.RowKit
set_option maxRecDepth 1000000
set_option linter.unusedVariables false
set_option linter.unusedSimpArgs false
set_option maxHeartbeats 2000000
theorem kpS {f : Nat → Prop} {w W : World} {a : Addr} {v : Value} (h : Keep f w W) (ha : ¬ f a.block) : Keep f w (W.setCell a v) := h.trans (Keep.setCell _ _ _ ha)
theorem kpA {f : Nat → Prop} {w W : World} (h : Keep f w W) (o : Obj) : Keep f w (W.alloc o) := h.trans (Keep.ofBelow (below_alloc o))
theorem kpD {f : Nat → Prop} {w W : World} (h : Keep f w W) : Keep f w W.drew := h.trans (Keep.ofBelow (below_drew1 W))
theorem kpN {f : Nat → Prop} {w W : World} (h : Keep f w W) (n : Nat) : Keep f w (W.drewN n) := h.trans (Keep.ofBelow (below_drewN W n))
theorem newEntryT (w : World) (Z : Nat → Prop) (cs : List Value) (x : CE) (h : EntE w Z cs x) : Calls Tryz.prog 111 #[.agg cs.toArray] w (NewE FmE w x) := by
  obtain ⟨ka, kc, rfl, g, -, u1, u2, u3⟩ := ent_open h
  have G := hid g
  have U := hid (And.intro u1 (And.intro u2 u3))
  clear g h u1 u2 u3
  go_enter Tryz.func111, Tryz.ntmps111
  go_wp2_with fail
  refine (newBytesT _ Z ka kc x.b (G.out.kept (by exact blBy))).mono ?_
  rintro e w1 ⟨a1, c1, rfl, hn, hbx⟩
  have Bx : Blk w1 w.heap.size 102 #[.int .i64 x.num, .int .i64 x.kind, .int .u64 x.n, .slice ka x.b.length kc] := ((Blk.new _ _ _).kept (below_alloc _)).kept hbx
  have Br : Blk w1 (w.heap.size + 1) 102 #[.int .i64 0, .int .i64 0, .int .u64 0, .slice none 0 0] := (Blk.newAt (by simp)).kept hbx
  have HN : Hid (ByE w1 (w.heap.size + 2 ≤ ·) (.slice a1 x.b.length c1) x.b) := hid (hn.weak (fun k hk => by simpa using hk))
  have hbz : Hid (Below w.heap.size w w1) := hid (bl_then (by exact blBy) hbx)
  clear hbx hn
  have xx := Bx.cellF
  have yx := Bx.frz
  have zx := Bx.lt
  have xr := Br.cellF
  have yr := Br.frz
  have zr := Br.lt
  go_wp2
  exact bodyPost_ret (v := .agg #[.int .i64 x.num, .int .i64 x.kind, .int .u64 x.n, .slice a1 x.b.length c1]) (by simp [results, Tryz.results111, go_sem, xr, zr, yr, xx, yx, zx]) rfl (NewE.mk [.int .i64 x.num, .int .i64 x.kind, .int .u64 x.n, .slice a1 x.b.length c1] ⟨_, rfl, (HN.out.keep (f := (w.heap.size + 2 ≤ ·)) (by with_reducible repeat (first | exact Keep.refl _ _ | refine kpS ?_ (by first | (simp; done) | (simp; omega) | omega) | refine kpA ?_ _ | refine kpD ?_ | refine kpN ?_ _)) (fun _ h => h)).weak (fun k hk => by omega), U.out⟩ (by have := hbz.out; exact blBy))
/-- Copy's walk at a depth. -/
def CpAt (d : Nat) : Prop := ∀ (w : World) (Z : Nat → Prop) (cs : List Value) (m : CM), MsgE w Z d cs m → Calls Tryz.prog 67 #[.agg #[], .agg cs.toArray, .func (.func 65) #[] #[], .func (.func 66) #[] #[]] w (NewE (FmM d) w m)
/-- What the closures share: the messages' type (none), what stays, what is below. -/
structure CpB (w : World) (p4 p6 p7 : Nat) : Prop where
  k : Blk w p4 126 #[]
  s : Blk w p6 127 #[.func (.func 65) #[] #[]]
  b : Blk w p7 128 #[.func (.func 66) #[] #[]]
theorem CpB.kept {w w' : World} {p4 p6 p7 : Nat} (h : CpB w p4 p6 p7) (hb : Below w.heap.size w w') : CpB w' p4 p6 p7 := ⟨h.k.kept hb, h.s.kept hb, h.b.kept hb⟩
theorem newMsgT (d : Nat) (HC : CpAt d) (w : World) (Z : Nat → Prop) (cs : List Value) (m : CM) (h : MsgE w Z d cs m) (p4 p6 p7 : Nat) (hB : CpB w p4 p6 p7) : Calls Tryz.prog 104 #[.agg cs.toArray, .pointer (some ⟨p4, 0, none⟩), .pointer (some ⟨p6, 0, none⟩), .pointer (some ⟨p7, 0, none⟩)] w (NewE (FmM d) w m) := by
  obtain ⟨ka, kc, va, vc, rfl, -⟩ := msg_openD h
  have H := hid h
  replace HC := hid HC
  have xs := hB.s.cellF
  have zs := hB.s.lt
  have xb := hB.b.cellF
  have zb := hB.b.lt
  have zk := hB.k.lt
  clear h hB
  go_enter Tryz.func104, Tryz.ntmps104
  go_wp2_with fail
  refine (HC.out _ Z [.slice ka m.fs.length kc, .slice va m.us.length vc] m (H.out.kept (by exact blBy))).mono ?_
  rintro e w1 ⟨ds, rfl, hn, hbx⟩
  have Br : Blk w1 (w.heap.size + 1) 29 #[.slice none 0 0, .slice none 0 0] := (Blk.newAt (by simp)).kept hbx
  have HN : Hid (MsgE w1 (w.heap.size + 2 ≤ ·) d ds m) := hid (MsgE.go (Keep.refl (fun _ => True) w1) (fun _ _ => trivial) (fun k hk => by simpa using hk) d _ _ hn)
  have hbz : Hid (Below w.heap.size w w1) := hid (bl_then (by exact blBy) hbx)
  clear hbx hn xs zs xb zb zk
  obtain ⟨fa, fc, ua, uc, rfl, -⟩ := msg_openD HN.out
  have xr := Br.cellF
  have yr := Br.frz
  have zr := Br.lt
  go_wp2
  exact bodyPost_ret (v := .agg #[.slice fa m.fs.length fc, .slice ua m.us.length uc]) (by simp [results, Tryz.results104, go_sem, xr, zr, yr]) rfl (NewE.mk [.slice fa m.fs.length fc, .slice ua m.us.length uc] (MsgE.go (f := (w.heap.size + 2 ≤ ·)) (by with_reducible repeat (first | exact Keep.refl _ _ | refine kpS ?_ (by first | (simp; done) | (simp; omega) | omega) | refine kpA ?_ _ | refine kpD ?_ | refine kpN ?_ _)) (fun _ h => h) (fun k hk => by omega) d _ _ HN.out) (by have := hbz.out; exact blBy))
theorem MgsR.go {w w' : World} {Z Z' f : Nat → Prop} {d : Nat} {v : Value} {xs : List CM} (h : MgsR w Z d v xs) (g : Keep f w w') (hf : ∀ k, Z k → f k) (hz : ∀ k, Z k → Z' k) : MgsR w' Z' d v xs := ((RowM.keep h g hf).weak hz).imp (fun cs m _ hm => MsgE.go g hf hz d cs m hm)
theorem VlsR.go {w w' : World} {Z Z' f : Nat → Prop} {d : Nat} {v : Value} {xs : List (CV CM)} (h : VlsR w Z d v xs) (g : Keep f w w') (hf : ∀ k, Z k → f k) (hz : ∀ k, Z k → Z' k) : VlsR w' Z' d v xs := ((RowM.keep h g hf).weak hz).imp (fun cs m _ hm => (famV d).go hm g hf hz)
theorem FlsR.go {w w' : World} {Z Z' f : Nat → Prop} {d : Nat} {v : Value} {xs : List (CF CM)} (h : FlsR w Z d v xs) (g : Keep f w w') (hf : ∀ k, Z k → f k) (hz : ∀ k, Z k → Z' k) : FlsR w' Z' d v xs := ((RowM.keep h g hf).weak hz).imp (fun cs m _ hm => (famF d).go hm g hf hz)
theorem EnsR.go {w w' : World} {Z Z' f : Nat → Prop} {v : Value} {xs : List CE} (h : EnsR w Z v xs) (g : Keep f w w') (hf : ∀ k, Z k → f k) (hz : ∀ k, Z k → Z' k) : EnsR w' Z' v xs := ((RowM.keep h g hf).weak hz).imp (fun cs m _ hm => famE.go hm g hf hz)
theorem cs1 {W : World} {b o p q : Nat} {v u : Value} (h : W.cell? ⟨b, o, none⟩ = some v) (hb : b ≠ p) : (W.setCell ⟨p, q, none⟩ u).cell? ⟨b, o, none⟩ = some v := by
  rw [World.cell?_setCell_other _ _ _ _ (fun e => hb (by injection e with e1; exact e1.symm))]
  exact h
theorem cs2 {W : World} {b o p q1 q2 : Nat} {v u1 u2 : Value} (h : W.cell? ⟨b, o, none⟩ = some v) (hb : b ≠ p) : ((W.setCell ⟨p, q1, none⟩ u1).setCell ⟨p, q2, none⟩ u2).cell? ⟨b, o, none⟩ = some v := cs1 (cs1 h hb) hb
theorem cs3 {W : World} {b o p q1 q2 q3 : Nat} {v u1 u2 u3 : Value} (h : W.cell? ⟨b, o, none⟩ = some v) (hb : b ≠ p) : (((W.setCell ⟨p, q1, none⟩ u1).setCell ⟨p, q2, none⟩ u2).setCell ⟨p, q3, none⟩ u3).cell? ⟨b, o, none⟩ = some v := cs1 (cs2 h hb) hb
theorem cf_enter {f : FuncId} {fn : Func} (hf : Tryz.prog.funcs[f]? = some fn) (hname : (fn.name == "runtime.NumGoroutine") = false) (hb : fn.body.isNone = false) (args : Array Value) (W : World) : (callFunc f args).run Tryz.prog W = .ok (.enter f args) W := by
  unfold callFunc
  simp only [Sem.run_bind, run_program, Result.andThen_ok, hf, hname, hb, Bool.false_eq_true, if_false, Sem.run_pure]
theorem cfM (args : Array Value) (W : World) : (callFunc 104 args).run Tryz.prog W = .ok (.enter 104 args) W := cf_enter Tryz.func104 (by kernel_rfl) (by kernel_rfl) args W
theorem cfV (args : Array Value) (W : World) : (callFunc 105 args).run Tryz.prog W = .ok (.enter 105 args) W := cf_enter Tryz.func105 (by kernel_rfl) (by kernel_rfl) args W
theorem cfF (args : Array Value) (W : World) : (callFunc 103 args).run Tryz.prog W = .ok (.enter 103 args) W := cf_enter Tryz.func103 (by kernel_rfl) (by kernel_rfl) args W
theorem cfE (args : Array Value) (W : World) : (callFunc 111 args).run Tryz.prog W = .ok (.enter 111 args) W := cf_enter Tryz.func111 (by kernel_rfl) (by kernel_rfl) args W
theorem newValT (d : Nat) (HC : CpAt d) (w : World) (Z : Nat → Prop) (cs : List Value) (x : CV CM) (h : ValE w Z (MsgE w Z d) cs x) (p4 p6 p7 p8 : Nat) (hB : CpB w p4 p6 p7) (hN : Blk w p8 87 #[.func (.func 104) #[] #[.pointer (some ⟨p4, 0, none⟩), .pointer (some ⟨p6, 0, none⟩), .pointer (some ⟨p7, 0, none⟩)]]) : Calls Tryz.prog 105 #[.agg cs.toArray, .pointer (some ⟨p8, 0, none⟩)] w (NewE (FmV d) w x) := by
  obtain ⟨ka, kc, va, vc, rfl, g, q, -, -, hu⟩ := val_open h
  have HBY : Hid (∀ W, Below w.heap.size w W → Calls Tryz.prog 106 #[.slice ka x.b.length kc] W fun e w' => ∃ a' c', e = .returned (.slice a' x.b.length c') ∧ ByE w' (W.heap.size ≤ ·) (.slice a' x.b.length c') x.b ∧ Below W.heap.size W w') := hid fun W hW => newBytesT W Z ka kc x.b (g.kept hW)
  have HMG : Hid (∀ W, Below w.heap.size w W → Calls Tryz.prog 107 #[.slice va x.ms.length vc, .func (.func 104) #[] #[.pointer (some ⟨p4, 0, none⟩), .pointer (some ⟨p6, 0, none⟩), .pointer (some ⟨p7, 0, none⟩)]] W (NewL 2 (FmM d) W x.ms)) := hid fun W hW => by
    have := turnedM W Z d d x.ms va vc (q.kept hW) 104 #[.pointer (some ⟨p4, 0, none⟩), .pointer (some ⟨p6, 0, none⟩), .pointer (some ⟨p7, 0, none⟩)] cfM id (fun W' hW' cs m _ hm => newMsgT d HC W' Z cs m hm p4 p6 p7 (hB.kept (below_trans hW hW')))
    rw [List.map_id] at this
    exact this
  have HU := hid hu
  have f3 : w.cell? ⟨p8, 0, none⟩ = some (.func (.func 104) #[] #[.pointer (some ⟨p4, 0, none⟩), .pointer (some ⟨p6, 0, none⟩), .pointer (some ⟨p7, 0, none⟩)]) := hN.cell 0 _ rfl
  have z8 := hN.lt
  clear h hB hN g q hu HC
  go_enter Tryz.func105, Tryz.ntmps105
  go_upto_region 1 with fail
  have Bx : Blk ((w.alloc (.cells #[.int .u64 x.n, .slice ka x.b.length kc, .slice va x.ms.length vc] 39)).alloc (.cells #[.int .u64 0, .slice none 0 0, .slice none 0 0] 39)) w.heap.size 39 #[.int .u64 x.n, .slice ka x.b.length kc, .slice va x.ms.length vc] := (Blk.new _ _ _).kept (below_alloc _)
  have Br : Blk ((w.alloc (.cells #[.int .u64 x.n, .slice ka x.b.length kc, .slice va x.ms.length vc] 39)).alloc (.cells #[.int .u64 0, .slice none 0 0, .slice none 0 0] 39)) (w.heap.size + 1) 39 #[.int .u64 0, .slice none 0 0, .slice none 0 0] := Blk.newAt (by simp)
  replace f3 := cell_below f3 (by exact blBy : Below w.heap.size w ((w.alloc (.cells #[.int .u64 x.n, .slice ka x.b.length kc, .slice va x.ms.length vc] 39)).alloc (.cells #[.int .u64 0, .slice none 0 0, .slice none 0 0] 39)))
  have HB : Hid (Below w.heap.size w ((w.alloc (.cells #[.int .u64 x.n, .slice ka x.b.length kc, .slice va x.ms.length vc] 39)).alloc (.cells #[.int .u64 0, .slice none 0 0, .slice none 0 0] 39))) := hid (by exact blBy)
  have hsz : w.heap.size + 2 ≤ ((w.alloc (.cells #[.int .u64 x.n, .slice ka x.b.length kc, .slice va x.ms.length vc] 39)).alloc (.cells #[.int .u64 0, .slice none 0 0, .slice none 0 0] 39)).heap.size := by simp
  generalize ((w.alloc (.cells #[.int .u64 x.n, .slice ka x.b.length kc, .slice va x.ms.length vc] 39)).alloc (.cells #[.int .u64 0, .slice none 0 0, .slice none 0 0] 39)) = W at *
  have f0 : W.cell? ⟨w.heap.size, 0, none⟩ = some (.int .u64 x.n) := Bx.cell 0 _ rfl
  have f1 : W.cell? ⟨w.heap.size, 1, none⟩ = some (.slice ka x.b.length kc) := Bx.cell 1 _ rfl
  have f2 : W.cell? ⟨w.heap.size, 2, none⟩ = some (.slice va x.ms.length vc) := Bx.cell 2 _ rfl
  have hp1 : w.heap.size ≠ w.heap.size + 1 := by omega
  have hp2 : p8 ≠ w.heap.size + 1 := by omega
  clear Bx z8
  have HS := hid hsz
  clear hsz
  have xr := Br.cellF
  have yr := Br.frz
  have zr := Br.lt
  go_region_held3 (fun W => W.cell? ⟨w.heap.size, 0, none⟩ = some (.int .u64 x.n) ∧ W.cell? ⟨w.heap.size, 1, none⟩ = some (.slice ka x.b.length kc) ∧ W.cell? ⟨w.heap.size, 2, none⟩ = some (.slice va x.ms.length vc) ∧ W.cell? ⟨p8, 0, none⟩ = some (.func (.func 104) #[] #[.pointer (some ⟨p4, 0, none⟩), .pointer (some ⟨p6, 0, none⟩), .pointer (some ⟨p7, 0, none⟩)])) (first | exact ⟨f0, f1, f2, f3⟩ | exact ⟨cs3 f0 hp1, cs3 f1 hp1, cs3 f2 hp1, cs3 f3 hp2⟩) (first | (go_at_call 106; refine (HBY.out _ (by have := HB.out; exact blBy)).mono ?_; rintro e w1 ⟨a1, c1, rfl, hn, hbx⟩; replace f0 := cell_below f0 (below_trans (by first | exact Below.refl _ _ | exact below_drew1 _ | exact below_drewN _ _) hbx); replace f1 := cell_below f1 (below_trans (by first | exact Below.refl _ _ | exact below_drew1 _ | exact below_drewN _ _) hbx); replace f2 := cell_below f2 (below_trans (by first | exact Below.refl _ _ | exact below_drew1 _ | exact below_drewN _ _) hbx); replace f3 := cell_below f3 (below_trans (by first | exact Below.refl _ _ | exact below_drew1 _ | exact below_drewN _ _) hbx); replace Br := Br.kept (below_trans (by first | exact Below.refl _ _ | exact below_drew1 _ | exact below_drewN _ _) hbx); replace xr := Br.cellF; replace yr := Br.frz; replace zr := Br.lt; replace HB := hid (below_trans HB.out (below_trans (by first | exact Below.refl _ _ | exact below_drew1 _ | exact below_drewN _ _) hbx)); have H1 : Hid (ByE w1 (w.heap.size + 2 ≤ ·) (.slice a1 x.b.length c1) x.b) := hid (hn.weak (fun k hk => Nat.le_trans HS.out hk)); (try replace H2 := hid (MgsR.kept H2.out (below_trans (by first | exact Below.refl _ _ | exact below_drew1 _ | exact below_drewN _ _) hbx))); replace HS := hid (Nat.le_trans HS.out (Below.size (below_trans (by first | exact Below.refl _ _ | exact below_drew1 _ | exact below_drewN _ _) hbx))); clear hn hbx) | (go_at_call 107; refine (HMG.out _ (by have := HB.out; exact blBy)).mono ?_; rintro e w2 ⟨a2, c2, rfl, hn, hbx⟩; replace f0 := cell_below f0 (below_trans (by first | exact Below.refl _ _ | exact below_drew1 _ | exact below_drewN _ _) hbx); replace f1 := cell_below f1 (below_trans (by first | exact Below.refl _ _ | exact below_drew1 _ | exact below_drewN _ _) hbx); replace f2 := cell_below f2 (below_trans (by first | exact Below.refl _ _ | exact below_drew1 _ | exact below_drewN _ _) hbx); replace f3 := cell_below f3 (below_trans (by first | exact Below.refl _ _ | exact below_drew1 _ | exact below_drewN _ _) hbx); replace Br := Br.kept (below_trans (by first | exact Below.refl _ _ | exact below_drew1 _ | exact below_drewN _ _) hbx); replace xr := Br.cellF; replace yr := Br.frz; replace zr := Br.lt; replace HB := hid (below_trans HB.out (below_trans (by first | exact Below.refl _ _ | exact below_drew1 _ | exact below_drewN _ _) hbx)); have H2 : Hid (MgsR w2 (w.heap.size + 2 ≤ ·) d (.slice a2 x.ms.length c2) x.ms) := hid ((hn.weak (fun k hk => Nat.le_trans HS.out hk)).imp (fun cs m _ hm => MsgE.go (Keep.refl (fun _ => True) w2) (fun _ _ => trivial) (fun k hk => Nat.le_trans HS.out hk) d _ _ hm)); (try replace H1 := hid (H1.out.kept (below_trans (by first | exact Below.refl _ _ | exact below_drew1 _ | exact below_drewN _ _) hbx))); replace HS := hid (Nat.le_trans HS.out (Below.size (below_trans (by first | exact Below.refl _ _ | exact below_drew1 _ | exact below_drewN _ _) hbx))); clear hn hbx))
  all_goals go_wp2
  all_goals exact bodyPost_ret (v := .agg #[.int .u64 x.n, .slice a1 x.b.length c1, .slice a2 x.ms.length c2]) (by simp [results, Tryz.results105, go_sem, xr, zr, yr]) rfl (NewE.mk [.int .u64 x.n, .slice a1 x.b.length c1, .slice a2 x.ms.length c2] ⟨_, _, rfl, (H1.out.keep (f := (w.heap.size + 2 ≤ ·)) (by with_reducible repeat (first | exact Keep.refl _ _ | refine kpS ?_ (by first | (simp; done) | (simp; omega) | omega) | refine kpA ?_ _ | refine kpD ?_ | refine kpN ?_ _)) (fun _ h => h)).weak (fun k hk => by omega), MgsR.go H2.out (f := (w.heap.size + 2 ≤ ·)) (by with_reducible repeat (first | exact Keep.refl _ _ | refine kpS ?_ (by first | (simp; done) | (simp; omega) | omega) | refine kpA ?_ _ | refine kpD ?_ | refine kpN ?_ _)) (fun _ h => h) (fun k hk => by omega), HU.out⟩ (by have := HB.out; exact blBy))
end Go.Proofs.YtnebbmeomjiogaaGreatDoor
