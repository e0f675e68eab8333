/-
  Messages: what they hold, and how they lie in memory.
  Equal: what the program answers.
  Rows of one's own, of structs that hold other rows.
  What a function makes of each one of a list.
-/
import Derived.Test.YtkifjpaoncjokaaGreatDoorCTI
import Derived.Laws.OwnMore
namespace Go.Proofs.YtkifjpaoncjokaaGreatDoor
open Go.RowKit
set_option maxRecDepth 1000000
set_option linter.unusedVariables false
set_option linter.unusedSimpArgs false
set_option maxHeartbeats 1000000
/-- An entry. -/
structure CE where
  num : Int
  kind : Int
  n : Int
  b : List Int
/-- A value, of whatever messages. -/
structure CV (M : Type) where
  n : Int
  b : List Int
  ms : List M
/-- A field. -/
structure CF (M : Type) where
  num : Int
  ks : List (CV M)
  vs : List (CV M)
/-- A message. -/
inductive CM where
  | mk (fs : List (CF CM)) (us : List CE)
def CM.fs : CM → List (CF CM)
  | .mk fs _ => fs
def CM.us : CM → List CE
  | .mk _ us => us
theorem CM.eta (m : CM) : CM.mk m.fs m.us = m := by cases m; rfl
theorem CM.ext {a b : CM} (h : a.fs = b.fs) (g : a.us = b.us) : a = b := by rw [← CM.eta a, ← CM.eta b, h, g]
def U64 (n : Int) : Prop := 0 ≤ n ∧ n < 18446744073709551616
/-- The cells of one struct. -/
abbrev Tup (k : Nat) : Type := {cs : List Value // cs.length = k}
/-- A row of structs of k cells, each as E says. -/
def RowM {α : Type} (w : World) (Z : Nat → Prop) (k : Nat) (E : List Value → α → Prop) (v : Value) (xs : List α) : Prop :=
  ∃ ts : List (Tup k), RowS w Z k v xs.length (ts.flatMap Subtype.val) ∧ ts.length = xs.length ∧ xs.length ≤ 4000000 ∧ ∀ (i : Nat) (t : Tup k) (x : α), ts[i]? = some t → xs[i]? = some x → E t.1 x
theorem RowM.sl {α : Type} {w : World} {Z : Nat → Prop} {k : Nat} {E : List Value → α → Prop} {v : Value} {xs : List α} (h : RowM w Z k E v xs) : ∃ a c, v = .slice a xs.length c ∧ xs.length ≤ 4000000 := by
  obtain ⟨ts, hr, _, hn, _⟩ := h
  obtain ⟨a, c, e, _⟩ := rowS_sl hr
  exact ⟨a, c, e, hn⟩
theorem RowM.at {α : Type} {w : World} {Z : Nat → Prop} {k : Nat} {E : List Value → α → Prop} {a : Option Addr} {n c : Nat} {xs : List α} (h : RowM w Z k E (.slice a n c) xs) (hk : 0 < k) {i : Nat} (hi : i < xs.length) :
    ∃ b o cs, a = some ⟨b, o, none⟩ ∧ Z b ∧ b < w.heap.size ∧ cs.length = k ∧ E cs xs[i] ∧ ∀ j u, cs[j]? = some u → w.cell? ⟨b, o + i * k + j, none⟩ = some u := by
  obtain ⟨ts, hr, hl, hn4, he⟩ := h
  have hti : i < ts.length := by omega
  have hr' : RowS w Z k (.slice a n c) ts.length (ts.flatMap Subtype.val) := by rw [hl]; exact hr
  obtain ⟨b, o, e, hc⟩ := rowAt (g := Subtype.val) (fun x => x.2) hr' (i := i) (x := ts[i]) (List.getElem?_eq_getElem hti)
  have h0 : 0 < ts[i].1.length := by rw [ts[i].2]; exact hk
  refine ⟨b, o, ts[i].1, e, ?_, World.block_lt_of_cell? _ _ (hc 0 _ (List.getElem?_eq_getElem h0)), ts[i].2, he i _ _ (List.getElem?_eq_getElem hti) (List.getElem?_eq_getElem hi), hc⟩
  obtain ⟨_, _, e2, hv⟩ := hr
  cases e2
  rcases hv.cells with ⟨q, _⟩ | ⟨b2, o2, e3, hz, _⟩
  · omega
  · rw [e] at e3
    cases e3
    exact hz
theorem RowM.imp {α : Type} {w : World} {Z : Nat → Prop} {k : Nat} {E E' : List Value → α → Prop} {v : Value} {xs : List α} (h : RowM w Z k E v xs) (hi : ∀ cs x, x ∈ xs → E cs x → E' cs x) : RowM w Z k E' v xs := by
  obtain ⟨ts, hr, hl, hn, he⟩ := h
  exact ⟨ts, hr, hl, hn, fun i t x ht hx => hi _ _ (List.mem_of_getElem? hx) (he i t x ht hx)⟩
theorem RowM.keep {α : Type} {w w' : World} {Z f : Nat → Prop} {k : Nat} {E : List Value → α → Prop} {v : Value} {xs : List α} (h : RowM w Z k E v xs) (g : Keep f w w') (hf : ∀ k, Z k → f k) : RowM w' Z k E v xs := by
  obtain ⟨ts, hr, hl, he⟩ := h
  exact ⟨ts, hr.keep g hf, hl, he⟩
theorem RowM.weak {α : Type} {w : World} {Z Z' : Nat → Prop} {k : Nat} {E : List Value → α → Prop} {v : Value} {xs : List α} (h : RowM w Z k E v xs) (hz : ∀ k, Z k → Z' k) : RowM w Z' k E v xs := by
  obtain ⟨ts, hr, hl, he⟩ := h
  exact ⟨ts, hr.weak hz, hl, he⟩
theorem RowM.nil {α : Type} (w : World) (Z : Nat → Prop) (k : Nat) (E : List Value → α → Prop) : RowM w Z k E (.slice none 0 0) [] := ⟨[], rowS_nil w Z k, rfl, by simp, fun i t x ht => by simp at ht⟩
/-- Bytes. -/
def ByE (w : World) (Z : Nat → Prop) (v : Value) (b : List Int) : Prop := RowS w Z 1 v b.length (b.map (Value.int .u8)) ∧ (∀ x ∈ b, 0 ≤ x ∧ x ≤ 255) ∧ b.length ≤ 4000000
theorem ByE.keep {w w' : World} {Z f : Nat → Prop} {v : Value} {b : List Int} (h : ByE w Z v b) (g : Keep f w w') (hf : ∀ k, Z k → f k) : ByE w' Z v b := ⟨h.1.keep g hf, h.2⟩
theorem ByE.weak {w : World} {Z Z' : Nat → Prop} {v : Value} {b : List Int} (h : ByE w Z v b) (hz : ∀ k, Z k → Z' k) : ByE w Z' v b := ⟨h.1.weak hz, h.2⟩
theorem ByE.sl {w : World} {Z : Nat → Prop} {v : Value} {b : List Int} (h : ByE w Z v b) : ∃ a c, v = .slice a b.length c ∧ b.length ≤ 4000000 := by
  obtain ⟨a, c, e, _⟩ := rowS_sl h.1
  exact ⟨a, c, e, h.2.2⟩
/-- An entry's cells. -/
def EntE (w : World) (Z : Nat → Prop) (cs : List Value) (x : CE) : Prop := ∃ bv, cs = [.int .i64 x.num, .int .i64 x.kind, .int .u64 x.n, bv] ∧ ByE w Z bv x.b ∧ I64 x.num ∧ I64 x.kind ∧ U64 x.n
/-- A value's cells, where messages lie as R says. -/
def ValE (w : World) (Z : Nat → Prop) (R : List Value → CM → Prop) (cs : List Value) (x : CV CM) : Prop := ∃ bv mv, cs = [.int .u64 x.n, bv, mv] ∧ ByE w Z bv x.b ∧ RowM w Z 2 R mv x.ms ∧ U64 x.n
def FldE (w : World) (Z : Nat → Prop) (R : List Value → CM → Prop) (cs : List Value) (x : CF CM) : Prop := ∃ kv vv, cs = [.int .i64 x.num, kv, vv] ∧ RowM w Z 3 (ValE w Z R) kv x.ks ∧ RowM w Z 3 (ValE w Z R) vv x.vs ∧ I64 x.num
/-- A message's cells, so deep. -/
def MsgE (w : World) (Z : Nat → Prop) : Nat → List Value → CM → Prop
  | 0, _, _ => False
  | d + 1, cs, m => ∃ fv uv, cs = [fv, uv] ∧ RowM w Z 3 (FldE w Z (MsgE w Z d)) fv m.fs ∧ RowM w Z 4 (EntE w Z) uv m.us
theorem EntE.keep {w w' : World} {Z f : Nat → Prop} {cs : List Value} {x : CE} (h : EntE w Z cs x) (g : Keep f w w') (hf : ∀ k, Z k → f k) : EntE w' Z cs x := by
  obtain ⟨bv, e, h1, h2⟩ := h
  exact ⟨bv, e, h1.keep g hf, h2⟩
theorem EntE.weak {w : World} {Z Z' : Nat → Prop} {cs : List Value} {x : CE} (h : EntE w Z cs x) (hz : ∀ k, Z k → Z' k) : EntE w Z' cs x := by
  obtain ⟨bv, e, h1, h2⟩ := h
  exact ⟨bv, e, h1.weak hz, h2⟩
theorem ValE.go {w w' : World} {Z Z' f : Nat → Prop} {R R' : List Value → CM → Prop} {cs : List Value} {x : CV CM} (h : ValE w Z R cs x) (g : Keep f w w') (hf : ∀ k, Z k → f k) (hz : ∀ k, Z k → Z' k) (hR : ∀ cs m, m ∈ x.ms → R cs m → R' cs m) : ValE w' Z' R' cs x := by
  obtain ⟨bv, mv, e, h1, h2, h3⟩ := h
  exact ⟨bv, mv, e, (h1.keep g hf).weak hz, ((h2.keep g hf).weak hz).imp hR, h3⟩
theorem FldE.go {w w' : World} {Z Z' f : Nat → Prop} {R R' : List Value → CM → Prop} {cs : List Value} {x : CF CM} (h : FldE w Z R cs x) (g : Keep f w w') (hf : ∀ k, Z k → f k) (hz : ∀ k, Z k → Z' k) (hR : ∀ cs m, R cs m → R' cs m) : FldE w' Z' R' cs x := by
  obtain ⟨kv, vv, e, h1, h2, h3⟩ := h
  exact ⟨kv, vv, e, ((h1.keep g hf).weak hz).imp (fun cs v _ hv => hv.go g hf hz (fun cs m _ => hR cs m)), ((h2.keep g hf).weak hz).imp (fun cs v _ hv => hv.go g hf hz (fun cs m _ => hR cs m)), h3⟩
theorem MsgE.go {w w' : World} {Z Z' f : Nat → Prop} (g : Keep f w w') (hf : ∀ k, Z k → f k) (hz : ∀ k, Z k → Z' k) : ∀ (d : Nat) (cs : List Value) (m : CM), MsgE w Z d cs m → MsgE w' Z' d cs m
  | 0, _, _, h => h.elim
  | d + 1, cs, m, ⟨fv, uv, e, h1, h2⟩ => ⟨fv, uv, e, ((h1.keep g hf).weak hz).imp (fun cs x _ hx => hx.go g hf hz (MsgE.go g hf hz d)), ((h2.keep g hf).weak hz).imp (fun cs x _ hx => (hx.keep g hf).weak hz)⟩
theorem MsgE.more {w : World} {Z : Nat → Prop} : ∀ (d : Nat) (cs : List Value) (m : CM), MsgE w Z d cs m → MsgE w Z (d + 1) cs m
  | 0, _, _, h => h.elim
  | d + 1, cs, m, ⟨fv, uv, e, h1, h2⟩ => ⟨fv, uv, e, h1.imp (fun cs x _ hx => hx.go (Keep.refl Z w) (fun _ h => h) (fun _ h => h) (MsgE.more d)), h2⟩
theorem MsgE.le {w : World} {Z : Nat → Prop} {d e : Nat} (h : d ≤ e) {cs : List Value} {m : CM} (hm : MsgE w Z d cs m) : MsgE w Z e cs m := by
  induction e with
  | zero => rw [Nat.le_zero.1 h] at hm; exact hm
  | succ e ih =>
    by_cases q : d = e + 1
    · subst q; exact hm
    · exact MsgE.more e cs m (ih (by omega))
theorem keepT {w w' : World} (hb : Below w.heap.size w w') : Keep (fun _ => True) w w' := Keep.ofBelow hb
theorem MsgE.kept {w w' : World} {Z : Nat → Prop} {d : Nat} {cs : List Value} {m : CM} (h : MsgE w Z d cs m) (hb : Below w.heap.size w w') : MsgE w' Z d cs m := MsgE.go (keepT hb) (fun _ _ => trivial) (fun _ h => h) d cs m h
theorem FldE.kept {w w' : World} {Z : Nat → Prop} {d : Nat} {cs : List Value} {x : CF CM} (h : FldE w Z (MsgE w Z d) cs x) (hb : Below w.heap.size w w') : FldE w' Z (MsgE w' Z d) cs x := h.go (keepT hb) (fun _ _ => trivial) (fun _ h => h) (fun _ _ h => h.kept hb)
theorem ValE.kept {w w' : World} {Z : Nat → Prop} {d : Nat} {cs : List Value} {x : CV CM} (h : ValE w Z (MsgE w Z d) cs x) (hb : Below w.heap.size w w') : ValE w' Z (MsgE w' Z d) cs x := h.go (keepT hb) (fun _ _ => trivial) (fun _ h => h) (fun _ _ _ h => h.kept hb)
theorem EntE.kept {w w' : World} {Z : Nat → Prop} {cs : List Value} {x : CE} (h : EntE w Z cs x) (hb : Below w.heap.size w w') : EntE w' Z cs x := h.keep (keepT hb) (fun _ _ => trivial)
theorem ByE.kept {w w' : World} {Z : Nat → Prop} {v : Value} {b : List Int} (h : ByE w Z v b) (hb : Below w.heap.size w w') : ByE w' Z v b := h.keep (keepT hb) (fun _ _ => trivial)
/-- Rows of fields, values, messages, entries. -/
def FlsR (w : World) (Z : Nat → Prop) (d : Nat) (v : Value) (xs : List (CF CM)) : Prop := RowM w Z 3 (FldE w Z (MsgE w Z d)) v xs
def VlsR (w : World) (Z : Nat → Prop) (d : Nat) (v : Value) (xs : List (CV CM)) : Prop := RowM w Z 3 (ValE w Z (MsgE w Z d)) v xs
def MgsR (w : World) (Z : Nat → Prop) (d : Nat) (v : Value) (xs : List CM) : Prop := RowM w Z 2 (MsgE w Z d) v xs
def EnsR (w : World) (Z : Nat → Prop) (v : Value) (xs : List CE) : Prop := RowM w Z 4 (EntE w Z) v xs
theorem FlsR.kept {w w' : World} {Z : Nat → Prop} {d : Nat} {v : Value} {xs : List (CF CM)} (h : FlsR w Z d v xs) (hb : Below w.heap.size w w') : FlsR w' Z d v xs := (RowM.keep h (keepT hb) (fun _ _ => trivial)).imp (fun _ _ _ h => h.kept hb)
theorem VlsR.kept {w w' : World} {Z : Nat → Prop} {d : Nat} {v : Value} {xs : List (CV CM)} (h : VlsR w Z d v xs) (hb : Below w.heap.size w w') : VlsR w' Z d v xs := (RowM.keep h (keepT hb) (fun _ _ => trivial)).imp (fun _ _ _ h => h.kept hb)
theorem MgsR.kept {w w' : World} {Z : Nat → Prop} {d : Nat} {v : Value} {xs : List CM} (h : MgsR w Z d v xs) (hb : Below w.heap.size w w') : MgsR w' Z d v xs := (RowM.keep h (keepT hb) (fun _ _ => trivial)).imp (fun _ _ _ h => h.kept hb)
theorem EnsR.kept {w w' : World} {Z : Nat → Prop} {v : Value} {xs : List CE} (h : EnsR w Z v xs) (hb : Below w.heap.size w w') : EnsR w' Z v xs := (RowM.keep h (keepT hb) (fun _ _ => trivial)).imp (fun _ _ _ h => h.kept hb)
theorem msg_open {w : World} {Z : Nat → Prop} {d : Nat} {cs : List Value} {m : CM} (h : MsgE w Z (d + 1) cs m) : ∃ fa fc ua uc, cs = [.slice fa m.fs.length fc, .slice ua m.us.length uc] ∧ FlsR w Z d (.slice fa m.fs.length fc) m.fs ∧ EnsR w Z (.slice ua m.us.length uc) m.us ∧ m.fs.length ≤ 4000000 ∧ m.us.length ≤ 4000000 := by
  obtain ⟨fv, uv, e, h1, h2⟩ := h
  obtain ⟨fa, fc, rfl, l1⟩ := h1.sl
  obtain ⟨ua, uc, rfl, l2⟩ := h2.sl
  exact ⟨fa, fc, ua, uc, e, h1, h2, l1, l2⟩
theorem fld_open {w : World} {Z : Nat → Prop} {d : Nat} {cs : List Value} {x : CF CM} (h : FldE w Z (MsgE w Z d) cs x) : ∃ ka kc va vc, cs = [.int .i64 x.num, .slice ka x.ks.length kc, .slice va x.vs.length vc] ∧ VlsR w Z d (.slice ka x.ks.length kc) x.ks ∧ VlsR w Z d (.slice va x.vs.length vc) x.vs ∧ x.ks.length ≤ 4000000 ∧ x.vs.length ≤ 4000000 ∧ I64 x.num := by
  obtain ⟨kv, vv, e, h1, h2, h3⟩ := h
  obtain ⟨ka, kc, rfl, l1⟩ := h1.sl
  obtain ⟨va, vc, rfl, l2⟩ := h2.sl
  exact ⟨ka, kc, va, vc, e, h1, h2, l1, l2, h3⟩
theorem val_open {w : World} {Z : Nat → Prop} {d : Nat} {cs : List Value} {x : CV CM} (h : ValE w Z (MsgE w Z d) cs x) : ∃ ba bc ma mc, cs = [.int .u64 x.n, .slice ba x.b.length bc, .slice ma x.ms.length mc] ∧ ByE w Z (.slice ba x.b.length bc) x.b ∧ MgsR w Z d (.slice ma x.ms.length mc) x.ms ∧ x.b.length ≤ 4000000 ∧ x.ms.length ≤ 4000000 ∧ U64 x.n := by
  obtain ⟨bv, mv, e, h1, h2, h3⟩ := h
  obtain ⟨ba, bc, rfl, l1⟩ := h1.sl
  obtain ⟨ma, mc, rfl, l2⟩ := h2.sl
  exact ⟨ba, bc, ma, mc, e, h1, h2, l1, l2, h3⟩
theorem ent_open {w : World} {Z : Nat → Prop} {cs : List Value} {x : CE} (h : EntE w Z cs x) : ∃ ba bc, cs = [.int .i64 x.num, .int .i64 x.kind, .int .u64 x.n, .slice ba x.b.length bc] ∧ ByE w Z (.slice ba x.b.length bc) x.b ∧ x.b.length ≤ 4000000 ∧ I64 x.num ∧ I64 x.kind ∧ U64 x.n := by
  obtain ⟨bv, e, h1, h2⟩ := h
  obtain ⟨ba, bc, rfl, l1⟩ := h1.sl
  exact ⟨ba, bc, e, h1, l1, h2⟩
theorem fls_at {w : World} {Z : Nat → Prop} {d : Nat} {a : Option Addr} {n c : Nat} {xs : List (CF CM)} (h : FlsR w Z d (.slice a n c) xs) {i : Nat} (hi : i < xs.length) : ∃ b o ka kc va vc, a = some ⟨b, o, none⟩ ∧ Z b ∧ b < w.heap.size ∧ w.cell? ⟨b, o + i * 3, none⟩ = some (.int .i64 xs[i].num) ∧ w.cell? ⟨b, o + i * 3 + 1, none⟩ = some (.slice ka xs[i].ks.length kc) ∧ w.cell? ⟨b, o + i * 3 + 2, none⟩ = some (.slice va xs[i].vs.length vc) ∧ FldE w Z (MsgE w Z d) [.int .i64 xs[i].num, .slice ka xs[i].ks.length kc, .slice va xs[i].vs.length vc] xs[i] := by
  obtain ⟨b, o, cs, e, hz, hb, hl, he, hc⟩ := RowM.at h (by decide) hi
  obtain ⟨ka, kc, va, vc, rfl, _⟩ := fld_open he
  exact ⟨b, o, ka, kc, va, vc, e, hz, hb, hc 0 _ rfl, hc 1 _ rfl, hc 2 _ rfl, he⟩
theorem vls_at {w : World} {Z : Nat → Prop} {d : Nat} {a : Option Addr} {n c : Nat} {xs : List (CV CM)} (h : VlsR w Z d (.slice a n c) xs) {i : Nat} (hi : i < xs.length) : ∃ b o ba bc ma mc, a = some ⟨b, o, none⟩ ∧ Z b ∧ b < w.heap.size ∧ w.cell? ⟨b, o + i * 3, none⟩ = some (.int .u64 xs[i].n) ∧ w.cell? ⟨b, o + i * 3 + 1, none⟩ = some (.slice ba xs[i].b.length bc) ∧ w.cell? ⟨b, o + i * 3 + 2, none⟩ = some (.slice ma xs[i].ms.length mc) ∧ ValE w Z (MsgE w Z d) [.int .u64 xs[i].n, .slice ba xs[i].b.length bc, .slice ma xs[i].ms.length mc] xs[i] := by
  obtain ⟨b, o, cs, e, hz, hb, hl, he, hc⟩ := RowM.at h (by decide) hi
  obtain ⟨ka, kc, va, vc, rfl, _⟩ := val_open he
  exact ⟨b, o, ka, kc, va, vc, e, hz, hb, hc 0 _ rfl, hc 1 _ rfl, hc 2 _ rfl, he⟩
theorem mgs_at {w : World} {Z : Nat → Prop} {d : Nat} {a : Option Addr} {n c : Nat} {xs : List CM} (h : MgsR w Z (d + 1) (.slice a n c) xs) {i : Nat} (hi : i < xs.length) : ∃ b o fa fc ua uc, a = some ⟨b, o, none⟩ ∧ Z b ∧ b < w.heap.size ∧ w.cell? ⟨b, o + i * 2, none⟩ = some (.slice fa xs[i].fs.length fc) ∧ w.cell? ⟨b, o + i * 2 + 1, none⟩ = some (.slice ua xs[i].us.length uc) ∧ MsgE w Z (d + 1) [.slice fa xs[i].fs.length fc, .slice ua xs[i].us.length uc] xs[i] := by
  obtain ⟨b, o, cs, e, hz, hb, hl, he, hc⟩ := RowM.at h (by decide) hi
  obtain ⟨ka, kc, va, vc, rfl, _⟩ := msg_open he
  exact ⟨b, o, ka, kc, va, vc, e, hz, hb, hc 0 _ rfl, hc 1 _ rfl, he⟩
theorem mgs_zero {w : World} {Z : Nat → Prop} {v : Value} {xs : List CM} (h : MgsR w Z 0 v xs) : xs = [] := by
  cases xs with
  | nil => rfl
  | cons x r =>
    obtain ⟨a, c, rfl, _⟩ := RowM.sl h
    obtain ⟨b, o, cs, e, hz, hb, hl, he, hc⟩ := RowM.at h (by decide) (i := 0) (by simp)
    exact he.elim
theorem ens_at {w : World} {Z : Nat → Prop} {a : Option Addr} {n c : Nat} {xs : List CE} (h : EnsR w Z (.slice a n c) xs) {i : Nat} (hi : i < xs.length) : ∃ b o ba bc, a = some ⟨b, o, none⟩ ∧ Z b ∧ b < w.heap.size ∧ w.cell? ⟨b, o + i * 4, none⟩ = some (.int .i64 xs[i].num) ∧ w.cell? ⟨b, o + i * 4 + 1, none⟩ = some (.int .i64 xs[i].kind) ∧ w.cell? ⟨b, o + i * 4 + 2, none⟩ = some (.int .u64 xs[i].n) ∧ w.cell? ⟨b, o + i * 4 + 3, none⟩ = some (.slice ba xs[i].b.length bc) ∧ EntE w Z [.int .i64 xs[i].num, .int .i64 xs[i].kind, .int .u64 xs[i].n, .slice ba xs[i].b.length bc] xs[i] := by
  obtain ⟨b, o, cs, e, hz, hb, hl, he, hc⟩ := RowM.at h (by decide) hi
  obtain ⟨ba, bc, rfl, _⟩ := ent_open he
  exact ⟨b, o, ba, bc, e, hz, hb, hc 0 _ rfl, hc 1 _ rfl, hc 2 _ rfl, hc 3 _ rfl, he⟩
theorem mgs_at' {w : World} {Z : Nat → Prop} {d : Nat} {a : Option Addr} {n c : Nat} {xs : List CM} (h : MgsR w Z d (.slice a n c) xs) {i : Nat} (hi : i < xs.length) : ∃ b o fa fc ua uc, a = some ⟨b, o, none⟩ ∧ Z b ∧ b < w.heap.size ∧ w.cell? ⟨b, o + i * 2, none⟩ = some (.slice fa xs[i].fs.length fc) ∧ w.cell? ⟨b, o + i * 2 + 1, none⟩ = some (.slice ua xs[i].us.length uc) ∧ MsgE w Z d [.slice fa xs[i].fs.length fc, .slice ua xs[i].us.length uc] xs[i] := by
  cases d with
  | zero => rw [mgs_zero h] at hi; simp at hi
  | succ d => exact mgs_at h hi
/-- A bool that says P. -/
def EqR (w : World) (P : Prop) (e : Ending) (w' : World) : Prop := ∃ r : Bool, e = .returned (.bool r) ∧ (r = true ↔ P) ∧ Below w.heap.size w w'
theorem EqR.mk {w : World} {P : Prop} {w' : World} (r : Bool) (h : r = true ↔ P) (hb : Below w.heap.size w w') : EqR w P (.returned (.bool r)) w' := ⟨r, rfl, h, hb⟩
theorem EqR.yes {w : World} {P : Prop} {w' : World} (h : P) (hb : Below w.heap.size w w') : EqR w P (.returned (.bool true)) w' := ⟨true, rfl, ⟨fun _ => h, fun _ => rfl⟩, hb⟩
theorem EqR.no {w : World} {P : Prop} {w' : World} (h : ¬ P) (hb : Below w.heap.size w w') : EqR w P (.returned (.bool false)) w' := ⟨false, rfl, ⟨fun q => (by cases q), fun q => absurd q h⟩, hb⟩
theorem take_next {α : Type} {xs ys : List α} {i : Nat} (h1 : i < xs.length) (h2 : i < ys.length) (h : xs.take i = ys.take i) (he : xs[i] = ys[i]) : xs.take (i + 1) = ys.take (i + 1) := by
  rw [List.take_succ_eq_append_getElem h1, List.take_succ_eq_append_getElem h2, h, he]
theorem take_all {α : Type} {xs ys : List α} {i : Nat} (h1 : xs.length ≤ i) (h2 : ys.length ≤ i) (h : xs.take i = ys.take i) : xs = ys := by
  rw [List.take_of_length_le h1, List.take_of_length_le h2] at h
  exact h
theorem ne_at {α : Type} {xs ys : List α} {i : Nat} (h1 : i < xs.length) (h2 : i < ys.length) (h : ¬ xs[i] = ys[i]) : ¬ xs = ys := by
  intro e
  subst e
  exact h rfl
/-- Bytes as a string. -/
theorem by_conv {w : World} {Z : Nat → Prop} {a : Option Addr} {n c : Nat} {b : List Int} (h : ByE w Z (.slice a n c) b) : (convert 36 9 (.slice a n c)).run Tryz.prog w = .ok (.string (strOfNums b)) w := by
  obtain ⟨⟨a', c', e, hv⟩, hbd, -⟩ := h
  cases e
  rcases hv.cells with ⟨h0, hn⟩ | ⟨b', off, rfl, _, hc⟩
  · have hx : b = [] := List.eq_nil_of_length_eq_zero h0
    subst hx
    cases a with
    | none => exact run_convert_bytes_nil w 36 5 Tryz.underlying36 Tryz.underlying5 0 c 9 Tryz.underlying9
    | some x =>
      show (convert 36 9 (.slice (some x) 0 c)).run Tryz.prog w = _
      rw [run_convert_bytes_string w 36 9 5 _ 0 c Tryz.underlying36 Tryz.underlying5 Tryz.underlying9, run_bytesToString w _ 0 c [] (by simp [loadCells, loadCellsFrom])]
      rfl
  · exact run_convert_bytes_arg w 36 5 Tryz.underlying36 Tryz.underlying5 b' off b.length c b rfl (fun i hi => hc i _ (by simp [List.getD, hi])) 9 Tryz.underlying9
/-- What is needed of a struct's relation. -/
structure Fam {α : Type} (k : Nat) (E : World → (Nat → Prop) → List Value → α → Prop) : Prop where
  go : ∀ {w w' : World} {Z Z' f : Nat → Prop} {cs : List Value} {x : α}, E w Z cs x → Keep f w w' → (∀ b, Z b → f b) → (∀ b, Z b → Z' b) → E w' Z' cs x
  old : ∀ {w : World} {Z : Nat → Prop} {cs : List Value} {x : α}, E w Z cs x → E w (fun b => Z b ∧ b < w.heap.size) cs x
  one : ∀ {w : World} {Z : Nat → Prop} {cs : List Value} {x : α}, E w Z cs x → ∀ u ∈ cs, u.oneCell' = true
  len : ∀ {w : World} {Z : Nat → Prop} {cs : List Value} {x : α}, E w Z cs x → cs.length = k
theorem row_oldZ {w : World} {Z : Nat → Prop} {k : Nat} {v : Value} {n : Nat} {fl : List Value} (hk : 0 < k) (h : RowS w Z k v n fl) : RowS w (fun b => Z b ∧ b < w.heap.size) k v n fl := by
  obtain ⟨a, c, e, h⟩ := h
  refine ⟨a, c, e, h.length, h.le, h.max, ?_⟩
  rcases h.cells with h0 | ⟨b, off, rfl, hz, hc⟩
  · exact .inl h0
  · by_cases hn : n = 0
    · exact .inl ⟨hn, fun q => by cases q⟩
    · have hlt : 0 < fl.length := by rw [h.length]; exact Nat.mul_pos (by omega) hk
      exact .inr ⟨b, off, rfl, ⟨hz, World.block_lt_of_cell? _ _ (hc 0 _ (List.getElem?_eq_getElem hlt))⟩, hc⟩
theorem RowM.old {α : Type} {w : World} {Z : Nat → Prop} {k : Nat} {E E' : List Value → α → Prop} {v : Value} {xs : List α} (hk : 0 < k) (h : RowM w Z k E v xs) (hE : ∀ cs x, x ∈ xs → E cs x → E' cs x) : RowM w (fun b => Z b ∧ b < w.heap.size) k E' v xs := by
  obtain ⟨ts, hr, hl, hn, he⟩ := h
  exact ⟨ts, row_oldZ hk hr, hl, hn, fun i t x ht hx => hE _ _ (List.mem_of_getElem? hx) (he i t x ht hx)⟩
theorem ByE.old {w : World} {Z : Nat → Prop} {v : Value} {b : List Int} (h : ByE w Z v b) : ByE w (fun b => Z b ∧ b < w.heap.size) v b := ⟨row_oldZ (by decide) h.1, h.2⟩
theorem EntE.old {w : World} {Z : Nat → Prop} {cs : List Value} {x : CE} (h : EntE w Z cs x) : EntE w (fun b => Z b ∧ b < w.heap.size) cs x := by
  obtain ⟨bv, e, h1, h2⟩ := h
  exact ⟨bv, e, h1.old, h2⟩
theorem ValE.old' {w : World} {Z : Nat → Prop} {R R' : List Value → CM → Prop} {cs : List Value} {x : CV CM} (h : ValE w Z R cs x) (hR : ∀ cs m, R cs m → R' cs m) : ValE w (fun b => Z b ∧ b < w.heap.size) R' cs x := by
  obtain ⟨bv, mv, e, h1, h2, h3⟩ := h
  exact ⟨bv, mv, e, h1.old, h2.old (by decide) (fun cs m _ => hR cs m), h3⟩
theorem FldE.old' {w : World} {Z : Nat → Prop} {R R' : List Value → CM → Prop} {cs : List Value} {x : CF CM} (h : FldE w Z R cs x) (hR : ∀ cs m, R cs m → R' cs m) : FldE w (fun b => Z b ∧ b < w.heap.size) R' cs x := by
  obtain ⟨kv, vv, e, h1, h2, h3⟩ := h
  exact ⟨kv, vv, e, h1.old (by decide) (fun cs v _ hv => hv.old' hR), h2.old (by decide) (fun cs v _ hv => hv.old' hR), h3⟩
theorem MsgE.old {w : World} {Z : Nat → Prop} : ∀ (d : Nat) (cs : List Value) (m : CM), MsgE w Z d cs m → MsgE w (fun b => Z b ∧ b < w.heap.size) d cs m
  | 0, _, _, h => h.elim
  | d + 1, cs, m, ⟨fv, uv, e, h1, h2⟩ => ⟨fv, uv, e, h1.old (by decide) (fun cs x _ hx => hx.old' (MsgE.old d)), h2.old (by decide) (fun cs x _ hx => hx.old)⟩
theorem famM (d : Nat) : Fam 2 (fun w Z => MsgE w Z d) where
  go h g hf hz := MsgE.go g hf hz d _ _ h
  old h := MsgE.old d _ _ h
  one h u hu := by
    cases d with
    | zero => exact h.elim
    | succ d =>
      obtain ⟨fa, fc, ua, uc, rfl, _⟩ := msg_open h
      simp at hu
      rcases hu with rfl | rfl <;> rfl
  len h := by
    cases d with
    | zero => exact h.elim
    | succ d =>
      obtain ⟨fa, fc, ua, uc, rfl, _⟩ := msg_open h
      rfl
theorem famV (d : Nat) : Fam 3 (fun w Z => ValE w Z (MsgE w Z d)) where
  go h g hf hz := h.go g hf hz (fun cs m _ hm => MsgE.go g hf hz d cs m hm)
  old h := h.old' (MsgE.old d)
  one h u hu := by
    obtain ⟨ba, bc, ma, mc, rfl, _⟩ := val_open h
    simp at hu
    rcases hu with rfl | rfl | rfl <;> rfl
  len h := by
    obtain ⟨ba, bc, ma, mc, rfl, _⟩ := val_open h
    rfl
theorem famF (d : Nat) : Fam 3 (fun w Z => FldE w Z (MsgE w Z d)) where
  go h g hf hz := h.go g hf hz (MsgE.go g hf hz d)
  old h := h.old' (MsgE.old d)
  one h u hu := by
    obtain ⟨ba, bc, ma, mc, rfl, _⟩ := fld_open h
    simp at hu
    rcases hu with rfl | rfl | rfl <;> rfl
  len h := by
    obtain ⟨ba, bc, ma, mc, rfl, _⟩ := fld_open h
    rfl
theorem famE : Fam 4 (fun w Z => EntE w Z) where
  go h g hf hz := (h.keep g hf).weak hz
  old h := h.old
  one h u hu := by
    obtain ⟨ba, bc, rfl, _⟩ := ent_open h
    simp at hu
    rcases hu with rfl | rfl | rfl | rfl <;> rfl
  len h := by
    obtain ⟨ba, bc, rfl, _⟩ := ent_open h
    rfl
/-- Old memory from base on, but for v's own block. -/
def Zof (w : World) (base : Nat) (v : Value) (b : Nat) : Prop := base ≤ b ∧ b < w.heap.size ∧ v.ownBlock ≠ some b
/-- A row of one's own, each struct as E says, in other memory. -/
def OwnM {α : Type} (w : World) (base : Nat) (t : TypeId) (k : Nat) (E : World → (Nat → Prop) → List Value → α → Prop) (v : Value) (xs : List α) : Prop :=
  ∃ ts : List (Tup k), w.ownsRow base t k v xs.length (ts.flatMap Subtype.val) ∧ ts.length = xs.length ∧ ∀ (i : Nat) (t : Tup k) (x : α), ts[i]? = some t → xs[i]? = some x → E w (Zof w base v) t.1 x
theorem OwnM.nil {α : Type} (w : World) (base : Nat) (t : TypeId) (k : Nat) (E : World → (Nat → Prop) → List Value → α → Prop) : OwnM w base t k E (.slice none 0 0) [] := ⟨[], World.ownsRow_nil _ _ _ _, rfl, fun i t x ht => by simp at ht⟩
theorem OwnM.shape {α : Type} {w : World} {base : Nat} {t : TypeId} {k : Nat} {E : World → (Nat → Prop) → List Value → α → Prop} {v : Value} {xs : List α} (h : OwnM w base t k E v xs) : ∃ a c, v = .slice a xs.length c := by
  obtain ⟨ts, h1, _⟩ := h
  exact own_shape h1
theorem OwnM.own {α : Type} {w : World} {base : Nat} {t : TypeId} {k : Nat} {E : World → (Nat → Prop) → List Value → α → Prop} {v : Value} {xs : List α} (h : OwnM w base t k E v xs) {b : Nat} (hb : v.ownBlock = some b) : base ≤ b ∧ b < w.heap.size := by
  obtain ⟨ts, h1, _⟩ := h
  have := own_type h1 hb
  exact ⟨this.1, this.2.1⟩
theorem OwnM.kept {α : Type} {w w' : World} {base : Nat} {t : TypeId} {k : Nat} {E : World → (Nat → Prop) → List Value → α → Prop} (F : Fam k E) {v : Value} {xs : List α} (h : OwnM w base t k E v xs) (hb : Below w.heap.size w w') : OwnM w' base t k E v xs := by
  obtain ⟨ts, h1, h2, h3⟩ := h
  exact ⟨ts, own_kept h1 hb, h2, fun i t x ht hx => F.go (h3 i t x ht hx) (keepT hb) (fun _ _ => trivial) (fun b hz => ⟨hz.1, Nat.lt_of_lt_of_le hz.2.1 hb.size, hz.2.2⟩)⟩
theorem OwnM.row {α : Type} {w : World} {base : Nat} {t : TypeId} {k : Nat} {E : World → (Nat → Prop) → List Value → α → Prop} (F : Fam k E) {v : Value} {xs : List α} (h : OwnM w base t k E v xs) (hn : xs.length ≤ 4000000) : RowM w (base ≤ ·) k (E w (base ≤ ·)) v xs := by
  obtain ⟨ts, h1, h2, h3⟩ := h
  exact ⟨ts, own_row h1 (fun b hb => (own_type h1 hb).1), h2, hn, fun i t x ht hx => F.go (h3 i t x ht hx) (Keep.refl (fun _ => True) w) (fun _ _ => trivial) (fun b hz => hz.1)⟩
/-- One struct more. -/
theorem OwnM.push {α : Type} {k : Nat} {E : World → (Nat → Prop) → List Value → α → Prop} (F : Fam k E) (t ts : TypeId) (bytes : Nat) (z : Value) (hts : Tryz.prog.underlying ts = some (.slice t)) (hinfo : (Tryz.prog.info? t).map (fun i => (i.zero, i.size, i.bytes)) = some (some z, k, bytes)) (hzs : z.cells.size = k) (h0 : 0 < k) (hby : bytes ≤ 400)
    {base : Nat} {v : Value} {xs : List α} {w : World} {cs : List Value} {x : α} (h : OwnM w base t k E v xs) (hx : E w (Zof w base v) cs x) (hb : base ≤ w.heap.size) (hn : xs.length ≤ 4000000) :
    ∃ a c w', Hid ((Builtin.append_ #[ts, ts] ts #[v, .slice (some ⟨w.heap.size, 0, none⟩) 1 1]).run Tryz.prog (w.alloc (.cells cs.toArray t)) = .ok (.slice a (xs.length + 1) c) w') ∧ Hid (OwnM w' base t k E (.slice a (xs.length + 1) c) (xs ++ [x])) ∧ Hid (Grow w w' v (.slice a (xs.length + 1) c)) := by
  obtain ⟨us, h1, h2, h3⟩ := h
  obtain ⟨v', w', r1, r2, r3⟩ := append_st t ts k bytes z hts hinfo hzs h0 hby base v xs.length (us.flatMap Subtype.val) w cs.toArray (by simp [F.len hx]) (by simpa using F.one hx) h1 hb hn
  obtain ⟨a, c, rfl⟩ := own_shape r2
  refine ⟨a, c, w', hid r1, hid ⟨us ++ [⟨cs, F.len hx⟩], ?_, by simp [h2], ?_⟩, hid r3⟩
  · rw [List.length_append, List.flatMap_append]
    simpa using r2
  · have hz : ∀ b, Zof w base v b → Zof w' base (.slice a (xs.length + 1) c) b := fun b hzb => by
      refine ⟨hzb.1, Nat.lt_of_lt_of_le hzb.2.1 r3.size, ?_⟩
      intro e
      rcases r3.own with q | q
      · rw [q] at e; exact hzb.2.2 e
      · have := q b e; have := hzb.2.1; omega
    have hk : Keep (fun b => v.ownBlock ≠ some b) w w' := Keep.ofGrow r3 (fun _ hk => hk)
    intro i u y hu hy
    by_cases hi : i < us.length
    · rw [List.getElem?_append_left hi] at hu
      rw [List.getElem?_append_left (by omega)] at hy
      exact F.go (h3 i u y hu hy) hk (fun b hz => hz.2.2) hz
    · have ei : i = us.length := by
        have := (List.getElem?_eq_some_iff.1 hu).1
        simp at this
        omega
      subst ei
      rw [List.getElem?_append_right (Nat.le_refl _), Nat.sub_self] at hu
      rw [h2, List.getElem?_append_right (Nat.le_refl _), Nat.sub_self] at hy
      simp at hu hy
      subst hu hy
      exact F.go hx hk (fun b hz => hz.2.2) hz
theorem OwnM.bel {α : Type} {w w' : World} {base : Nat} {t : TypeId} {k : Nat} {E : World → (Nat → Prop) → List Value → α → Prop} {v v' : Value} {xs : List α} (h : OwnM w base t k E v xs) (g : Grow w w' v v') {B : Nat} (hB : B ≤ base) (hs : B ≤ w.heap.size) : Below B w w' := g.below hs (fun b hb => Nat.le_trans hB (h.own hb).1)
/-- Bytes of one's own. -/
theorem Tryz.infoBy : (Tryz.prog.info? 5).map (fun i => (i.zero, i.size, i.bytes)) = some (some (.int .u8 0), 1, 1) := by kernel_rfl
theorem appendBy {w : World} {Z : Nat → Prop} {a : Option Addr} {c : Nat} {b : List Int} (h : ByE w Z (.slice a b.length c) b) : ∃ a' c' w', (Builtin.append_ #[36, 36] 36 #[.slice none 0 0, .slice a b.length c]).run Tryz.prog w = .ok (.slice a' b.length c') w' ∧ ByE w' (w.heap.size ≤ ·) (.slice a' b.length c') b ∧ Below w.heap.size w w' := by
  obtain ⟨⟨a2, c2, e, hv⟩, hbd, hlen⟩ := h
  cases e
  obtain ⟨i0, hi, hz0, hz1, hz2⟩ := info_parts Tryz.infoBy
  have key : ∀ (ad : Addr), a = some ad → (∀ j u, (b.map (Value.int .u8))[j]? = some u → w.cell? (ad.add j) = some u) → ∃ a' c' w', (Builtin.append_ #[36, 36] 36 #[.slice none 0 0, .slice a b.length c]).run Tryz.prog w = .ok (.slice a' b.length c') w' ∧ ByE w' (w.heap.size ≤ ·) (.slice a' b.length c') b ∧ Below w.heap.size w w' := by
    intro ad e hc
    subst e
    obtain ⟨v', w', r1, r2, r3⟩ := run_append_mine (P := Tryz.prog) w w.heap.size 36 36 5 i0 (.int .u8 0) 1 1 Tryz.underlying36 hi hz0 hz1 hz2 rfl (by decide) (.slice none 0 0) 0 [] (World.ownsRow_nil _ _ _ _) ad b.length c (b.map (Value.int .u8)) (by simp) hc (fun u hu => by
      obtain ⟨y, _, rfl⟩ := List.mem_map.1 hu
      rfl) (by unfold maxLen; omega) (by omega) (Nat.le_refl _)
    rw [Nat.zero_add, List.nil_append] at r2
    obtain ⟨a', c', rfl⟩ := own_shape r2
    exact ⟨a', c', w', r1, ⟨own_row r2 (fun k hk => (own_type r2 hk).1), hbd, hlen⟩, r3.below (Nat.le_refl _) (fun k hk => by simp [Value.ownBlock] at hk)⟩
  rcases hv.cells with ⟨h0, hn⟩ | ⟨b', off, rfl, _, hc⟩
  · have hx : b = [] := List.eq_nil_of_length_eq_zero h0
    subst hx
    cases a with
    | none =>
      have hc0 := hn rfl
      subst hc0
      refine ⟨none, 0, w, ?_, ⟨rowS_nil _ _ _, hbd, hlen⟩, Below.refl _ _⟩
      exact run_append_owned_none (P := Tryz.prog) (w := w) w.heap.size 36 36 5 i0 1 Tryz.underlying36 hi (.slice none 0 0) 0 [] (World.ownsRow_nil _ _ _ _)
    | some ad => exact key ad rfl (fun j u hu => by simp at hu)
  · exact key ⟨b', off, none⟩ rfl (fun j u hu => by rw [Addr.add_lit]; exact hc j u hu)
/-- A struct in new memory. -/
def NewE {α : Type} (E : World → (Nat → Prop) → List Value → α → Prop) (w : World) (x : α) (e : Ending) (w' : World) : Prop := ∃ cs : List Value, e = .returned (.agg cs.toArray) ∧ E w' (w.heap.size ≤ ·) cs x ∧ Below w.heap.size w w'
/-- A list in new memory. -/
def NewL {α : Type} (k : Nat) (E : World → (Nat → Prop) → List Value → α → Prop) (w : World) (xs : List α) (e : Ending) (w' : World) : Prop := ∃ a c, e = .returned (.slice a xs.length c) ∧ RowM w' (w.heap.size ≤ ·) k (E w' (w.heap.size ≤ ·)) (.slice a xs.length c) xs ∧ Below w.heap.size w w'
theorem NewE.mk {α : Type} {E : World → (Nat → Prop) → List Value → α → Prop} {w : World} {x : α} {w' : World} (cs : List Value) (h : E w' (w.heap.size ≤ ·) cs x) (hb : Below w.heap.size w w') : NewE E w x (.returned (.agg cs.toArray)) w' := ⟨cs, rfl, h, hb⟩
theorem NewL.mk {α : Type} {k : Nat} {E : World → (Nat → Prop) → List Value → α → Prop} {w : World} {xs : List α} {w' : World} (a : Option Addr) (c n : Nat) (hn : n = xs.length) (h : RowM w' (w.heap.size ≤ ·) k (E w' (w.heap.size ≤ ·)) (.slice a n c) xs) (hb : Below w.heap.size w w') : NewL k E w xs (.returned (.slice a n c)) w' := by
  subst hn
  exact ⟨a, c, rfl, h, hb⟩
abbrev FmF (d : Nat) : World → (Nat → Prop) → List Value → CF CM → Prop := fun w Z => FldE w Z (MsgE w Z d)
abbrev FmV (d : Nat) : World → (Nat → Prop) → List Value → CV CM → Prop := fun w Z => ValE w Z (MsgE w Z d)
abbrev FmM (d : Nat) : World → (Nat → Prop) → List Value → CM → Prop := fun w Z => MsgE w Z d
abbrev FmE : World → (Nat → Prop) → List Value → CE → Prop := fun w Z => EntE w Z
theorem zof_new {α : Type} {w w1 W : World} {base : Nat} {t : TypeId} {k : Nat} {E : World → (Nat → Prop) → List Value → α → Prop} (F : Fam k E) {v : Value} {xs : List α} (h : OwnM w base t k E v xs) (hW : w.heap.size ≤ W.heap.size) (hb : base ≤ w.heap.size) {cs : List Value} {x : α} (hx : E w1 (W.heap.size ≤ ·) cs x) : E w1 (Zof w1 base v) cs x :=
  F.go (F.old hx) (Keep.refl (fun _ => True) w1) (fun _ _ => trivial) (fun b hz => ⟨by have := hz.1; omega, hz.2, fun e => by have := (h.own e).2; have := hz.1; omega⟩)
theorem newBytesT (w : World) (Z : Nat → Prop) (a : Option Addr) (c : Nat) (b : List Int) (h : ByE w Z (.slice a b.length c) b) : Calls Tryz.prog 77 #[.slice a b.length c] w fun e w' => ∃ a' c', e = .returned (.slice a' b.length c') ∧ ByE w' (w.heap.size ≤ ·) (.slice a' b.length c') b ∧ Below w.heap.size w w' := by
  obtain ⟨a', c', w', hr, h1, h2⟩ := appendBy h
  have HR := hid hr
  have H1 := hid h1
  have H2 := hid h2
  clear h hr h1 h2
  go_enter Tryz.func77, Tryz.ntmps77
  go_wp2_with (first | (at_builtin; refine wpList_append_ran rfl _ _ 36 36 rfl rfl _ _ (.slice a' b.length c') w' rfl rfl HR.out ?_))
  go_ret
  exact ⟨a', c', rfl, H1.out, H2.out⟩
theorem msg_openD {w : World} {Z : Nat → Prop} {d : Nat} {cs : List Value} {m : CM} (h : MsgE w Z d cs m) : ∃ fa fc ua uc, cs = [.slice fa m.fs.length fc, .slice ua m.us.length uc] ∧ True := by
  cases d with
  | zero => exact h.elim
  | succ d =>
    obtain ⟨fa, fc, ua, uc, e, _⟩ := msg_open h
    exact ⟨fa, fc, ua, uc, e, trivial⟩
theorem Tryz.infoF : (Tryz.prog.info? 33).map (fun i => (i.zero, i.size, i.bytes)) = some (some (.agg #[.int .i64 0, .slice none 0 0, .slice none 0 0]), 3, 56) := by kernel_rfl
theorem turnedF (w : World) (Z : Nat → Prop) (d d2 : Nat) (xs : List (CF CM)) (a : Option Addr) (c : Nat) (h : FlsR w Z d (.slice a xs.length c) xs) (fn : FuncId) (caps : Array Value) (hcf : ∀ (args : Array Value) (W : World), (callFunc fn args).run Tryz.prog W = .ok (.enter fn args) W) (g : CF CM → CF CM)
    (hf : ∀ (W : World), Below w.heap.size w W → ∀ (cs : List Value) (x : CF CM), x ∈ xs → FmF d W Z cs x → Calls Tryz.prog fn (#[.agg cs.toArray] ++ caps) W (NewE (FmF d2) W (g x))) : Calls Tryz.prog 80 #[.slice a xs.length c, .func (.func fn) #[] caps] w (NewL 3 (FmF d2) w (xs.map g)) := by
  obtain ⟨_, _, e1, l1⟩ := RowM.sl h
  clear e1
  have m1 : (xs.length : Int) ≤ 9223372036854775807 := by omega
  have H1 := hid h
  have HF := hid hf
  clear h hf
  go_enter Tryz.func80, Tryz.ntmps80
  go_wp2
  go_loopw [5, 10] (fun s5 s10 wr => ∃ (j : Nat) (oa : Option Addr) (oc : Nat), s5 = .slice oa j oc ∧ s10 = .int .i64 j ∧ j ≤ xs.length ∧ Hid (OwnM wr w.heap.size 33 3 (FmF d2) (.slice oa j oc) ((xs.take j).map g)) ∧ Hid (Below w.heap.size w wr)) (fun s5 s10 wr => xs.length - numAt wr s10)
  case atStart => exact ⟨0, none, 0, rfl, rfl, by omega, hid (OwnM.nil _ _ _ _ _), hid (Below.refl _ _)⟩
  case round =>
    obtain ⟨j, oa, oc, rfl, rfl, hj, HO, hb⟩ := hrel
    by_cases hlt : j < xs.length
    · have k2 : (j : Int) < (xs.length : Int) := by omega
      obtain ⟨b1, o1, ka1, kc1, va1, vc1, rfl, -, hb1, c0, c1, c2, he⟩ := fls_at (H1.out.kept hb.out) hlt
      have HE := hid he
      have HTK : Hid ((xs.take (j + 1)).map g = (xs.take j).map g ++ [g xs[j]]) := hid (by rw [List.take_succ_eq_append_getElem hlt, List.map_append]; rfl)
      have HLN : Hid (((xs.take j).map g).length = j) := hid (by simp; omega)
      have HME := hid (List.getElem_mem hlt)
      clear he
      generalize xs[j] = x at *
      go_wp2_with fail
      refine (HF.out _ (by have := hb.out; exact blBy) [.int .i64 x.num, .slice ka1 x.ks.length kc1, .slice va1 x.vs.length vc1] x HME.out (Fam.go (famF d) HE.out (keepT (below_alloc _)) (fun _ _ => trivial) (fun _ h => h))).mono ?_
      rintro e w1 ⟨ds, rfl, hn, hbx⟩
      have HZ := hid (zof_new (famF d2) HO.out (by simp) hb.out.size hn)
      have HO1 := hid (HO.out.kept (famF d2) (below_trans (below_alloc _) hbx))
      have hb1 : Hid (Below w.heap.size w w1) := hid (bl_then (by have := hb.out; exact blBy) hbx)
      clear hn hbx HO HE c0 c1 c2
      obtain ⟨ka2, kc2, va2, vc2, rfl, -⟩ := fld_open HZ.out
      generalize g x = y at *
      obtain ⟨la, lc, x1, HRUN, HO2, HG⟩ := OwnM.push (famF d2) 33 26 56 (.agg #[.int .i64 0, .slice none 0 0, .slice none 0 0]) Tryz.underlying26 Tryz.infoF rfl (by decide) (by decide) HO1.out HZ.out hb1.out.size (by rw [HLN.out]; omega)
      rw [HLN.out] at HRUN HO2 HG
      have hb2 : Hid (Below w.heap.size w x1) := hid (hb1.out.trans (HO1.out.bel HG.out (Nat.le_refl _) hb1.out.size))
      go_wp2_with (first | (at_builtin; refine wpList_append_ran rfl _ _ 26 26 rfl rfl _ _ (.slice la (j + 1) lc) x1 rfl rfl HRUN.out ?_))
      exact ⟨⟨j + 1, la, lc, rfl, by simp, by omega, hid (by rw [HTK.out]; exact HO2.out), hb2⟩, by simp [numAt]; omega⟩
    · have k2 : ¬ (j : Int) < (xs.length : Int) := by omega
      have ej : xs.length = j := by omega
      have e1 : xs.take j = xs := List.take_of_length_le (by omega)
      rw [e1] at HO
      have HRW := hid (HO.out.row (famF d2) (by simp; omega))
      have HEJ := hid ej
      clear ej e1
      go_wp2
      go_ret
      exact NewL.mk oa oc j (by simp; exact HEJ.out.symm) HRW.out hb.out
theorem Tryz.infoV : (Tryz.prog.info? 39).map (fun i => (i.zero, i.size, i.bytes)) = some (some (.agg #[.int .u64 0, .slice none 0 0, .slice none 0 0]), 3, 56) := by kernel_rfl
theorem turnedV (w : World) (Z : Nat → Prop) (d d2 : Nat) (xs : List (CV CM)) (a : Option Addr) (c : Nat) (h : VlsR w Z d (.slice a xs.length c) xs) (fn : FuncId) (caps : Array Value) (hcf : ∀ (args : Array Value) (W : World), (callFunc fn args).run Tryz.prog W = .ok (.enter fn args) W) (g : CV CM → CV CM)
    (hf : ∀ (W : World), Below w.heap.size w W → ∀ (cs : List Value) (x : CV CM), x ∈ xs → FmV d W Z cs x → Calls Tryz.prog fn (#[.agg cs.toArray] ++ caps) W (NewE (FmV d2) W (g x))) : Calls Tryz.prog 79 #[.slice a xs.length c, .func (.func fn) #[] caps] w (NewL 3 (FmV d2) w (xs.map g)) := by
  obtain ⟨_, _, e1, l1⟩ := RowM.sl h
  clear e1
  have m1 : (xs.length : Int) ≤ 9223372036854775807 := by omega
  have H1 := hid h
  have HF := hid hf
  clear h hf
  go_enter Tryz.func79, Tryz.ntmps79
  go_wp2
  go_loopw [5, 10] (fun s5 s10 wr => ∃ (j : Nat) (oa : Option Addr) (oc : Nat), s5 = .slice oa j oc ∧ s10 = .int .i64 j ∧ j ≤ xs.length ∧ Hid (OwnM wr w.heap.size 39 3 (FmV d2) (.slice oa j oc) ((xs.take j).map g)) ∧ Hid (Below w.heap.size w wr)) (fun s5 s10 wr => xs.length - numAt wr s10)
  case atStart => exact ⟨0, none, 0, rfl, rfl, by omega, hid (OwnM.nil _ _ _ _ _), hid (Below.refl _ _)⟩
  case round =>
    obtain ⟨j, oa, oc, rfl, rfl, hj, HO, hb⟩ := hrel
    by_cases hlt : j < xs.length
    · have k2 : (j : Int) < (xs.length : Int) := by omega
      obtain ⟨b1, o1, ka1, kc1, va1, vc1, rfl, -, hb1, c0, c1, c2, he⟩ := vls_at (H1.out.kept hb.out) hlt
      have HE := hid he
      have HTK : Hid ((xs.take (j + 1)).map g = (xs.take j).map g ++ [g xs[j]]) := hid (by rw [List.take_succ_eq_append_getElem hlt, List.map_append]; rfl)
      have HLN : Hid (((xs.take j).map g).length = j) := hid (by simp; omega)
      have HME := hid (List.getElem_mem hlt)
      clear he
      generalize xs[j] = x at *
      go_wp2_with fail
      refine (HF.out _ (by have := hb.out; exact blBy) [.int .u64 x.n, .slice ka1 x.b.length kc1, .slice va1 x.ms.length vc1] x HME.out (Fam.go (famV d) HE.out (keepT (below_alloc _)) (fun _ _ => trivial) (fun _ h => h))).mono ?_
      rintro e w1 ⟨ds, rfl, hn, hbx⟩
      have HZ := hid (zof_new (famV d2) HO.out (by simp) hb.out.size hn)
      have HO1 := hid (HO.out.kept (famV d2) (below_trans (below_alloc _) hbx))
      have hb1 : Hid (Below w.heap.size w w1) := hid (bl_then (by have := hb.out; exact blBy) hbx)
      clear hn hbx HO HE c0 c1 c2
      obtain ⟨ka2, kc2, va2, vc2, rfl, -⟩ := val_open HZ.out
      generalize g x = y at *
      obtain ⟨la, lc, x1, HRUN, HO2, HG⟩ := OwnM.push (famV d2) 39 31 56 (.agg #[.int .u64 0, .slice none 0 0, .slice none 0 0]) Tryz.underlying31 Tryz.infoV rfl (by decide) (by decide) HO1.out HZ.out hb1.out.size (by rw [HLN.out]; omega)
      rw [HLN.out] at HRUN HO2 HG
      have hb2 : Hid (Below w.heap.size w x1) := hid (hb1.out.trans (HO1.out.bel HG.out (Nat.le_refl _) hb1.out.size))
      go_wp2_with (first | (at_builtin; refine wpList_append_ran rfl _ _ 31 31 rfl rfl _ _ (.slice la (j + 1) lc) x1 rfl rfl HRUN.out ?_))
      exact ⟨⟨j + 1, la, lc, rfl, by simp, by omega, hid (by rw [HTK.out]; exact HO2.out), hb2⟩, by simp [numAt]; omega⟩
    · have k2 : ¬ (j : Int) < (xs.length : Int) := by omega
      have ej : xs.length = j := by omega
      have e1 : xs.take j = xs := List.take_of_length_le (by omega)
      rw [e1] at HO
      have HRW := hid (HO.out.row (famV d2) (by simp; omega))
      have HEJ := hid ej
      clear ej e1
      go_wp2
      go_ret
      exact NewL.mk oa oc j (by simp; exact HEJ.out.symm) HRW.out hb.out
theorem Tryz.infoM : (Tryz.prog.info? 29).map (fun i => (i.zero, i.size, i.bytes)) = some (some (.agg #[.slice none 0 0, .slice none 0 0]), 2, 48) := by kernel_rfl
theorem turnedM (w : World) (Z : Nat → Prop) (d d2 : Nat) (xs : List (CM)) (a : Option Addr) (c : Nat) (h : MgsR w Z d (.slice a xs.length c) xs) (fn : FuncId) (caps : Array Value) (hcf : ∀ (args : Array Value) (W : World), (callFunc fn args).run Tryz.prog W = .ok (.enter fn args) W) (g : CM → CM)
    (hf : ∀ (W : World), Below w.heap.size w W → ∀ (cs : List Value) (x : CM), x ∈ xs → FmM d W Z cs x → Calls Tryz.prog fn (#[.agg cs.toArray] ++ caps) W (NewE (FmM d2) W (g x))) : Calls Tryz.prog 78 #[.slice a xs.length c, .func (.func fn) #[] caps] w (NewL 2 (FmM d2) w (xs.map g)) := by
  obtain ⟨_, _, e1, l1⟩ := RowM.sl h
  clear e1
  have m1 : (xs.length : Int) ≤ 9223372036854775807 := by omega
  have H1 := hid h
  have HF := hid hf
  clear h hf
  go_enter Tryz.func78, Tryz.ntmps78
  go_wp2
  go_loopw [5, 10] (fun s5 s10 wr => ∃ (j : Nat) (oa : Option Addr) (oc : Nat), s5 = .slice oa j oc ∧ s10 = .int .i64 j ∧ j ≤ xs.length ∧ Hid (OwnM wr w.heap.size 29 2 (FmM d2) (.slice oa j oc) ((xs.take j).map g)) ∧ Hid (Below w.heap.size w wr)) (fun s5 s10 wr => xs.length - numAt wr s10)
  case atStart => exact ⟨0, none, 0, rfl, rfl, by omega, hid (OwnM.nil _ _ _ _ _), hid (Below.refl _ _)⟩
  case round =>
    obtain ⟨j, oa, oc, rfl, rfl, hj, HO, hb⟩ := hrel
    by_cases hlt : j < xs.length
    · have k2 : (j : Int) < (xs.length : Int) := by omega
      obtain ⟨b1, o1, ka1, kc1, va1, vc1, rfl, -, hb1, c0, c1, he⟩ := mgs_at' (H1.out.kept hb.out) hlt
      have HE := hid he
      have HTK : Hid ((xs.take (j + 1)).map g = (xs.take j).map g ++ [g xs[j]]) := hid (by rw [List.take_succ_eq_append_getElem hlt, List.map_append]; rfl)
      have HLN : Hid (((xs.take j).map g).length = j) := hid (by simp; omega)
      have HME := hid (List.getElem_mem hlt)
      clear he
      generalize xs[j] = x at *
      go_wp2_with fail
      refine (HF.out _ (by have := hb.out; exact blBy) [.slice ka1 x.fs.length kc1, .slice va1 x.us.length vc1] x HME.out (Fam.go (famM d) HE.out (keepT (below_alloc _)) (fun _ _ => trivial) (fun _ h => h))).mono ?_
      rintro e w1 ⟨ds, rfl, hn, hbx⟩
      have HZ := hid (zof_new (famM d2) HO.out (by simp) hb.out.size hn)
      have HO1 := hid (HO.out.kept (famM d2) (below_trans (below_alloc _) hbx))
      have hb1 : Hid (Below w.heap.size w w1) := hid (bl_then (by have := hb.out; exact blBy) hbx)
      clear hn hbx HO HE c0 c1
      obtain ⟨ka2, kc2, va2, vc2, rfl, -⟩ := msg_openD HZ.out
      generalize g x = y at *
      obtain ⟨la, lc, x1, HRUN, HO2, HG⟩ := OwnM.push (famM d2) 29 37 48 (.agg #[.slice none 0 0, .slice none 0 0]) Tryz.underlying37 Tryz.infoM rfl (by decide) (by decide) HO1.out HZ.out hb1.out.size (by rw [HLN.out]; omega)
      rw [HLN.out] at HRUN HO2 HG
      have hb2 : Hid (Below w.heap.size w x1) := hid (hb1.out.trans (HO1.out.bel HG.out (Nat.le_refl _) hb1.out.size))
      go_wp2_with (first | (at_builtin; refine wpList_append_ran rfl _ _ 37 37 rfl rfl _ _ (.slice la (j + 1) lc) x1 rfl rfl HRUN.out ?_))
      exact ⟨⟨j + 1, la, lc, rfl, by simp, by omega, hid (by rw [HTK.out]; exact HO2.out), hb2⟩, by simp [numAt]; omega⟩
    · have k2 : ¬ (j : Int) < (xs.length : Int) := by omega
      have ej : xs.length = j := by omega
      have e1 : xs.take j = xs := List.take_of_length_le (by omega)
      rw [e1] at HO
      have HRW := hid (HO.out.row (famM d2) (by simp; omega))
      have HEJ := hid ej
      clear ej e1
      go_wp2
      go_ret
      exact NewL.mk oa oc j (by simp; exact HEJ.out.symm) HRW.out hb.out
theorem Tryz.infoE : (Tryz.prog.info? 118).map (fun i => (i.zero, i.size, i.bytes)) = some (some (.agg #[.int .i64 0, .int .i64 0, .int .u64 0, .slice none 0 0]), 4, 48) := by kernel_rfl
theorem turnedE (w : World) (Z : Nat → Prop) (xs : List (CE)) (a : Option Addr) (c : Nat) (h : EnsR w Z (.slice a xs.length c) xs) (fn : FuncId) (caps : Array Value) (hcf : ∀ (args : Array Value) (W : World), (callFunc fn args).run Tryz.prog W = .ok (.enter fn args) W) (g : CE → CE)
    (hf : ∀ (W : World), Below w.heap.size w W → ∀ (cs : List Value) (x : CE), x ∈ xs → FmE W Z cs x → Calls Tryz.prog fn (#[.agg cs.toArray] ++ caps) W (NewE (FmE) W (g x))) : Calls Tryz.prog 81 #[.slice a xs.length c, .func (.func fn) #[] caps] w (NewL 4 (FmE) w (xs.map g)) := by
  obtain ⟨_, _, e1, l1⟩ := RowM.sl h
  clear e1
  have m1 : (xs.length : Int) ≤ 9223372036854775807 := by omega
  have H1 := hid h
  have HF := hid hf
  clear h hf
  go_enter Tryz.func81, Tryz.ntmps81
  go_wp2
  go_loopw [5, 10] (fun s5 s10 wr => ∃ (j : Nat) (oa : Option Addr) (oc : Nat), s5 = .slice oa j oc ∧ s10 = .int .i64 j ∧ j ≤ xs.length ∧ Hid (OwnM wr w.heap.size 118 4 (FmE) (.slice oa j oc) ((xs.take j).map g)) ∧ Hid (Below w.heap.size w wr)) (fun s5 s10 wr => xs.length - numAt wr s10)
  case atStart => exact ⟨0, none, 0, rfl, rfl, by omega, hid (OwnM.nil _ _ _ _ _), hid (Below.refl _ _)⟩
  case round =>
    obtain ⟨j, oa, oc, rfl, rfl, hj, HO, hb⟩ := hrel
    by_cases hlt : j < xs.length
    · have k2 : (j : Int) < (xs.length : Int) := by omega
      obtain ⟨b1, o1, ka1, kc1, rfl, -, hb1, c0, c1, c2, c3, he⟩ := ens_at (H1.out.kept hb.out) hlt
      have HE := hid he
      have HTK : Hid ((xs.take (j + 1)).map g = (xs.take j).map g ++ [g xs[j]]) := hid (by rw [List.take_succ_eq_append_getElem hlt, List.map_append]; rfl)
      have HLN : Hid (((xs.take j).map g).length = j) := hid (by simp; omega)
      have HME := hid (List.getElem_mem hlt)
      clear he
      generalize xs[j] = x at *
      go_wp2_with fail
      refine (HF.out _ (by have := hb.out; exact blBy) [.int .i64 x.num, .int .i64 x.kind, .int .u64 x.n, .slice ka1 x.b.length kc1] x HME.out (Fam.go (famE) HE.out (keepT (below_alloc _)) (fun _ _ => trivial) (fun _ h => h))).mono ?_
      rintro e w1 ⟨ds, rfl, hn, hbx⟩
      have HZ := hid (zof_new (famE) HO.out (by simp) hb.out.size hn)
      have HO1 := hid (HO.out.kept (famE) (below_trans (below_alloc _) hbx))
      have hb1 : Hid (Below w.heap.size w w1) := hid (bl_then (by have := hb.out; exact blBy) hbx)
      clear hn hbx HO HE c0 c1 c2 c3
      obtain ⟨ka2, kc2, rfl, -⟩ := ent_open HZ.out
      generalize g x = y at *
      obtain ⟨la, lc, x1, HRUN, HO2, HG⟩ := OwnM.push (famE) 118 27 48 (.agg #[.int .i64 0, .int .i64 0, .int .u64 0, .slice none 0 0]) Tryz.underlying27 Tryz.infoE rfl (by decide) (by decide) HO1.out HZ.out hb1.out.size (by rw [HLN.out]; omega)
      rw [HLN.out] at HRUN HO2 HG
      have hb2 : Hid (Below w.heap.size w x1) := hid (hb1.out.trans (HO1.out.bel HG.out (Nat.le_refl _) hb1.out.size))
      go_wp2_with (first | (at_builtin; refine wpList_append_ran rfl _ _ 27 27 rfl rfl _ _ (.slice la (j + 1) lc) x1 rfl rfl HRUN.out ?_))
      exact ⟨⟨j + 1, la, lc, rfl, by simp, by omega, hid (by rw [HTK.out]; exact HO2.out), hb2⟩, by simp [numAt]; omega⟩
    · have k2 : ¬ (j : Int) < (xs.length : Int) := by omega
      have ej : xs.length = j := by omega
      have e1 : xs.take j = xs := List.take_of_length_le (by omega)
      rw [e1] at HO
      have HRW := hid (HO.out.row (famE) (by simp; omega))
      have HEJ := hid ej
      clear ej e1
      go_wp2
      go_ret
      exact NewL.mk oa oc j (by simp; exact HEJ.out.symm) HRW.out hb.out
end Go.Proofs.YtkifjpaoncjokaaGreatDoor
