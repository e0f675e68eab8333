/-
  Plain mathematics: what is written is read; nothing of the program.
-/
import Derived.Test.YtgcimeldofbgkabM6
namespace Go.Proofs.Ytgcimeldofbgkab
open Go.RowKit
set_option maxRecDepth 1000000

theorem zag_zig (m : Int) : zagF (zigF m) = m := by
  unfold zigF zagF
  split <;> split <;> omega
theorem zig_bd (m : Int) (h0 : -9223372036854775808 ≤ m) (h1 : m ≤ 9223372036854775807) : 0 ≤ zigF m ∧ zigF m < 18446744073709551616 := by
  unfold zigF
  split <;> omega

theorem pow7 (k : Nat) : (2 : Int) ^ (7 * (k + 1)) = 128 * 2 ^ (7 * k) := by rw [show 7 * (k + 1) = 7 * k + 7 by omega, Int.pow_add]; omega

theorem gvF_pvF : ∀ (f k : Nat) (n X p : Int) (rest : List Int), f + k = 9 → 0 ≤ n → n * 2 ^ (7 * k) < 18446744073709551616 →
    gvF (pvF f n ++ rest) k X p = (X + n * 2 ^ (7 * k), p + k + (pvF f n).length, 0)
  | 0, k, n, X, p, rest, hk, h0, h1 => by
    obtain rfl : k = 9 := by omega
    have e2 : (2 : Int) ^ (7 * 9) = 9223372036854775808 := by decide
    rw [e2] at h1
    rw [pvF, List.cons_append, gvF, if_neg (by omega), if_pos (by omega)]
    rfl
  | f + 1, k, n, X, p, rest, hk, h0, h1 => by
    have hp : (0 : Int) < 2 ^ (7 * k) := Int.pow_pos (by decide)
    by_cases h : n < 128
    · rw [pvF_small _ h, List.cons_append, gvF, if_neg (by omega), if_pos h]; rfl
    · have hd : n = 128 * (n / 128) + n % 128 := by omega
      have hmul : n * 2 ^ (7 * k) = n / 128 * (128 * 2 ^ (7 * k)) + n % 128 * 2 ^ (7 * k) := by
        conv => lhs; rw [hd]
        rw [Int.add_mul, Int.mul_comm 128 (n / 128), Int.mul_assoc]
      have hm0 : 0 ≤ n % 128 * 2 ^ (7 * k) := Int.mul_nonneg (by omega) (Int.le_of_lt hp)
      rw [pvF_big _ h, List.cons_append, gvF, if_neg (by omega), if_neg (by omega), gvF_pvF f (k + 1) (n / 128) _ p rest (by omega) (by omega) (by rw [pow7]; omega), pow7]
      rw [show n % 128 + 128 - 128 = n % 128 by omega, List.length_cons]
      simp only [Prod.mk.injEq, and_true]
      constructor <;> omega
theorem gv_put (ahead rest : List Int) (n : Int) (h0 : 0 ≤ n) (h1 : n < 18446744073709551616) : gv (ahead ++ (pv n ++ rest)) ahead.length = (n, (ahead.length : Int) + (pv n).length, 0) := by
  unfold gv pv
  rw [List.drop_left, gvF_pvF 9 0 n 0 _ rest (by omega) h0 (by simpa using h1)]
  simp
theorem gc_put (ahead rest ys : List Int) (h : ys.length < 18446744073709551616) : gc (ahead ++ (pc ys ++ rest)) ahead.length = (ys, (ahead.length : Int) + (pc ys).length, 0) := by
  unfold gc
  have hg := gv_put ahead (ys ++ rest) (ys.length : Int) (by omega) (by omega)
  rw [show ahead ++ (pv (ys.length : Int) ++ (ys ++ rest)) = ahead ++ (pc ys ++ rest) by simp [pc]] at hg
  rw [hg, gcF_ok (by rfl) (by simp [pc]; omega)]
  have e1 : ((ahead.length : Int) + (pv (ys.length : Int)).length).toNat = (ahead ++ pv (ys.length : Int)).length := by simp; omega
  simp only [Int.toNat_natCast]
  rw [e1, show ahead ++ (pc ys ++ rest) = (ahead ++ pv (ys.length : Int)) ++ (ys ++ rest) by simp [pc], List.drop_left, List.take_left]
  simp only [Prod.mk.injEq, and_true, true_and]
  simp [pc]
  omega
theorem word_pw : ∀ (s : Nat) (n : Int), 0 ≤ n → wordF (pw s n) = n % 2 ^ (8 * s)
  | 0, n, _ => by simp [pw, wordF]
  | s + 1, n, h0 => by
    rw [pw_succ, word_snoc, word_pw s n h0, pw_length, pow8, Int.mul_comm 256 (2 ^ (8 * s)), Int.mul_comm (n / 2 ^ (8 * s) % 256)]
    obtain ⟨m, rfl⟩ := Int.eq_ofNat_of_zero_le h0
    have h := Nat.mod_mul (x := m) (a := 2 ^ (8 * s)) (b := 256)
    have e : ((2 ^ (8 * s) : Nat) : Int) = (2 : Int) ^ (8 * s) := Int.natCast_pow 2 _
    rw [← e]
    generalize (2 : Nat) ^ (8 * s) = a at h ⊢
    have h2 : ((m % (a * 256) : Nat) : Int) = ((m % a + a * (m / a % 256) : Nat) : Int) := by rw [h]
    rw [Int.natCast_add, Int.natCast_mul, Int.natCast_emod, Int.natCast_emod, Int.natCast_emod, Int.natCast_ediv, Int.natCast_mul] at h2
    exact h2.symm
theorem gw_put (ahead rest : List Int) (s : Nat) (n : Int) (h0 : 0 ≤ n) (h1 : n < 2 ^ (8 * s)) : gw (ahead ++ (pw s n ++ rest)) ahead.length s = (n, (ahead.length : Int) + (pw s n).length, 0) := by
  unfold gw
  rw [if_neg (by simp [pw_length]), List.drop_left, List.take_left' (pw_length s n), word_pw s n h0, Int.emod_eq_of_lt h0 h1, pw_length]
theorem gt_put (ahead rest : List Int) (num kind : Int) (ht : tf num kind = 0) : gt (ahead ++ (pv (num * 8 + kind) ++ rest)) ahead.length = (num, kind, (ahead.length : Int) + (pv (num * 8 + kind)).length, 0) := by
  obtain ⟨a, b, c⟩ := tf_ok ht
  have hk := okK_bd c
  unfold gt
  rw [gv_put ahead rest _ (by omega) (by omega)]
  have e1 : (num * 8 + kind) / 8 = num := by omega
  have e2 : (num * 8 + kind) % 8 = kind := by omega
  rw [gtF_ok (by rfl) (by simp only []; rw [e1, e2]; exact ht)]
  simp only [e1, e2]
theorem got_eq {a b c e e' f : Int} {d : List Int} (h : e = e') : (⟨a, b, c, d, e, f⟩ : Got) = ⟨a, b, c, d, e', f⟩ := by rw [h]
theorem ge_put (ahead rest : List Int) (num kind n : Int) (ys : List Int) (he : ef num kind n ys.length = 0) (h0 : 0 ≤ n) (h1 : n < 18446744073709551616) (hl : ys.length < 18446744073709551616) :
    ge (ahead ++ (pe num kind n ys ++ rest)) ahead.length = ⟨num, kind, n, ys, (ahead.length : Int) + (pe num kind n ys).length, 0⟩ := by
  obtain ⟨ht, hf⟩ := ef_ok he
  unfold ge pe
  rw [List.append_assoc, gt_put ahead _ num kind ht, geF_ok (by rfl)]
  have e1 : ((ahead.length : Int) + (pv (num * 8 + kind)).length).toNat = (ahead ++ pv (num * 8 + kind)).length := by simp; omega
  simp only []
  rw [e1, ← List.append_assoc]
  generalize hA : ahead ++ pv (num * 8 + kind) = A
  have hAl : (A.length : Int) = (ahead.length : Int) + (pv (num * 8 + kind)).length := by rw [← hA]; simp
  unfold restF
  rcases okK_cases (tf_ok ht).2.2 with rfl | rfl | rfl | rfl
  · have hy : ys = [] := by simpa [fit] using hf
    subst hy
    rw [if_neg (by decide), numF, if_pos rfl]
    have : body 0 n [] = pv n := rfl
    rw [this, gv_put A rest n h0 h1, ofNum_ok (by rfl)]
    exact got_eq (by dsimp only; rw [List.length_append, hAl]; omega)
  · have hy : ys = [] := by simpa [fit] using hf
    subst hy
    rw [if_neg (by decide), numF, if_neg (by decide), if_pos rfl]
    have : body 1 n [] = pw 8 n := rfl
    rw [this, gw_put A rest 8 n h0 (by simpa using h1), ofNum_ok (by rfl)]
    exact got_eq (by dsimp only; rw [List.length_append, hAl]; omega)
  · have hn : n = 0 := by simpa [fit] using hf
    subst hn
    rw [if_pos rfl]
    have : body 2 0 ys = pc ys := rfl
    rw [this, gc_put A rest ys hl, ofChunk_ok (by rfl)]
    exact got_eq (by dsimp only; rw [List.length_append, hAl]; omega)
  · have hy : ys = [] ∧ n ≤ 4294967295 := by simpa [fit] using hf
    obtain ⟨rfl, hn⟩ := hy
    rw [if_neg (by decide), numF, if_neg (by decide), if_neg (by decide)]
    have : body 5 n [] = pw 4 n := rfl
    rw [this, gw_put A rest 4 n h0 (by simp; omega), ofNum_ok (by rfl)]
    exact got_eq (by dsimp only; rw [List.length_append, hAl]; omega)
end Go.Proofs.Ytgcimeldofbgkab
