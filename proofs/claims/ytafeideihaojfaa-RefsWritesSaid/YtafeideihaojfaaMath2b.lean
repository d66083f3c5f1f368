/- Plain facts on a number's digits, and the reference that is made of them. No program in it. -/
import Derived.Test.YtafeideihaojfaaMath2
namespace Go.Proofs.Ytafeideihaojfaa
namespace M2
open M1

/-- Of m the last digits are told in ds; j is what is left. -/
def Dg (b : Nat) (m : Int) (ds : List UInt8) (j : Int) : Prop := (∀ c ∈ ds, isD b c = true) ∧ m = j * (b : Int) ^ ds.length + val b ds ∧ 0 ≤ j
theorem Dg.start (b : Nat) (m : Int) (h : 0 ≤ m) : Dg b m [] m := ⟨by simp, by simp [val], h⟩
theorem Dg.step {b : Nat} {m : Int} {ds : List UInt8} {j : Int} (h : Dg b m ds j) (hb : 0 < b) {c : UInt8} (hc : digZ c.toNat = j % b) : Dg b m (c :: ds) (j / b) := by
  obtain ⟨h1, h2, h3⟩ := h
  have hbz : (0 : Int) < b := by omega
  have e1 := Int.emod_nonneg j (show (b : Int) ≠ 0 by omega)
  have e2 := Int.emod_lt_of_pos j hbz
  refine ⟨?_, ?_, Int.ediv_nonneg h3 (by omega)⟩
  · intro x hx
    rcases List.mem_cons.1 hx with rfl | hx
    · unfold isD
      rw [hc]
      exact decide_eq_true ⟨e1, e2⟩
    · exact h1 x hx
  · rw [h2, val, hc, List.length_cons, Int.pow_succ]
    have e3 : j = j / b * b + j % b := by
      have := Int.mul_ediv_add_emod j b
      rw [Int.mul_comm] at this
      exact this.symm
    conv => lhs; rw [e3, Int.add_mul]
    rw [Int.mul_assoc, Int.mul_comm (b : Int) ((b : Int) ^ ds.length)]
    omega
theorem Dg.pow_le {b : Nat} {m : Int} {ds : List UInt8} {j : Int} (h : Dg b m ds j) (hj : 0 < j) : (b : Int) ^ ds.length ≤ m := by
  obtain ⟨h1, h2, h3⟩ := h
  have h4 := (val_bd b ds h1).1
  have h5 : 0 ≤ (b : Int) ^ ds.length := Int.pow_nonneg (by omega)
  have h6 : 1 * (b : Int) ^ ds.length ≤ j * (b : Int) ^ ds.length := Int.mul_le_mul_of_nonneg_right (by omega) h5
  omega
theorem pow_up (b : Nat) (hb : 1 ≤ b) : ∀ (k n : Nat), (b : Int) ^ k ≤ (b : Int) ^ (k + n)
  | _, 0 => Int.le_refl _
  | k, n + 1 => by
    have h1 := pow_up b hb k n
    have h2 : 0 ≤ (b : Int) ^ (k + n) := Int.pow_nonneg (by omega)
    have h3 : (b : Int) ^ (k + n) * 1 ≤ (b : Int) ^ (k + n) * b := Int.mul_le_mul_of_nonneg_left (by omega) h2
    rw [show k + (n + 1) = k + n + 1 by omega, Int.pow_succ]
    omega
theorem Dg.len10 {m : Int} {ds : List UInt8} {j : Int} (h : Dg 10 m ds j) (hj : 0 < j) (hm : m < 1114112) : ds.length ≤ 6 := by
  have h1 := h.pow_le hj
  rcases Nat.lt_or_ge ds.length 7 with h2 | h2
  · omega
  · exfalso
    have h3 := pow_up 10 (by omega) 7 (ds.length - 7)
    rw [show 7 + (ds.length - 7) = ds.length by omega] at h3
    have h4 : (((10 : Nat) : Int)) ^ 7 = 10000000 := by decide
    omega
theorem Dg.len16 {m : Int} {ds : List UInt8} {j : Int} (h : Dg 16 m ds j) (hj : 0 < j) (hm : m < 1114112) : ds.length ≤ 5 := by
  have h1 := h.pow_le hj
  rcases Nat.lt_or_ge ds.length 6 with h2 | h2
  · omega
  · exfalso
    have h3 := pow_up 16 (by omega) 6 (ds.length - 6)
    rw [show 6 + (ds.length - 6) = ds.length by omega] at h3
    have h4 : (((16 : Nat) : Int)) ^ 6 = 16777216 := by decide
    omega
theorem Dg.val0 {b : Nat} {m : Int} {ds : List UInt8} (h : Dg b m ds 0) : val b ds = m := by
  have := h.2.1
  omega
theorem Dg.ne {b : Nat} {m : Int} {ds : List UInt8} (h : Dg b m ds 0) (hm : 0 < m) : 1 ≤ ds.length := by
  have := h.val0
  cases ds with
  | nil => simp [val] at this; omega
  | cons c t => simp

theorem isD_not_59 {b : Nat} {l : List UInt8} (h : ∀ c ∈ l, isD b c = true) : (59 : UInt8) ∉ l := fun hm => by
  have := h _ hm
  rw [isD_59] at this
  cases this
theorem one_tens (ds : List UInt8) (m : Int) (hd : ∀ c ∈ ds, isD 10 c = true) (h1 : 1 ≤ ds.length) (h7 : ds.length ≤ 7) (hm : chr (val 10 ds) = m) : one (38 :: 35 :: (ds ++ [59, 120])) = some (m, ds.length + 3) := by
  have h := one_own (35 :: ds) [120] (by have := isD_not_59 hd; simp [this])
  rw [show 38 :: 35 :: (ds ++ [59, 120]) = 38 :: (35 :: ds ++ 59 :: [120]) by simp, h]
  have hb : ownB (35 :: ds) = numR 10 7 ds := by
    obtain ⟨c, t, rfl⟩ := List.exists_cons_of_ne_nil (show ds ≠ [] by intro e; subst e; simp at h1)
    have hc := hd c (by simp)
    have n1 : ¬ c = 120 := fun e => by subst e; revert hc; decide
    have n2 : ¬ c = 88 := fun e => by subst e; revert hc; decide
    rw [ownB, if_neg (by simp [n1, n2]), if_pos (by simp)]
    rfl
  rw [hb, numR, if_pos ⟨h1, h7, List.all_eq_true.2 hd⟩, hm]
  rfl
theorem one_hex (ds : List UInt8) (m : Int) (hd : ∀ c ∈ ds, isD 16 c = true) (h1 : 1 ≤ ds.length) (h6 : ds.length ≤ 6) (hm : chr (val 16 ds) = m) : one (38 :: 35 :: 120 :: (ds ++ [59, 120])) = some (m, ds.length + 4) := by
  have h := one_own (35 :: 120 :: ds) [120] (by have := isD_not_59 hd; simp [this])
  rw [show 38 :: 35 :: 120 :: (ds ++ [59, 120]) = 38 :: (35 :: 120 :: ds ++ 59 :: [120]) by simp, h]
  have hb : ownB (35 :: 120 :: ds) = numR 16 6 ds := by
    rw [ownB, if_pos (by simp)]
    rfl
  rw [hb, numR, if_pos ⟨h1, h6, List.all_eq_true.2 hd⟩, hm]
  rfl
def hexL : List UInt8 := [48, 49, 50, 51, 52, 53, 54, 55, 56, 57, 97, 98, 99, 100, 101, 102]
theorem hex_dig : ∀ d, d < 16 → digZ ((hexL.getD d 0).toNat : Int) = d := by decide
theorem hex_cut : ∀ d, d < 16 → (hexL.drop d).take 1 = [hexL.getD d 0] := by decide
theorem ten_dig (c : UInt8) (d : Int) (h : (c.toNat : Int) = 48 + d) (h0 : 0 ≤ d) (h9 : d < 10) : digZ (c.toNat : Int) = d := by
  rw [h, digZ, if_pos (by omega)]
  omega
end M2
end Go.Proofs.Ytafeideihaojfaa
