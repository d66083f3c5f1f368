/- Plain facts: the document's own way to tell the character that bytes begin with, held against 'dec'. -/
import Derived.Test.YtjelmpajphajfaaMath1
namespace Go.Proofs.Ytjelmpajphajfaa
namespace M1

def foll (c : Nat) : Prop := 128 ≤ c ∧ c < 192
/-- How many bytes, what the first one gives, the least number. -/
def Cls (c n v least : Nat) : Prop := (192 ≤ c ∧ c < 224 ∧ n = 2 ∧ v + 192 = c ∧ least = 128) ∨ (224 ≤ c ∧ c < 240 ∧ n = 3 ∧ v + 224 = c ∧ least = 2048) ∨ (240 ≤ c ∧ c < 248 ∧ n = 4 ∧ v + 240 = c ∧ least = 65536)
def at_ (l : List UInt8) (k : Nat) : Nat := (l.getD k 0).toNat
theorem at_lt (l : List UInt8) (k : Nat) : at_ l k < 256 := (l.getD k 0).toNat_lt
/-- What the first k bytes give. -/
def vv (l : List UInt8) (v : Nat) : Nat → Nat
  | 0 => v
  | 1 => v
  | k + 2 => 64 * vv l v (k + 1) + at_ l (k + 1) - 128
def badv (v least : Nat) : Prop := v < least ∨ v > 1114111 ∨ (55296 ≤ v ∧ v ≤ 57343)
instance (v least : Nat) : Decidable (badv v least) := by unfold badv; infer_instance
instance (c : Nat) : Decidable (foll c) := by unfold foll; infer_instance

theorem dec_at (l : List UInt8) : dec l = if at_ l 0 < 0x80 then (at_ l 0, 1)
  else if at_ l 0 / 32 == 6 && (decide (1 < l.length) && at_ l 1 / 64 == 2) then
    if (at_ l 0 % 32) * 64 + at_ l 1 % 64 ≥ 0x80 then ((at_ l 0 % 32) * 64 + at_ l 1 % 64, 2) else (65533, 1)
  else if at_ l 0 / 16 == 14 && (decide (1 < l.length) && at_ l 1 / 64 == 2) && (decide (2 < l.length) && at_ l 2 / 64 == 2) then
    if (at_ l 0 % 16) * 4096 + (at_ l 1 % 64) * 64 + at_ l 2 % 64 ≥ 0x800 && decide (okRune ((at_ l 0 % 16) * 4096 + (at_ l 1 % 64) * 64 + at_ l 2 % 64 : Nat)) then
      ((at_ l 0 % 16) * 4096 + (at_ l 1 % 64) * 64 + at_ l 2 % 64, 3) else (65533, 1)
  else if at_ l 0 / 8 == 30 && (decide (1 < l.length) && at_ l 1 / 64 == 2) && (decide (2 < l.length) && at_ l 2 / 64 == 2) && (decide (3 < l.length) && at_ l 3 / 64 == 2) then
    if (at_ l 0 % 8) * 262144 + (at_ l 1 % 64) * 4096 + (at_ l 2 % 64) * 64 + at_ l 3 % 64 ≥ 0x10000 && decide (okRune ((at_ l 0 % 8) * 262144 + (at_ l 1 % 64) * 4096 + (at_ l 2 % 64) * 64 + at_ l 3 % 64 : Nat)) then
      ((at_ l 0 % 8) * 262144 + (at_ l 1 % 64) * 4096 + (at_ l 2 % 64) * 64 + at_ l 3 % 64, 4) else (65533, 1)
  else (65533, 1) := by
  simp only [← valid_iff]; rfl

theorem dec_low (l : List UInt8) (h : at_ l 0 < 128) : dec l = (at_ l 0, 1) := by rw [dec_at, if_pos h]

theorem dec_none (l : List UInt8) (h : 128 ≤ at_ l 0) (h2 : at_ l 0 < 192 ∨ 248 ≤ at_ l 0) : dec l = (65533, 1) := by
  have := at_lt l 0
  rw [dec_at, if_neg (by omega), if_neg (by simp; omega), if_neg (by simp; omega), if_neg (by simp; omega)]

theorem dec_short (l : List UInt8) {n v least : Nat} (h : Cls (at_ l 0) n v least) (h2 : l.length < n) : dec l = (65533, 1) := by
  rcases h with ⟨h3, h4, rfl, h5, rfl⟩ | ⟨h3, h4, rfl, h5, rfl⟩ | ⟨h3, h4, rfl, h5, rfl⟩
  all_goals rw [dec_at, if_neg (by omega), if_neg (by simp; omega), if_neg (by simp; omega), if_neg (by simp; omega)]

theorem dec_stop (l : List UInt8) {n v least : Nat} (h : Cls (at_ l 0) n v least) (k : Nat) (h1 : 1 ≤ k) (hk : k < n) (h2 : ¬ foll (at_ l k)) : dec l = (65533, 1) := by
  have hb := at_lt l k
  unfold foll at h2
  have h2' : ¬ at_ l k / 64 = 2 := by omega
  rcases h with ⟨h3, h4, rfl, h5, rfl⟩ | ⟨h3, h4, rfl, h5, rfl⟩ | ⟨h3, h4, rfl, h5, rfl⟩
  · obtain rfl : k = 1 := by omega
    rw [dec_at, if_neg (by omega), if_neg (by simp [h2']), if_neg (by simp; omega), if_neg (by simp; omega)]
  · rcases (by omega : k = 1 ∨ k = 2) with rfl | rfl
    all_goals rw [dec_at, if_neg (by omega), if_neg (by simp; omega), if_neg (by simp [h2']), if_neg (by simp; omega)]
  · rcases (by omega : k = 1 ∨ k = 2 ∨ k = 3) with rfl | rfl | rfl
    all_goals rw [dec_at, if_neg (by omega), if_neg (by simp; omega), if_neg (by simp; omega), if_neg (by simp [h2'])]

set_option maxRecDepth 10000 in
theorem dec_full (l : List UInt8) {n v least : Nat} (h : Cls (at_ l 0) n v least) (hl : n ≤ l.length) (hf : ∀ k, 1 ≤ k → k < n → foll (at_ l k)) : dec l = if badv (vv l v n) least then (65533, 1) else (vv l v n, n) := by
  have b1 := at_lt l 1
  have b2 := at_lt l 2
  have b3 := at_lt l 3
  rcases h with ⟨h3, h4, rfl, h5, rfl⟩ | ⟨h3, h4, rfl, h5, rfl⟩ | ⟨h3, h4, rfl, h5, rfl⟩
  · have f1 := hf 1 (by omega) (by omega)
    unfold foll at f1
    have e : vv l v 2 = (at_ l 0 % 32) * 64 + at_ l 1 % 64 := by
      have : vv l v 2 = 64 * v + at_ l 1 - 128 := rfl
      omega
    rw [dec_at, if_neg (by omega), if_pos (by simp; omega), e]
    by_cases hb : (at_ l 0 % 32) * 64 + at_ l 1 % 64 ≥ 128
    · rw [if_pos hb, if_neg (by unfold badv; omega)]
    · rw [if_neg hb, if_pos (by unfold badv; omega)]
  · have f1 := hf 1 (by omega) (by omega)
    have f2 := hf 2 (by omega) (by omega)
    unfold foll at f1 f2
    have e : vv l v 3 = (at_ l 0 % 16) * 4096 + (at_ l 1 % 64) * 64 + at_ l 2 % 64 := by
      have : vv l v 3 = 64 * (64 * v + at_ l 1 - 128) + at_ l 2 - 128 := rfl
      omega
    rw [dec_at, if_neg (by omega), if_neg (by simp; omega), if_pos (by simp; omega), e]
    generalize (at_ l 0 % 16) * 4096 + (at_ l 1 % 64) * 64 + at_ l 2 % 64 = x at *
    by_cases hb : badv x 2048
    · rw [if_pos hb, if_neg (by simp [okRune]; unfold badv at hb; omega)]
    · rw [if_neg hb, if_pos (by simp [okRune]; unfold badv at hb; omega)]
  · have f1 := hf 1 (by omega) (by omega)
    have f2 := hf 2 (by omega) (by omega)
    have f3 := hf 3 (by omega) (by omega)
    unfold foll at f1 f2 f3
    have e : vv l v 4 = (at_ l 0 % 8) * 262144 + (at_ l 1 % 64) * 4096 + (at_ l 2 % 64) * 64 + at_ l 3 % 64 := by
      have : vv l v 4 = 64 * (64 * (64 * v + at_ l 1 - 128) + at_ l 2 - 128) + at_ l 3 - 128 := rfl
      omega
    rw [dec_at, if_neg (by omega), if_neg (by simp; omega), if_neg (by simp; omega), if_pos (by simp; omega), e]
    generalize (at_ l 0 % 8) * 262144 + (at_ l 1 % 64) * 4096 + (at_ l 2 % 64) * 64 + at_ l 3 % 64 = x at *
    by_cases hb : badv x 65536
    · rw [if_pos hb, if_neg (by simp [okRune]; unfold badv at hb; omega)]
    · rw [if_neg hb, if_pos (by simp [okRune]; unfold badv at hb; omega)]

/-- Does a 13 stand right ahead of place k? -/
def prev (rs : List Int) : Nat → Bool
  | 0 => false
  | k + 1 => decide (rs.getD k 0 = 13)
/-- What 'mk' adds for one character. -/
def piece (x : Int) (p : Bool) : List Int := if x = 13 then [10] else if x = 10 ∧ p = true then [] else if x = 0 then [65533] else [x]
theorem mk_drop (rs : List Int) (k : Nat) (h : k < rs.length) : mk (prev rs k) (rs.drop k) = piece rs[k] (prev rs k) ++ mk (prev rs (k + 1)) (rs.drop (k + 1)) := by
  rw [List.drop_eq_getElem_cons h, mk]
  have : prev rs (k + 1) = decide (rs[k] = 13) := by simp [prev, List.getD_eq_getElem?_getD, List.getElem?_eq_getElem h]
  rw [this]; rfl

def sameB (a b : List Int) : Bool := decide (a = b)
theorem sameB_len {a b : List Int} (h : a.length ≠ b.length) : sameB a b = false := decide_eq_false (fun e => h (by rw [e]))
theorem sameB_at {a b : List Int} {k : Nat} (h : k < a.length) (h' : k < b.length) (hd : a[k] ≠ b[k]) : sameB a b = false := decide_eq_false (fun e => hd (by subst e; rfl))
theorem sameB_self (a : List Int) : sameB a a = true := decide_eq_true rfl
theorem sameB_yes {a b : List Int} (h : a.length = b.length) (hd : a.take a.length = b.take a.length) : sameB a b = true := by
  rw [List.take_length, h, List.take_length] at hd
  exact decide_eq_true hd
theorem take_step {a b : List Int} {k : Nat} (h : k < a.length) (h' : k < b.length) (ht : a.take k = b.take k) (he : a[k] = b[k]) : a.take (k + 1) = b.take (k + 1) := by
  rw [List.take_succ_eq_append_getElem h, List.take_succ_eq_append_getElem h', ht, he]
end M1
end Go.Proofs.Ytjelmpajphajfaa
