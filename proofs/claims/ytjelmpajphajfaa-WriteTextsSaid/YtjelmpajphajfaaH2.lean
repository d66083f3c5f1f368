/- Texts joined: Dom1, Math3b, Math1b, Ref01, Ref01b, Ref01c, Dom2, Dom3, Math3c, MapKit, Dom4, Dom5, Tell, Refs, Refs2, Math4. -/
import Derived.BigCall
import Derived.Deep.QuietTactic
import Derived.BigQuiet
import Derived.IntWalk
import Derived.Outline
import Derived.Lib.IndexAny
import Derived.Deep.DeepCutAuto
import Derived.WalkMore
import Derived.Maps.OwnSet
import Derived.Lib.Hide
import Derived.Test.YtjelmpajphajfaaRows
import Derived.RangeFuncNested
import Derived.RangeFuncBound
import Derived.RangeFuncLeaves
import Derived.Shelf.Abstract
import Derived.OwnWalkIn
import Derived.TacticsInMore
import Derived.LoopNIn
import Derived.LoopIn
import Derived.Test.YtjelmpajphajfaaH1
/- Package dom's small functions: names, kinds, attributes. -/
namespace Go.Proofs.Ytjelmpajphajfaa
open Go.RowKit

set_option maxHeartbeats 1000000 in
theorem domVoid (s : ByteArray) (w : World) : Calls Try.prog 47 #[.string s] w fun e w' => e = .returned (.bool (M3.voidB s.data.toList)) ∧ w' = w := by
  rw [← Lib.toList_data]
  go_enter Try.func47, Try.ntmps47
  go_wp2
  all_goals (go_ret; refine ⟨?_, rfl⟩; unfold M3.voidB; simp_all)

set_option maxHeartbeats 1000000 in
theorem ref03Void (s : ByteArray) (w : World) : Calls Try.prog 34 #[.string s] w fun e w' => e = .returned (.bool (M3.voidB s.data.toList)) ∧ w' = w := by
  rw [← Lib.toList_data]
  go_enter Try.func34, Try.ntmps34
  go_wp2
  all_goals (go_ret; refine ⟨?_, rfl⟩; unfold M3.voidB; simp_all)

set_option maxHeartbeats 1000000 in
theorem domRaw (s : ByteArray) (w : World) : Calls Try.prog 48 #[.string s] w fun e w' => e = .returned (.bool (M3.rawB s.data.toList)) ∧ w' = w := by
  rw [← Lib.toList_data]
  go_enter Try.func48, Try.ntmps48
  go_wp2
  all_goals (go_ret; refine ⟨?_, rfl⟩; unfold M3.rawB; simp_all)

set_option maxHeartbeats 1000000 in
theorem ref03Raw (s : ByteArray) (w : World) : Calls Try.prog 40 #[.string s] w fun e w' => e = .returned (.bool (M3.rawB s.data.toList)) ∧ w' = w := by
  rw [← Lib.toList_data]
  go_enter Try.func40, Try.ntmps40
  go_wp2
  all_goals (go_ret; refine ⟨?_, rfl⟩; unfold M3.rawB; simp_all)

set_option maxHeartbeats 1000000 in
theorem ref03Small (c : UInt8) (w : World) : Calls Try.prog 97 #[.int .u8 (c.toNat : Int)] w fun e w' => e = .returned (.bool (M3.smallB c)) ∧ w' = w := by
  by_cases h1 : 97 ≤ c.toNat
  · go_enter Try.func97, Try.ntmps97
    go_wp2
    go_ret
    exact ⟨by simp [M3.smallB, h1]; omega, rfl⟩
  · go_enter Try.func97, Try.ntmps97
    go_wp2
    all_goals (go_ret; exact ⟨by simp [M3.smallB, h1], rfl⟩)

set_option maxHeartbeats 4000000 in
set_option maxRecDepth 100000 in
theorem domNamed (s : ByteArray) (w : World) (hs : s.size ≤ 9223372036854775807) :
    Calls Try.prog 87 #[.string s] w fun e w' => e = .returned (.bool (M3.namedB s.data.toList)) ∧ Below w.heap.size w w' := by
  have hsz : s.size = s.data.toList.length := rfl
  have hemp : s.toList = s.data.toList := Lib.toList_data s
  generalize hl : s.data.toList = l at *
  go_enter Try.func87, Try.ntmps87
  go_wp2
  go_loopw [] (fun wr => ∃ p : Nat, p ≤ l.length ∧ wr.heap[w.heap.size]? = some (.stringIter s p) ∧ Below w.heap.size w wr ∧ Hid (M3.namedB l = M3.tailB l p)) (fun wr => l.length - wr.iterPos w.heap.size)
  case atStart => exact ⟨0, by omega, World.iter_heap w s 0, (Below.refl _ w).alloc (Nat.le_refl _) _, rfl⟩
  case round =>
    obtain ⟨p, hpl, hit, hbw, hB⟩ := hrel
    have hsz0 : w.heap.size < wr.heap.size := (Array.getElem?_eq_some_iff.1 hit).1
    by_cases hp : p < l.length
    · have hdr : l.drop p = l[p] :: l.drop (p + 1) := List.drop_eq_getElem_cons hp
      have hnx := next_dec (P := Try.prog) wr w.heap.size s p hit (by omega)
      rw [hl, hdr] at hnx
      have hlo := M2.dec_lo l[p] (l.drop (p + 1))
      have hhi := M2.dec_hi l[p] (l.drop (p + 1))
      have hlt := M1.dec_lt (l[p] :: l.drop (p + 1))
      have hno := Lib.hid (M3.tail_no hp)
      have hyes := Lib.hid (M3.tail_yes hp)
      generalize l[p] = c at *
      generalize M1.dec (c :: l.drop (p + 1)) = rw_ at *
      obtain ⟨r, wd⟩ := rw_
      simp only at hnx hhi hlt
      have hbw1 := Lib.below_iterAt hbw (Nat.le_refl _) s (p + wd)
      have hit1 := Lib.iterAt_heap wr w.heap.size s p (p + wd) hit
      generalize wr.iterAt w.heap.size s (p + wd) = w1 at *
      clear hdr
      rcases Nat.lt_or_ge c.toNat 128 with h1 | h1
      · have hrw := hlo h1
        simp only [Prod.mk.injEq] at hrw
        obtain ⟨rfl, rfl⟩ := hrw
        clear hlo hhi
        by_cases hok : M3.okR p (c.toNat : Int)
        · replace hyes := Lib.hid (hB.out.trans (hyes.out hok))
          clear hno hB
          have hok' := hok
          unfold M3.okR at hok'
          clear hok
          generalize c.toNat = r at *
          rcases hok' with ⟨h2, h3⟩ | ⟨h2, h3 | ⟨h3, h4⟩⟩
          · go_wp2
            go_roundw
            case rel => exact ⟨p + 1, by omega, hit1, hbw1, hyes⟩
            case measure => rw [iterPos_of hit1, iterPos_of hit]; omega
          · have h5 : ((p : Int) == 0) = false := by simpa using h2
            obtain rfl : r = 45 := by omega
            go_wp2
            go_roundw
            case rel => exact ⟨p + 1, by omega, hit1, hbw1, hyes⟩
            case measure => rw [iterPos_of hit1, iterPos_of hit]; omega
          · have h5 : ((p : Int) == 0) = false := by simpa using h2
            go_wp2
            go_roundw
            case rel => exact ⟨p + 1, by omega, hit1, hbw1, hyes⟩
            case measure => rw [iterPos_of hit1, iterPos_of hit]; omega
        · replace hno := Lib.hid (hB.out.trans (hno.out hok))
          clear hyes hB
          by_cases h2 : p = 0
          · subst h2
            have hok' : (c.toNat : Int) < 97 ∨ 122 < (c.toNat : Int) := by unfold M3.okR at hok; omega
            clear hok
            generalize c.toNat = r at *
            rcases hok' with h3 | h3
            · go_wp2
              go_ret
              exact ⟨by rw [hno.out]; rfl, hbw1⟩
            · have hd : decide ((r : Int) ≤ 122) = false := decide_eq_false (by omega)
              go_wp2
              go_ret
              exact ⟨by rw [hno.out]; rfl, hbw1⟩
          · have h5 : ((p : Int) == 0) = false := by simpa using h2
            have hok' : (c.toNat : Int) < 45 ∨ (45 < (c.toNat : Int) ∧ (c.toNat : Int) < 48) ∨ (57 < (c.toNat : Int) ∧ (c.toNat : Int) < 97) ∨ 122 < (c.toNat : Int) := by unfold M3.okR at hok; omega
            have h6 : ((c.toNat : Int) == 45) = false := by unfold M3.okR at hok; simp; omega
            clear hok h2
            generalize c.toNat = r at *
            rcases hok' with h3 | ⟨h3, h4⟩ | ⟨h3, h4⟩ | h3
            · go_wp2
              go_ret
              exact ⟨by rw [hno.out]; rfl, hbw1⟩
            · go_wp2
              go_ret
              exact ⟨by rw [hno.out]; rfl, hbw1⟩
            · go_wp2
              go_ret
              exact ⟨by rw [hno.out]; rfl, hbw1⟩
            · have hd : decide ((r : Int) ≤ 122) = false := decide_eq_false (by omega)
              have hd2 : decide ((r : Int) < 48) = false := decide_eq_false (by omega)
              have hd3 : decide (57 < (r : Int)) = true := decide_eq_true (by omega)
              go_wp2
              go_ret
              exact ⟨by rw [hno.out]; rfl, hbw1⟩
      · replace hno := Lib.hid (hB.out.trans (hno.out (by unfold M3.okR; omega)))
        replace hhi := hhi h1
        clear hyes hB hlo h1
        have hd : decide ((r : Int) ≤ 122) = false := decide_eq_false (by omega)
        have hd2 : decide ((r : Int) < 48) = false := decide_eq_false (by omega)
        have hd3 : decide (57 < (r : Int)) = true := decide_eq_true (by omega)
        by_cases h2 : p = 0
        · subst h2
          go_wp2
          go_ret
          exact ⟨by rw [hno.out]; rfl, hbw1⟩
        · have h5 : ((p : Int) == 0) = false := by simpa using h2
          have h6 : ((r : Int) == 45) = false := by simp; omega
          clear h2
          go_wp2
          go_ret
          exact ⟨by rw [hno.out]; rfl, hbw1⟩
    · have hnx := fun ty => Lib.run_next_end_at (P := Try.prog) wr w.heap.size s p ty hit (by omega)
      have hpe : p = l.length := by omega
      subst hpe
      replace hB := Lib.hid (hB.out.trans M3.tail_end)
      cases l with
      | nil =>
        go_wp2
        go_ret
        exact ⟨by rw [hB.out]; rfl, hbw⟩
      | cons c r =>
        go_wp2
        go_ret
        exact ⟨by rw [hB.out]; rfl, hbw⟩
end Go.Proofs.Ytjelmpajphajfaa

/- Characters that stand in a row of plain ones. -/
namespace Go.Proofs.Ytjelmpajphajfaa
namespace M3
abbrev C7 : List UInt8 := [9, 10, 12, 32, 47, 62, 61]
theorem badB_eq (c : UInt8) : badB c = C7.contains c := by
  have e : ∀ (n : Nat) (h : n < 256), (c.toNat == n) = (c == n.toUInt8) := by
    intro n h
    rw [Bool.eq_iff_iff, beq_iff_eq, beq_iff_eq]
    constructor
    · intro h1; rw [← h1]; simp
    · rintro rfl; exact M1.toNat_u8 n h
  unfold badB
  rw [e 9 (by decide), e 10 (by decide), e 12 (by decide), e 32 (by decide), e 47 (by decide), e 62 (by decide), e 61 (by decide)]
  simp only [C7, List.contains_cons, List.contains_nil, Bool.or_false, Bool.or_assoc]
  rfl
theorem badB_high (c : UInt8) (h : 128 ≤ c.toNat) : badB c = false := by
  unfold badB
  simp
  omega
theorem high_skip (c : UInt8) (t : List UInt8) (h : 128 ≤ c.toNat) : ∀ x ∈ (c :: t).take (M1.dec (c :: t)).2, 128 ≤ x.toNat := by
  have hd := M2.dec_hi c t h
  rcases M1.dec_cases (c :: t) (by simp) with ⟨h1, h2, h3⟩ | ⟨h1, _⟩
  · intro x hx
    rw [h2, h3] at hx
    rw [List.take_left'] at hx
    · exact M2.enc_high _ h1 (by omega) x hx
    · rw [← h3, ← h2]
  · rw [h1]
    intro x hx
    simp at hx
    subst hx; exact h
theorem any_skip (c : UInt8) (t : List UInt8) (h : 128 ≤ c.toNat) : (c :: t).any badB = ((c :: t).drop (M1.dec (c :: t)).2).any badB := by
  conv => lhs; rw [← List.take_append_drop (M1.dec (c :: t)).2 (c :: t), List.any_append]
  have : ((c :: t).take (M1.dec (c :: t)).2).any badB = false := by
    rw [List.any_eq_false]
    intro x hx
    rw [badB_high x (high_skip c t h x hx)]
    simp
  rw [this, Bool.false_or]
theorem indexAny_bad (l : List UInt8) : decide (0 ≤ Lib.indexAny l C7) = l.any badB := by
  induction l with
  | nil => rfl
  | cons c r ih =>
    have hge := Lib.indexAny_ge C7 r
    rw [Lib.indexAny, List.any_cons, badB_eq, ← ih]
    cases hc : C7.contains c
    · simp only [Bool.false_or, Bool.false_eq_true, if_false, beq_iff_eq]
      split
      · rename_i h; rw [h]
      · congr 1; exact propext (by omega)
    · simp
theorem small_cap (c : UInt8) : (M1.small c == c) = !capB c := by
  have h := M1.small_nat c
  by_cases hc : 65 ≤ c.toNat ∧ c.toNat ≤ 90
  · rw [if_pos hc] at h
    have h1 : capB c = true := decide_eq_true hc
    rw [h1]
    simp only [Bool.not_true, beq_eq_false_iff_ne, ne_eq]
    intro e; rw [e] at h; omega
  · have h1 : capB c = false := decide_eq_false hc
    rw [h1]
    simp only [Bool.not_false, beq_iff_eq]
    unfold M1.small
    rw [if_neg hc]
theorem fold_same (l : List UInt8) : (M1.fold l == l) = !(l.any capB) := by
  induction l with
  | nil => rfl
  | cons c r ih =>
    show (M1.small c :: M1.fold r == c :: r) = _
    rw [List.cons_beq_cons, ih, small_cap, List.any_cons, Bool.not_or]
end M3
end Go.Proofs.Ytjelmpajphajfaa

/- Plain facts: the document's own way to tell the character that bytes begin with, held against 'dec'. -/
namespace Go.Proofs.Ytjelmpajphajfaa
namespace M1

def foll (c : Nat) : Prop := 128 ≤ c ∧ c < 192
/-- How many bytes, what the first one gives, the least number. -/
def Cls (c n v least : Nat) : Prop := (192 ≤ c ∧ c < 224 ∧ n = 2 ∧ v + 192 = c ∧ least = 128) ∨ (224 ≤ c ∧ c < 240 ∧ n = 3 ∧ v + 224 = c ∧ least = 2048) ∨ (240 ≤ c ∧ c < 248 ∧ n = 4 ∧ v + 240 = c ∧ least = 65536)
def at_ (l : List UInt8) (k : Nat) : Nat := (l.getD k 0).toNat
theorem at_lt (l : List UInt8) (k : Nat) : at_ l k < 256 := (l.getD k 0).toNat_lt
/-- What the first k bytes give. -/
def vv (l : List UInt8) (v : Nat) : Nat → Nat
  | 0 => v
  | 1 => v
  | k + 2 => 64 * vv l v (k + 1) + at_ l (k + 1) - 128
def badv (v least : Nat) : Prop := v < least ∨ v > 1114111 ∨ (55296 ≤ v ∧ v ≤ 57343)
instance (v least : Nat) : Decidable (badv v least) := by unfold badv; infer_instance
instance (c : Nat) : Decidable (foll c) := by unfold foll; infer_instance

theorem dec_at (l : List UInt8) : dec l = if at_ l 0 < 0x80 then (at_ l 0, 1)
  else if at_ l 0 / 32 == 6 && (decide (1 < l.length) && at_ l 1 / 64 == 2) then
    if (at_ l 0 % 32) * 64 + at_ l 1 % 64 ≥ 0x80 then ((at_ l 0 % 32) * 64 + at_ l 1 % 64, 2) else (65533, 1)
  else if at_ l 0 / 16 == 14 && (decide (1 < l.length) && at_ l 1 / 64 == 2) && (decide (2 < l.length) && at_ l 2 / 64 == 2) then
    if (at_ l 0 % 16) * 4096 + (at_ l 1 % 64) * 64 + at_ l 2 % 64 ≥ 0x800 && decide (okRune ((at_ l 0 % 16) * 4096 + (at_ l 1 % 64) * 64 + at_ l 2 % 64 : Nat)) then
      ((at_ l 0 % 16) * 4096 + (at_ l 1 % 64) * 64 + at_ l 2 % 64, 3) else (65533, 1)
  else if at_ l 0 / 8 == 30 && (decide (1 < l.length) && at_ l 1 / 64 == 2) && (decide (2 < l.length) && at_ l 2 / 64 == 2) && (decide (3 < l.length) && at_ l 3 / 64 == 2) then
    if (at_ l 0 % 8) * 262144 + (at_ l 1 % 64) * 4096 + (at_ l 2 % 64) * 64 + at_ l 3 % 64 ≥ 0x10000 && decide (okRune ((at_ l 0 % 8) * 262144 + (at_ l 1 % 64) * 4096 + (at_ l 2 % 64) * 64 + at_ l 3 % 64 : Nat)) then
      ((at_ l 0 % 8) * 262144 + (at_ l 1 % 64) * 4096 + (at_ l 2 % 64) * 64 + at_ l 3 % 64, 4) else (65533, 1)
  else (65533, 1) := by
  simp only [← valid_iff]; rfl

theorem dec_low (l : List UInt8) (h : at_ l 0 < 128) : dec l = (at_ l 0, 1) := by rw [dec_at, if_pos h]

theorem dec_none (l : List UInt8) (h : 128 ≤ at_ l 0) (h2 : at_ l 0 < 192 ∨ 248 ≤ at_ l 0) : dec l = (65533, 1) := by
  have := at_lt l 0
  rw [dec_at, if_neg (by omega), if_neg (by simp; omega), if_neg (by simp; omega), if_neg (by simp; omega)]

theorem dec_short (l : List UInt8) {n v least : Nat} (h : Cls (at_ l 0) n v least) (h2 : l.length < n) : dec l = (65533, 1) := by
  rcases h with ⟨h3, h4, rfl, h5, rfl⟩ | ⟨h3, h4, rfl, h5, rfl⟩ | ⟨h3, h4, rfl, h5, rfl⟩
  all_goals rw [dec_at, if_neg (by omega), if_neg (by simp; omega), if_neg (by simp; omega), if_neg (by simp; omega)]

theorem dec_stop (l : List UInt8) {n v least : Nat} (h : Cls (at_ l 0) n v least) (k : Nat) (h1 : 1 ≤ k) (hk : k < n) (h2 : ¬ foll (at_ l k)) : dec l = (65533, 1) := by
  have hb := at_lt l k
  unfold foll at h2
  have h2' : ¬ at_ l k / 64 = 2 := by omega
  rcases h with ⟨h3, h4, rfl, h5, rfl⟩ | ⟨h3, h4, rfl, h5, rfl⟩ | ⟨h3, h4, rfl, h5, rfl⟩
  · obtain rfl : k = 1 := by omega
    rw [dec_at, if_neg (by omega), if_neg (by simp [h2']), if_neg (by simp; omega), if_neg (by simp; omega)]
  · rcases (by omega : k = 1 ∨ k = 2) with rfl | rfl
    all_goals rw [dec_at, if_neg (by omega), if_neg (by simp; omega), if_neg (by simp [h2']), if_neg (by simp; omega)]
  · rcases (by omega : k = 1 ∨ k = 2 ∨ k = 3) with rfl | rfl | rfl
    all_goals rw [dec_at, if_neg (by omega), if_neg (by simp; omega), if_neg (by simp; omega), if_neg (by simp [h2'])]

set_option maxRecDepth 10000 in
theorem dec_full (l : List UInt8) {n v least : Nat} (h : Cls (at_ l 0) n v least) (hl : n ≤ l.length) (hf : ∀ k, 1 ≤ k → k < n → foll (at_ l k)) : dec l = if badv (vv l v n) least then (65533, 1) else (vv l v n, n) := by
  have b1 := at_lt l 1
  have b2 := at_lt l 2
  have b3 := at_lt l 3
  rcases h with ⟨h3, h4, rfl, h5, rfl⟩ | ⟨h3, h4, rfl, h5, rfl⟩ | ⟨h3, h4, rfl, h5, rfl⟩
  · have f1 := hf 1 (by omega) (by omega)
    unfold foll at f1
    have e : vv l v 2 = (at_ l 0 % 32) * 64 + at_ l 1 % 64 := by
      have : vv l v 2 = 64 * v + at_ l 1 - 128 := rfl
      omega
    rw [dec_at, if_neg (by omega), if_pos (by simp; omega), e]
    by_cases hb : (at_ l 0 % 32) * 64 + at_ l 1 % 64 ≥ 128
    · rw [if_pos hb, if_neg (by unfold badv; omega)]
    · rw [if_neg hb, if_pos (by unfold badv; omega)]
  · have f1 := hf 1 (by omega) (by omega)
    have f2 := hf 2 (by omega) (by omega)
    unfold foll at f1 f2
    have e : vv l v 3 = (at_ l 0 % 16) * 4096 + (at_ l 1 % 64) * 64 + at_ l 2 % 64 := by
      have : vv l v 3 = 64 * (64 * v + at_ l 1 - 128) + at_ l 2 - 128 := rfl
      omega
    rw [dec_at, if_neg (by omega), if_neg (by simp; omega), if_pos (by simp; omega), e]
    generalize (at_ l 0 % 16) * 4096 + (at_ l 1 % 64) * 64 + at_ l 2 % 64 = x at *
    by_cases hb : badv x 2048
    · rw [if_pos hb, if_neg (by simp [okRune]; unfold badv at hb; omega)]
    · rw [if_neg hb, if_pos (by simp [okRune]; unfold badv at hb; omega)]
  · have f1 := hf 1 (by omega) (by omega)
    have f2 := hf 2 (by omega) (by omega)
    have f3 := hf 3 (by omega) (by omega)
    unfold foll at f1 f2 f3
    have e : vv l v 4 = (at_ l 0 % 8) * 262144 + (at_ l 1 % 64) * 4096 + (at_ l 2 % 64) * 64 + at_ l 3 % 64 := by
      have : vv l v 4 = 64 * (64 * (64 * v + at_ l 1 - 128) + at_ l 2 - 128) + at_ l 3 - 128 := rfl
      omega
    rw [dec_at, if_neg (by omega), if_neg (by simp; omega), if_neg (by simp; omega), if_pos (by simp; omega), e]
    generalize (at_ l 0 % 8) * 262144 + (at_ l 1 % 64) * 4096 + (at_ l 2 % 64) * 64 + at_ l 3 % 64 = x at *
    by_cases hb : badv x 65536
    · rw [if_pos hb, if_neg (by simp [okRune]; unfold badv at hb; omega)]
    · rw [if_neg hb, if_pos (by simp [okRune]; unfold badv at hb; omega)]

/-- Does a 13 stand right ahead of place k? -/
def prev (rs : List Int) : Nat → Bool
  | 0 => false
  | k + 1 => decide (rs.getD k 0 = 13)
/-- What 'mk' adds for one character. -/
def piece (x : Int) (p : Bool) : List Int := if x = 13 then [10] else if x = 10 ∧ p = true then [] else if x = 0 then [65533] else [x]
theorem mk_drop (rs : List Int) (k : Nat) (h : k < rs.length) : mk (prev rs k) (rs.drop k) = piece rs[k] (prev rs k) ++ mk (prev rs (k + 1)) (rs.drop (k + 1)) := by
  rw [List.drop_eq_getElem_cons h, mk]
  have : prev rs (k + 1) = decide (rs[k] = 13) := by simp [prev, List.getD_eq_getElem?_getD, List.getElem?_eq_getElem h]
  rw [this]; rfl

def sameB (a b : List Int) : Bool := decide (a = b)
theorem sameB_len {a b : List Int} (h : a.length ≠ b.length) : sameB a b = false := decide_eq_false (fun e => h (by rw [e]))
theorem sameB_at {a b : List Int} {k : Nat} (h : k < a.length) (h' : k < b.length) (hd : a[k] ≠ b[k]) : sameB a b = false := decide_eq_false (fun e => hd (by subst e; rfl))
theorem sameB_self (a : List Int) : sameB a a = true := decide_eq_true rfl
theorem sameB_yes {a b : List Int} (h : a.length = b.length) (hd : a.take a.length = b.take a.length) : sameB a b = true := by
  rw [List.take_length, h, List.take_length] at hd
  exact decide_eq_true hd
theorem take_step {a b : List Int} {k : Nat} (h : k < a.length) (h' : k < b.length) (ht : a.take k = b.take k) (he : a[k] = b[k]) : a.take (k + 1) = b.take (k + 1) := by
  rw [List.take_succ_eq_append_getElem h, List.take_succ_eq_append_getElem h', ht, he]
end M1
end Go.Proofs.Ytjelmpajphajfaa

/- The document's answers of layer 1 (package strainerref01): what each call gives. -/
namespace Go.Proofs.Ytjelmpajphajfaa
open Go.RowKit

set_option maxHeartbeats 1000000 in
theorem ref01Follows (c : Int) (w : World) (h0 : 0 ≤ c) (h1 : c ≤ 255) :
    Calls Try.prog 93 #[.int .u8 c] w fun e w' => e = .returned (.bool (decide (128 ≤ c ∧ c < 192))) ∧ w' = w := by
  by_cases h : 128 ≤ c ∧ c < 192
  · rw [decide_eq_true h]
    obtain ⟨h2, h3⟩ := h
    go_enter Try.func93, Try.ntmps93
    go_wp2
    go_ret
    exact ⟨rfl, rfl⟩
  · rw [decide_eq_false h]
    have h2 : c < 128 ∨ 192 ≤ c := by omega
    rcases h2 with h2 | h2
    · have hb : decide (128 ≤ c) = false := decide_eq_false (by omega)
      go_enter Try.func93, Try.ntmps93
      go_wp2
      go_ret
      exact ⟨rfl, rfl⟩
    · have hb : decide (c < 192) = false := decide_eq_false (by omega)
      go_enter Try.func93, Try.ntmps93
      go_wp2
      go_ret
      exact ⟨rfl, rfl⟩

set_option maxHeartbeats 2000000 in
set_option maxRecDepth 100000 in
theorem ref01One (v : Value) (l : List UInt8) (w : World) (hs : Sl w v (u8s l)) (hne : l ≠ []) :
    Calls Try.prog 81 #[v] w fun e w' => e = .returned (.tuple #[.int .i32 (M1.dec l).1, .int .i64 (M1.dec l).2]) ∧ w' = w := by
  obtain ⟨a, cap, rfl, h2, h3, h4, h5⟩ := hs
  have hpos := List.length_pos_iff.2 hne
  obtain ⟨b, off, rfl, h7⟩ := h5 (ne_of_lt (k := 0) (by simpa using hpos))
  rw [u8s_length] at *
  have hc : ∀ j, j < l.length → w.cell? ⟨b, off + j, none⟩ = some (.int .u8 (M1.at_ l j : Int)) := by
    intro j hj
    rw [h7 j (by simpa using hj)]
    simp [u8s, Lib.byteCells, M1.at_, List.getD_eq_getElem?_getD, List.getElem?_eq_getElem hj]
  have hc0 := hc 0 hpos
  rw [Nat.add_zero] at hc0
  have hb0 := M1.at_lt l 0
  clear h5 h7 h4
  by_cases hlow : M1.at_ l 0 < 128
  · rw [M1.dec_low l hlow]
    clear hc
    generalize M1.at_ l 0 = c at *
    go_enter Try.func81, Try.ntmps81
    go_wp2
    go_ret2
    exact ⟨rfl, rfl⟩
  by_cases hnone : M1.at_ l 0 < 192 ∨ 248 ≤ M1.at_ l 0
  · rw [M1.dec_none l (by omega) hnone]
    clear hc
    generalize M1.at_ l 0 = c at *
    rcases hnone with hnone | hnone
    all_goals
      go_enter Try.func81, Try.ntmps81
      go_wp2
      go_ret2
      exact ⟨rfl, rfl⟩
  have hcls : (192 ≤ M1.at_ l 0 ∧ M1.at_ l 0 < 224) ∨ (224 ≤ M1.at_ l 0 ∧ M1.at_ l 0 < 240) ∨ (240 ≤ M1.at_ l 0 ∧ M1.at_ l 0 < 248) := by omega
  go_enter Try.func81, Try.ntmps81
  go_upto_if 23 with fail
  go_cut [4, 5, 6, 7] (fun _ s5 s6 s7 wx => wx = w ∧ ∃ n v least : Nat, s5 = .int .i64 n ∧ s6 = .int .i64 v ∧ s7 = .int .i64 least ∧ M1.Cls (M1.at_ l 0) n v least)
  case first =>
    clear hc
    rcases hcls with ⟨k1, k2⟩ | ⟨k1, k2⟩ | ⟨k1, k2⟩
    · go_wp2
      go_meet
      exact ⟨rfl, 2, M1.at_ l 0 - 192, 128, rfl, by rw [Int.ofNat_sub k1]; rfl, rfl, by unfold M1.Cls; omega⟩
    · go_wp2
      go_meet
      exact ⟨rfl, 3, M1.at_ l 0 - 224, 2048, rfl, by rw [Int.ofNat_sub k1]; rfl, rfl, by unfold M1.Cls; omega⟩
    · go_wp2
      go_meet
      exact ⟨rfl, 4, M1.at_ l 0 - 240, 65536, rfl, by rw [Int.ofNat_sub k1]; rfl, rfl, by unfold M1.Cls; omega⟩
  case rest =>
    obtain ⟨rfl, n, v, least, rfl, rfl, rfl, hC⟩ := hcut
    have hn : 2 ≤ n ∧ n ≤ 4 ∧ v < 32 := by unfold M1.Cls at hC; omega
    clear hcls hnone hlow hc0
    by_cases hsh : l.length < n
    · have hd := Lib.hid (M1.dec_short l hC hsh)
      go_wp2
      go_ret2
      exact ⟨by rw [hd.out]; rfl, rfl⟩
    go_wp2
    go_loop [6, 8] (fun s6 i => ∃ k : Nat, 1 ≤ k ∧ k ≤ n ∧ i = .int .i64 k ∧ s6 = .int .i64 (M1.vv l v k) ∧ Hid (∀ j, 1 ≤ j → j < k → M1.foll (M1.at_ l j)) ∧ Hid ((k = 1 → M1.vv l v k < 32) ∧ (k = 2 → M1.vv l v k < 2048) ∧ (k = 3 → M1.vv l v k < 131072) ∧ (k = 4 → M1.vv l v k < 8388608))) (fun _ i => n - (intOf i).toNat)
    case atStart => exact ⟨1, by omega, by omega, rfl, rfl, fun j _ _ => by omega, ⟨fun _ => hn.2.2, by omega, by omega, by omega⟩⟩
    case round =>
      obtain ⟨k, hk1, hk2, rfl, rfl, hF, hV⟩ := hrel
      by_cases hlt : k < n
      · have hck := hc k (by omega)
        have hak := M1.at_lt l k
        have hvb : M1.vv l v k < 131072 := by have := hV.out; omega
        by_cases hfo : M1.foll (M1.at_ l k)
        · have hb : decide (128 ≤ (M1.at_ l k : Int) ∧ (M1.at_ l k : Int) < 192) = true := decide_eq_true (by unfold M1.foll at hfo; omega)
          have hF2 : Hid (∀ j, 1 ≤ j → j < k + 1 → M1.foll (M1.at_ l j)) := fun j h1 h2 => by
            by_cases e : j = k
            · rw [e]; exact hfo
            · exact hF.out j h1 (by omega)
          have hfo2 : 128 ≤ M1.at_ l k ∧ M1.at_ l k < 192 := hfo
          have hvs : Hid (M1.vv l v (k + 1) = 64 * M1.vv l v k + M1.at_ l k - 128) := by
            obtain ⟨k', rfl⟩ : ∃ k', k = k' + 1 := ⟨k - 1, by omega⟩
            exact rfl
          clear hc hfo
          go_wp2_with (go_at_call 93; refine (ref01Follows _ _ (by omega) (by omega)).mono ?_; rintro e w2 ⟨rfl, rfl⟩)
          go_round
          case rel =>
            refine ⟨k + 1, by omega, by omega, by go_num, ?_, hF2, ?_⟩
            · rw [hvs.out]; congr 1; omega
            · show _ ∧ _ ∧ _ ∧ _
              have := hV.out
              have := hvs.out
              refine ⟨?_, ?_, ?_, ?_⟩ <;> intro _ <;> omega
          case measure => simp [intOf]; omega
        · have hb : decide (128 ≤ (M1.at_ l k : Int) ∧ (M1.at_ l k : Int) < 192) = false := decide_eq_false (by unfold M1.foll at hfo; omega)
          have hd := Lib.hid (M1.dec_stop l hC k hk1 hlt hfo)
          clear hc hfo
          go_wp2_with (go_at_call 93; refine (ref01Follows _ _ (by omega) (by omega)).mono ?_; rintro e w2 ⟨rfl, rfl⟩)
          go_ret2
          exact ⟨by rw [hd.out]; rfl, rfl⟩
      · obtain rfl : k = n := by omega
        have hd := Lib.hid (M1.dec_full l hC (by omega) hF.out)
        have hvb : M1.vv l v k < 8388608 := by have := hV.out; omega
        clear hc hV hF
        by_cases hbad : M1.badv (M1.vv l v k) least
        · have hd2 := Lib.hid (hd.out.trans (if_pos hbad))
          clear hd
          unfold M1.badv at hbad
          generalize M1.vv l v k = x at *
          have hcase : x < least ∨ (least ≤ x ∧ 1114111 < x) ∨ (least ≤ x ∧ 55296 ≤ x ∧ x ≤ 57343) := by omega
          rcases hcase with c1 | ⟨c1, c2⟩ | ⟨c1, c2, c3⟩
          all_goals
            clear hbad
            go_wp2
            go_ret2
            exact ⟨by rw [hd2.out]; rfl, rfl⟩
        · have hd2 := Lib.hid (hd.out.trans (if_neg hbad))
          clear hd
          unfold M1.badv at hbad
          generalize M1.vv l v k = x at *
          have c1 : least ≤ x := by omega
          have c2 : x ≤ 1114111 := by omega
          have hcase : x < 55296 ∨ 57343 < x := by omega
          rcases hcase with c3 | c3
          · have hb : decide (55296 ≤ (x : Int)) = false := decide_eq_false (by omega)
            have hb2 : decide (55296 ≤ x) = false := decide_eq_false (by omega)
            clear hbad
            go_wp2
            go_ret2
            exact ⟨by rw [hd2.out]; rfl, rfl⟩
          · have hb : decide ((x : Int) ≤ 57343) = false := decide_eq_false (by omega)
            have hb2 : decide (x ≤ 57343) = false := decide_eq_false (by omega)
            clear hbad
            go_wp2
            go_ret2
            exact ⟨by rw [hd2.out]; rfl, rfl⟩
end Go.Proofs.Ytjelmpajphajfaa

/- The document's answers of layer 1, the rest: characters, texts, made right, folded; lists held against one another. -/
namespace Go.Proofs.Ytjelmpajphajfaa
open Go.RowKit

theorem info32' : (Try.prog.info? 21).map (fun i => (i.zero, i.size, i.bytes)) = some (some (.int .i32 0), 1, 4) := by kernel_rfl
theorem drop_ne' {l : List UInt8} {k : Nat} (h : k < l.length) : l.drop k ≠ [] := ne_of_lt (k := 0) (by rw [List.length_drop]; omega)

set_option maxHeartbeats 1000000 in
set_option maxRecDepth 100000 in
theorem ref01Runes (v : Value) (l : List UInt8) (w : World) (hs : Sl w v (u8s l)) (hl : l.length ≤ 1073741824) :
    Calls Try.prog 54 #[v] w fun e w' => ∃ v', e = .returned v' ∧ Sl w' v' (i32s (M1.runes l)) ∧ Below w.heap.size w w' := by
  have hs0 := hs
  obtain ⟨a, cap, rfl, h2, h3, h4, h5⟩ := hs
  rw [u8s_length] at *
  go_enter Try.func54, Try.ntmps54
  go_wp2
  go_loopw [3, 4] (fun v3 i wr => ∃ (pos : Nat) (acc : List Int), i = .int .i64 pos ∧ pos ≤ l.length ∧ wr.ownsRow w.heap.size 21 1 v3 acc.length (i32s acc) ∧ Below w.heap.size w wr ∧ Hid (M1.runes l = acc ++ M1.runes (l.drop pos)) ∧ acc.length ≤ pos) (fun _ i _ => l.length - (intOf i).toNat)
  case atStart => exact ⟨0, [], rfl, by omega, World.ownsRow_nil _ _ _ _, Below.refl _ _, rfl, by simp⟩
  case round =>
    obtain ⟨pos, acc, rfl, hpl, hown, hbw, hacc, hal⟩ := hrel
    by_cases hp : pos < l.length
    · obtain ⟨b, off, rfl, h7⟩ := h5 (ne_of_lt (k := pos) (by simpa using hp))
      have hne := drop_ne' hp
      have hd := (hs0.below hbw).drop pos (by omega)
      have hO := ref01One _ (l.drop pos) wr (by rw [show u8s (l.drop pos) = (u8s l).drop pos by simp [u8s, Lib.byteCells, List.map_drop]]; exact hd) hne
      have hst0 := M1.runes_step _ hne
      have hw1 := M1.dec_pos _ hne
      have hw2 := M1.dec_le _ hne
      have hlt := M1.dec_lt (l.drop pos)
      rw [List.drop_drop] at hst0
      rw [List.length_drop] at hw2
      generalize (M1.dec (l.drop pos)).1 = r at *
      generalize (M1.dec (l.drop pos)).2 = wd at *
      have hst := Lib.hid hst0
      have hO := Lib.hid hO
      clear hst0 h5 h7 hd hs0 h4
      go_wp2_with (first | (go_at_call 81; refine hO.out.mono ?_; rintro e w2 ⟨rfl, rfl⟩) | (at_builtin; refine wpList_app1 _ _ rfl _ _ 59 21 rfl w.heap.size Try.underlying59 info32' rfl _ _ _ rfl hown rfl rfl ?c1 ?c2 ?c3 ?_))
      case c1 => omega
      case c2 => omega
      case c3 => exact hbw.size
      intro v' w2 hown2 hgrow
      go_wp2
      go_roundw
      case rel =>
        refine ⟨pos + wd, acc ++ [(r : Int)], by go_num, by omega, ?_, below_row hbw hown hgrow hbw.size (Nat.le_refl _), ?_, by simp; omega⟩
        · rw [i32s_append, List.length_append]; exact hown2
        · show _ = _
          rw [hacc.out, hst.out]; simp
      case measure => simp [intOf]; omega
    · clear h5 h4 hs0
      have h := hacc.out
      rw [List.drop_of_length_le (by omega), M1.runes_nil, List.append_nil] at h
      have h := Lib.hid h
      go_wp2
      go_ret
      exact ⟨_, rfl, by rw [h.out]; exact Sl.own hown, hbw⟩

theorem Sl.fresh (w : World) (e : TypeId) (xs : List Value) (n : Nat) (hn : xs.length = n) (h : n ≤ 4) : Sl (w.alloc (.cells xs.toArray e)) (.slice (some ⟨w.heap.size, 0, none⟩) n n) xs := by
  subst hn
  refine ⟨_, xs.length, rfl, Nat.le_refl _, by omega, (fun h => by cases h), fun _ => ⟨_, 0, rfl, fun j hj => ?_⟩⟩
  rw [Nat.zero_add, World.cell?_alloc_at _ _ _ _ rfl]
  simp [hj]

set_option maxHeartbeats 2000000 in
set_option maxRecDepth 100000 in
theorem ref01Bytes (r : Int) (w : World) (h0 : -2147483648 ≤ r) (h1 : r ≤ 2147483647) :
    Calls Try.prog 82 #[.int .i32 r] w fun e w' => ∃ v', e = .returned v' ∧ Sl w' v' (Lib.runeCells r) ∧ Below w.heap.size w w' := by
  have hfr := fun xs n hn h => Sl.fresh w 5 xs n hn h
  have hbl := fun o => (Below.refl w.heap.size w).alloc (Nat.le_refl _) o
  have hfr := Lib.hid hfr
  have hbl := Lib.hid hbl
  by_cases c1 : 0 ≤ r ∧ r ≤ 127
  · obtain ⟨c1, c2⟩ := c1
    have e : Lib.runeCells r = [.int .u8 r] := by simp [Lib.runeCells, Lib.encodeRuneZ_one c1 c2]
    rw [e]
    clear e
    go_enter Try.func82, Try.ntmps82
    go_wp2
    go_ret
    exact ⟨_, rfl, hfr.out _ 1 rfl (by omega), hbl.out _⟩
  by_cases c2 : 128 ≤ r ∧ r ≤ 2047
  · obtain ⟨c2, c3⟩ := c2
    have e : Lib.runeCells r = [.int .u8 (192 + r / 64), .int .u8 (128 + r % 64)] := by simp [Lib.runeCells, Lib.encodeRuneZ_two c2 c3]
    rw [e]
    clear e
    go_enter Try.func82, Try.ntmps82
    go_wp2
    go_ret
    exact ⟨_, rfl, hfr.out _ 2 rfl (by omega), hbl.out _⟩
  by_cases c3 : 2048 ≤ r ∧ r < 55296
  · obtain ⟨c3, c4⟩ := c3
    have e : Lib.runeCells r = [.int .u8 (224 + r / 4096), .int .u8 (128 + r / 64 % 64), .int .u8 (128 + r % 64)] := by simp [Lib.runeCells, Lib.encodeRuneZ_three (r := r) (by omega)]
    rw [e]
    clear e
    go_enter Try.func82, Try.ntmps82
    go_wp2
    go_ret
    exact ⟨_, rfl, hfr.out _ 3 rfl (by omega), hbl.out _⟩
  by_cases c4 : 57343 < r ∧ r ≤ 65535
  · obtain ⟨c4, c5⟩ := c4
    have e : Lib.runeCells r = [.int .u8 (224 + r / 4096), .int .u8 (128 + r / 64 % 64), .int .u8 (128 + r % 64)] := by simp [Lib.runeCells, Lib.encodeRuneZ_three (r := r) (by omega)]
    have hb : decide (r ≤ 57343) = false := decide_eq_false (by omega)
    rw [e]
    clear e
    go_enter Try.func82, Try.ntmps82
    go_wp2
    go_ret
    exact ⟨_, rfl, hfr.out _ 3 rfl (by omega), hbl.out _⟩
  by_cases c5 : 65536 ≤ r ∧ r ≤ 1114111
  · obtain ⟨c5, c6⟩ := c5
    have e : Lib.runeCells r = [.int .u8 (240 + r / 262144), .int .u8 (128 + r / 4096 % 64), .int .u8 (128 + r / 64 % 64), .int .u8 (128 + r % 64)] := by simp [Lib.runeCells, Lib.encodeRuneZ_four c5 c6]
    have hb : decide (r ≤ 57343) = false := decide_eq_false (by omega)
    rw [e]
    clear e
    go_enter Try.func82, Try.ntmps82
    go_wp2
    go_ret
    exact ⟨_, rfl, hfr.out _ 4 rfl (by omega), hbl.out _⟩
  have e : Lib.runeCells r = [.int .u8 239, .int .u8 191, .int .u8 189] := by simp [Lib.runeCells, Lib.encodeRuneZ_bad (r := r) (by omega)]
  rw [e]
  clear e
  have hc : r < 0 ∨ 1114111 < r ∨ (55296 ≤ r ∧ r ≤ 57343) := by omega
  clear c1 c2 c3 c4 c5
  rcases hc with hc | hc | ⟨hc, hc2⟩
  all_goals
    go_enter Try.func82, Try.ntmps82
    go_wp2
    go_ret
    exact ⟨_, rfl, hfr.out _ 3 rfl (by omega), hbl.out _⟩

theorem runeCells_one (r : Int) : ∀ u ∈ Lib.runeCells r, u.oneCell' = true := by
  intro u hu
  simp only [Lib.runeCells, List.mem_map] at hu
  obtain ⟨x, _, rfl⟩ := hu
  rfl

set_option maxHeartbeats 1000000 in
set_option maxRecDepth 100000 in
theorem ref01Text (v : Value) (rs : List Int) (w : World) (hs : Sl w v (i32s rs)) (hr : ∀ r ∈ rs, -2147483648 ≤ r ∧ r ≤ 2147483647) (hl : rs.length ≤ 1073741824) :
    Calls Try.prog 55 #[v] w fun e w' => e = .returned (.string ⟨(M1.text rs).toArray⟩) ∧ Below w.heap.size w w' := by
  obtain ⟨a, cap, rfl, h2, h3, h4, h5⟩ := hs
  rw [i32s_length] at *
  go_enter Try.func55, Try.ntmps55
  go_wp2
  go_loopw [3, 4] (fun v3 i wr => ∃ k : Nat, i = .int .i64 k ∧ k ≤ rs.length ∧ wr.ownsRow w.heap.size 5 1 v3 (M1.text (rs.take k)).length (u8s (M1.text (rs.take k))) ∧ Below w.heap.size w wr) (fun _ i _ => rs.length - (intOf i).toNat)
  case atStart => exact ⟨0, rfl, by omega, World.ownsRow_nil _ _ _ _, Below.refl _ _⟩
  case round =>
    obtain ⟨k, rfl, hk, hown, hbw⟩ := hrel
    have htl := M1.text_len_le (rs.take k)
    have htk : (rs.take k).length ≤ k := List.length_take_le _ _
    by_cases hlt : k < rs.length
    · obtain ⟨b, off, rfl, h7⟩ := h5 (ne_of_lt (k := k) (by simpa using hlt))
      have h8 := h7 k (by simpa using hlt)
      have h9 := World.block_lt_of_cell? w _ h8
      have hc : wr.cell? ⟨b, off + k, none⟩ = some (.int .i32 rs[k]) := by
        rw [hbw.cell h9, h8]; simp [i32s]
      have hrk := hr rs[k] (List.getElem_mem hlt)
      have htk1 := Lib.hid (List.take_succ_eq_append_getElem hlt)
      have hl4 := Lib.runeCells_le rs[k]
      have hco := Lib.hid (runeCells_one rs[k])
      clear h5 h7 h8
      generalize rs[k] = r at *
      go_wp2_with fail
      refine (ref01Bytes r _ hrk.1 hrk.2).mono ?_
      rintro e w1 ⟨y, rfl, hy, hb1⟩
      have hown1 := owns_below hown hb1
      have hs1 := hb1.size
      have hs2 := hbw.size
      go_wp2_with (at_builtin; refine wpList_appSl _ rfl _ _ 38 5 rfl w.heap.size Try.underlying38 infoU8 rfl _ _ _ rfl hown1 _ _ rfl hy hco.out (by omega) (by omega) (by have := hbw.size; omega) ?_)
      intro v' w2 hown2 hgrow
      go_wp2
      go_roundw
      case rel =>
        have e : u8s (M1.text [r]) = Lib.runeCells r := by
          rw [show M1.text [r] = Lib.encodeRune r by simp [M1.text]]; exact Lib.byteCells_encodeRune r
        have e2 : (M1.text [r]).length = (Lib.runeCells r).length := by rw [← e, u8s_length]
        refine ⟨k + 1, by go_num, by omega, ?_, below_row (hbw.trans (hb1.mono hs2)) hown1 hgrow (by omega) (Nat.le_refl _)⟩
        rw [htk1.out, M1.text_append, u8s_append, e, List.length_append, e2]
        exact hown2
      case measure => simp [intOf]; omega
    · clear h5 h4
      have hcv := (Sl.own hown).toString 38 9 5 Try.underlying38 Try.underlying5 Try.underlying9
      go_wp2
      go_ret
      rw [List.take_of_length_le (by omega)]
      exact ⟨rfl, hbw⟩
end Go.Proofs.Ytjelmpajphajfaa

/- The document's answers of layer 1, the rest: made right, folded; lists held against one another. -/
namespace Go.Proofs.Ytjelmpajphajfaa
open Go.RowKit

set_option maxHeartbeats 2000000 in
set_option maxRecDepth 100000 in
theorem ref01Right (v : Value) (l : List UInt8) (w : World) (hs : Sl w v (u8s l)) (hl : l.length ≤ 268435456) :
    Calls Try.prog 29 #[v] w fun e w' => e = .returned (.string ⟨(M1.right l).toArray⟩) ∧ Below w.heap.size w w' := by
  have hrl := M1.runes_len l.length l (Nat.le_refl _)
  have hml := M1.mk_len (M1.runes l) false
  have hok := Lib.hid (M1.right_ok l)
  go_enter Try.func29, Try.ntmps29
  go_wp2_with fail
  refine (ref01Runes v l w hs (by omega)).mono ?_
  rintro e w0 ⟨v0, rfl, hs0, hb0⟩
  have hr : Hid (M1.right l = M1.text (M1.mk false (M1.runes l))) := rfl
  generalize M1.runes l = rs at *
  have hs00 := hs0
  obtain ⟨a, cap, rfl, h2, h3, h4, h5⟩ := hs0
  rw [i32s_length] at *
  have hz0 := hb0.size
  go_wp2
  go_loopw [4, 5] (fun v4 i wr => ∃ (k : Nat) (acc : List Int), i = .int .i64 k ∧ k ≤ rs.length ∧ acc.length ≤ k ∧ wr.ownsRow w0.heap.size 21 1 v4 acc.length (i32s acc) ∧ Below w0.heap.size w0 wr ∧ Hid (M1.mk false rs = acc ++ M1.mk (M1.prev rs k) (rs.drop k))) (fun _ i _ => rs.length - (intOf i).toNat)
  case atStart => exact ⟨0, [], rfl, by omega, by simp, World.ownsRow_nil _ _ _ _, Below.refl _ _, rfl⟩
  case round =>
    obtain ⟨k, acc, rfl, hk, hak, hown, hbw, hacc⟩ := hrel
    by_cases hlt : k < rs.length
    · obtain ⟨b, off, rfl, h7⟩ := h5 (ne_of_lt (k := k) (by simpa using hlt))
      have hcell : ∀ j, (hj : j < rs.length) → wr.cell? ⟨b, off + j, none⟩ = some (.int .i32 rs[j]) := fun j hj => by
        have h8 := h7 j (by simpa using hj)
        rw [hbw.cell (World.block_lt_of_cell? w0 _ h8), h8]; simp [i32s]
      have hc := hcell k hlt
      have hd := M1.mk_drop rs k hlt
      have hacc1 := Lib.hid (hacc.out.trans (congrArg (acc ++ ·) hd))
      have hx := Lib.hid (rfl : M1.piece rs[k] (M1.prev rs k) = M1.piece rs[k] (M1.prev rs k))
      have fin0 : ∀ (y : Int) (w2 : World) (v2 : Value), M1.piece rs[k] (M1.prev rs k) = [y] → w2.ownsRow w0.heap.size 21 1 v2 (acc.length + 1) (i32s acc ++ [.int .i32 y]) → wr.grownBy w2 u4.ownBlock →
          ∃ (k' : Nat) (acc' : List Int), Value.int .i64 ((k : Int) + 1) = .int .i64 k' ∧ k' ≤ rs.length ∧ acc'.length ≤ k' ∧ w2.ownsRow w0.heap.size 21 1 v2 acc'.length (i32s acc') ∧ Below w0.heap.size w0 w2 ∧ Hid (M1.mk false rs = acc' ++ M1.mk (M1.prev rs k') (rs.drop k')) := by
        intro y w2 v2 hp ho hg
        refine ⟨k + 1, acc ++ [y], by go_num, by omega, by simp; omega, ?_, below_row hbw hown hg hbw.size (Nat.le_refl _), ?_⟩
        · rw [i32s_append, List.length_append]; exact ho
        · show _ = _
          rw [hacc1.out, hp, List.append_assoc]
      have fin := Lib.hid fin0
      clear h5 h7 hd h4 hacc fin0 hx
      have hbz := hbw.size
      by_cases h13 : rs[k] = 13
      · have hp : M1.piece rs[k] (M1.prev rs k) = [10] := by rw [M1.piece, if_pos h13]
        have hp := Lib.hid hp
        rw [h13] at hc
        clear h13 hcell
        go_wp2_with (at_builtin; refine wpList_app1 _ _ rfl _ _ 59 21 rfl w0.heap.size Try.underlying59 info32' rfl _ _ _ rfl hown rfl rfl (by omega) (by omega) (by have := hbw.size; omega) ?_)
        intro v' w2 hown2 hgrow
        go_wp2
        go_roundw
        case rel => exact fin.out _ _ _ hp.out hown2 hgrow
        case measure => simp [intOf]; omega
      by_cases h10 : rs[k] = 10
      · rw [h10] at hc
        by_cases hk0 : k = 0
        · subst hk0
          have hp : M1.piece rs[0] (M1.prev rs 0) = [10] := by rw [M1.piece, if_neg h13, if_neg (by simp [M1.prev]), if_neg (by omega), h10]
          have hp := Lib.hid hp
          have hak' : acc.length ≤ 1 := by omega
          have hc : wr.cell? ⟨b, off, none⟩ = some (.int .i32 10) := hc
          clear h13 h10 hcell hak
          go_wp2_with (at_builtin; refine wpList_app1 _ _ rfl _ _ 59 21 rfl w0.heap.size Try.underlying59 info32' rfl _ _ _ rfl hown rfl rfl (by omega) (by omega) (by have := hbw.size; omega) ?_)
          intro v' w2 hown2 hgrow
          go_wp2
          go_roundw
          case rel => exact fin.out _ _ _ hp.out hown2 hgrow
          case measure => simp [intOf]; omega
        · obtain ⟨j, rfl⟩ : ∃ j, k = j + 1 := ⟨k - 1, by omega⟩
          have hcj := hcell j (by omega)
          by_cases hj : rs[j]'(by omega) = 13
          · have hp : M1.piece rs[j + 1] (M1.prev rs (j + 1)) = [] := by
              have hpv : M1.prev rs (j + 1) = true := by simp [M1.prev, List.getD_eq_getElem?_getD, List.getElem?_eq_getElem (show j < rs.length by omega), hj]
              rw [M1.piece, if_neg h13, if_pos ⟨h10, hpv⟩]
            have hr2 : Hid (M1.mk false rs = acc ++ M1.mk (M1.prev rs (j + 1 + 1)) (rs.drop (j + 1 + 1))) := by
              show _ = _
              rw [hacc1.out, hp, List.nil_append]
            rw [hj] at hcj
            clear h13 h10 hcell hj fin
            go_wp2
            go_roundw
            case rel => exact ⟨j + 1 + 1, acc, by go_num, by omega, by omega, hown, hbw, hr2⟩
            case measure => simp [intOf]; omega
          · have hp : M1.piece rs[j + 1] (M1.prev rs (j + 1)) = [10] := by
              rw [M1.piece, if_neg h13, if_neg ?_, if_neg (by omega), h10]
              intro h
              have h2 := h.2
              simp [M1.prev, List.getD_eq_getElem?_getD, List.getElem?_eq_getElem (show j < rs.length by omega)] at h2
              exact hj h2
            have hp := Lib.hid hp
            generalize rs[j]'(by omega) = y at *
            have hyb : (y == 13) = false := by simpa using hj
            clear h13 h10 hcell hj
            go_wp2_with (at_builtin; refine wpList_app1 _ _ rfl _ _ 59 21 rfl w0.heap.size Try.underlying59 info32' rfl _ _ _ rfl hown rfl rfl (by omega) (by omega) (by have := hbw.size; omega) ?_)
            intro v' w2 hown2 hgrow
            go_wp2
            go_roundw
            case rel => exact fin.out _ _ _ hp.out hown2 hgrow
            case measure => simp [intOf]; omega
      by_cases h0 : rs[k] = 0
      · have hp : M1.piece rs[k] (M1.prev rs k) = [65533] := by rw [M1.piece, if_neg h13, if_neg (fun h => h10 h.1), if_pos h0]
        have hp := Lib.hid hp
        rw [h0] at hc
        clear h13 h10 hcell
        go_wp2_with (at_builtin; refine wpList_app1 _ _ rfl _ _ 59 21 rfl w0.heap.size Try.underlying59 info32' rfl _ _ _ rfl hown rfl rfl (by omega) (by omega) (by have := hbw.size; omega) ?_)
        intro v' w2 hown2 hgrow
        go_wp2
        go_roundw
        case rel => exact fin.out _ _ _ hp.out hown2 hgrow
        case measure => simp [intOf]; omega
      have hp : M1.piece rs[k] (M1.prev rs k) = [rs[k]] := by rw [M1.piece, if_neg h13, if_neg (fun h => h10 h.1), if_neg h0]
      have hp := Lib.hid hp
      generalize rs[k] = x at *
      have h13b : (x == 13) = false := by simpa using h13
      have h10b : (x == 10) = false := by simpa using h10
      have h0b : (x == 0) = false := by simpa using h0
      clear h13 h10 h0 hcell
      go_wp2_with (at_builtin; refine wpList_app1 _ _ rfl _ _ 59 21 rfl w0.heap.size Try.underlying59 info32' rfl _ _ _ rfl hown rfl rfl (by omega) (by omega) (by have := hbw.size; omega) ?_)
      intro v' w2 hown2 hgrow
      go_wp2
      go_roundw
      case rel => exact fin.out _ _ _ hp.out hown2 hgrow
      case measure => simp [intOf]; omega
    · clear h5 h4
      have h := hacc.out
      rw [List.drop_of_length_le (by omega), M1.mk, List.append_nil] at h
      go_wp2_with fail
      refine (ref01Text _ acc _ (Sl.own hown) ?_ (by omega)).mono ?_
      · intro r hr
        rw [← h] at hr
        have := (hok.out r hr).1
        unfold M1.okRune at this
        omega
      rintro e w1 ⟨rfl, hb1⟩
      go_wp2
      go_ret
      rw [hr.out, h]
      exact ⟨rfl, (hb0.trans (hbw.mono hz0)).trans (hb1.mono (by have := hbw.size; omega))⟩

set_option maxHeartbeats 1000000 in
set_option maxRecDepth 100000 in
theorem ref01Is (s : ByteArray) (w : World) (hs : s.size ≤ 268435456) :
    Calls Try.prog 74 #[.string s] w fun e w' => e = .returned (.bool (M1.isB s.data.toList)) ∧ Below w.heap.size w w' := by
  have hcv := Lib.run_convert_string_bytes (P := Try.prog) w 9 38 5 s Try.underlying9 Try.underlying38 Try.underlying5
  have hS := Sl.bytes w 5 s (by omega)
  have hB := below_bytesWorld w 5 s
  generalize grownCap w s.size 0 5 = cap at *
  generalize Lib.bytesWorld w 5 s = w0 at *
  have hz := hB.size
  have hi := M1.isB_right_iff s.data.toList
  go_enter Try.func74, Try.ntmps74
  go_wp2_with fail
  refine (ref01Right _ s.data.toList w0 hS (show s.data.toList.length ≤ 268435456 from hs)).mono ?_
  rintro e w1 ⟨rfl, hb1⟩
  go_wp2
  go_ret
  refine ⟨?_, hB.trans (hb1.mono hz)⟩
  have e : (M1.right s.data.toList == s.data.toList) = M1.isB s.data.toList := by
    rw [Bool.eq_iff_iff, beq_iff_eq]; exact hi.symm
  rw [← e]
  simp [ByteArray.toList_eq]

theorem Sl.i32 {w : World} {xs : List Int} {a : Option Addr} {n cap : Nat} (h : Sl w (.slice a n cap) (i32s xs)) (k : Nat) (hk : k < xs.length) : ∃ b off, a = some ⟨b, off, none⟩ ∧ b < w.heap.size ∧ w.cell? ⟨b, off + k, none⟩ = some (.int .i32 xs[k]) := by
  obtain ⟨a', cap', h1, h2, h3, h4, h5⟩ := h
  cases h1
  obtain ⟨b, off, h6, h7⟩ := h5 (ne_of_lt (k := k) (by simpa using hk))
  have h8 := h7 k (by simpa using hk)
  refine ⟨b, off, h6, World.block_lt_of_cell? w _ h8, ?_⟩
  rw [h8]; simp [i32s]


end Go.Proofs.Ytjelmpajphajfaa

/- Attributes' names: strings.ContainsAny at the signs that may not be, for every text; and the reference's own way. -/
namespace Go.Proofs.Ytjelmpajphajfaa
open Go.RowKit

abbrev c7 : ByteArray := ⟨#[9, 10, 12, 32, 47, 62, 61]⟩

/-- A character beyond the plain ones is two, three or four bytes, each of them beyond them. -/
theorem encode_high (r : Int) (h0 : 128 ≤ r) (h1 : r ≤ 1114111) (hs : r < 55296 ∨ 57343 < r) :
    (∃ a b : UInt8, Utf8.encode r = ⟨#[a, b]⟩ ∧ 128 ≤ b.toNat) ∨ (∃ a b c : UInt8, Utf8.encode r = ⟨#[a, b, c]⟩ ∧ 128 ≤ c.toNat) ∨ (∃ a b c d : UInt8, Utf8.encode r = ⟨#[a, b, c, d]⟩ ∧ 128 ≤ d.toNat) := by
  have hv : Utf8.valid r = true := by rw [M1.valid_iff]; exact decide_eq_true (by unfold M1.okRune; omega)
  unfold Utf8.encode
  simp only [hv, if_true]
  obtain ⟨n, rfl⟩ := Int.eq_ofNat_of_zero_le (show 0 ≤ r by omega)
  simp only [Int.toNat_natCast]
  rw [if_neg (by omega)]
  split
  · exact Or.inl ⟨_, _, rfl, by rw [M1.toNat_u8 _ (by omega)]; omega⟩
  split
  · exact Or.inr (Or.inl ⟨_, _, _, rfl, by rw [M1.toNat_u8 _ (by omega)]; omega⟩)
  · exact Or.inr (Or.inr ⟨_, _, _, _, rfl, by rw [M1.toNat_u8 _ (by omega)]; omega⟩)

set_option maxHeartbeats 1000000 in
theorem validRune (r : Int) (w : World) (h0 : 128 ≤ r) (h1 : r ≤ 1114111) (hs : r < 55296 ∨ 57343 < r) :
    Calls Try.prog 109 #[.int .i32 r] w fun e w' => e = .returned (.bool true) ∧ w' = w := by
  rcases hs with hs | hs
  · go_enter Try.func109, Try.ntmps109
    go_wp2
    go_ret
    exact ⟨rfl, rfl⟩
  · have hd : decide (r < 55296) = false := decide_eq_false (by omega)
    go_enter Try.func109, Try.ntmps109
    go_wp2
    go_ret
    exact ⟨rfl, rfl⟩
theorem quiet_add_same {P : Program} {f : FuncId} {args : Array Value} {w : World} {a n : Nat} {v : Value}
    (h : Calls P f args (w.drewN (a + n)) fun e w' => e = .returned v ∧ w' = w.drewN (a + n)) :
    Calls P f args (w.drewN (a + n)) fun e w'' => e = .returned v ∧ ∃ m, w'' = w.drewN (a + m) :=
  h.mono fun _ _ ⟨he, hm⟩ => ⟨he, n, hm⟩
theorem below_drewN {B : Nat} {a w : World} (h : Below B a w) (n : Nat) : Below B a (w.drewN n) := ⟨h.os, h.tape, h.output, h.size, h.block⟩

theorem sIndexByteHigh (s : ByteArray) (b : UInt8) (w : World) (hb : 128 ≤ b.toNat) (hs : s.data.toList.all (fun x => decide (x.toNat < 128)) = true) :
    Calls Try.prog 108 #[.string s, .int .u8 (b.toNat : Int)] w fun e w' => e = .returned (.int .i64 (-1)) ∧ w' = w :=
  (sIndexByte s b.toNat w).mono fun e w' ⟨h1, h2⟩ => ⟨by
    rw [h1]
    simp only [Int.toNat_natCast, Nat.toUInt8_eq, UInt8.ofNat_toNat]
    rw [M2.indexByte_no]
    intro hm
    have := of_decide_eq_true (List.all_eq_true.1 hs _ hm)
    omega, h2⟩

set_option maxHeartbeats 4000000 in
set_option maxRecDepth 100000 in
theorem indexRune7_two (r : Int) (a b : UInt8) (w : World) (h0 : 128 ≤ r) (h1 : r ≤ 1114111) (hb : (r == 65533) = false) (hs : r < 55296 ∨ 57343 < r) (he : Utf8.encode r = ⟨#[a, b]⟩) (hbb : 128 ≤ b.toNat) :
    Calls Try.prog 104 #[.string c7, .int .i32 r] w fun e w' => e = .returned (.int .i64 (-1)) ∧ Below w.heap.size w w' := by
  have hd : decide (r < 128) = false := decide_eq_false (by omega)
  have hv := Lib.hid (fun w => validRune r w h0 h1 hs)
  clear hs
  go_enter Try.func104, Try.ntmps104
  go_wp2_with (go_at_call 109; refine (hv.out _).mono ?_; rintro e w1 ⟨rfl, rfl⟩)
  go_step3
  go_wp2_with (go_at_call 109; refine (hv.out _).mono ?_; rintro e w1 ⟨rfl, rfl⟩)
  go_loop [9] (fun i => i = .int .i64 1) (fun _ => 0)
  case atStart => rfl
  case round =>
    obtain rfl := hrel
    have hq : (((c7[1]'(by decide)).toNat : Int) != (((⟨#[a, b]⟩ : ByteArray)[1]'(by show 1 < 2; decide)).toNat : Int)) = true := by
      show ((10 : Int) != (b.toNat : Int)) = true
      simp; omega
    go_wp2
    go_step3
    go_wp2
    go_quiet (fail)
    go_wp2
    go_quiet ((go_at_call 108; exact quiet_add_same (sIndexByteHigh _ _ _ hbb (by decide))))
    go_wp2
    rw [Exit.noGoto_ret]
    go_wp2
    rw [Exit.noGoto_ret]
    go_wp2
    go_ret
    exact ⟨rfl, ⟨rfl, rfl, rfl, Nat.le_refl _, fun _ _ => rfl⟩⟩
set_option maxHeartbeats 4000000 in
set_option maxRecDepth 100000 in
theorem indexRune7_three (r : Int) (a b c : UInt8) (w : World) (h0 : 128 ≤ r) (h1 : r ≤ 1114111) (hb : (r == 65533) = false) (hs : r < 55296 ∨ 57343 < r) (he : Utf8.encode r = ⟨#[a, b, c]⟩) (hbb : 128 ≤ c.toNat) :
    Calls Try.prog 104 #[.string c7, .int .i32 r] w fun e w' => e = .returned (.int .i64 (-1)) ∧ Below w.heap.size w w' := by
  have hd : decide (r < 128) = false := decide_eq_false (by omega)
  have hv := Lib.hid (fun w => validRune r w h0 h1 hs)
  clear hs
  go_enter Try.func104, Try.ntmps104
  go_wp2_with (go_at_call 109; refine (hv.out _).mono ?_; rintro e w1 ⟨rfl, rfl⟩)
  go_step3
  go_wp2_with (go_at_call 109; refine (hv.out _).mono ?_; rintro e w1 ⟨rfl, rfl⟩)
  go_loop [9] (fun i => i = .int .i64 2) (fun _ => 0)
  case atStart => rfl
  case round =>
    obtain rfl := hrel
    have hq : (((c7[2]'(by decide)).toNat : Int) != (((⟨#[a, b, c]⟩ : ByteArray)[2]'(by show 2 < 3; decide)).toNat : Int)) = true := by
      show ((12 : Int) != (c.toNat : Int)) = true
      simp; omega
    go_wp2
    go_step3
    go_wp2
    go_quiet (fail)
    go_wp2
    go_quiet ((go_at_call 108; exact quiet_add_same (sIndexByteHigh _ _ _ hbb (by decide))))
    go_wp2
    rw [Exit.noGoto_ret]
    go_wp2
    rw [Exit.noGoto_ret]
    go_wp2
    go_ret
    exact ⟨rfl, ⟨rfl, rfl, rfl, Nat.le_refl _, fun _ _ => rfl⟩⟩
set_option maxHeartbeats 4000000 in
set_option maxRecDepth 100000 in
theorem indexRune7_four (r : Int) (a b c d : UInt8) (w : World) (h0 : 128 ≤ r) (h1 : r ≤ 1114111) (hb : (r == 65533) = false) (hs : r < 55296 ∨ 57343 < r) (he : Utf8.encode r = ⟨#[a, b, c, d]⟩) (hbb : 128 ≤ d.toNat) :
    Calls Try.prog 104 #[.string c7, .int .i32 r] w fun e w' => e = .returned (.int .i64 (-1)) ∧ Below w.heap.size w w' := by
  have hd : decide (r < 128) = false := decide_eq_false (by omega)
  have hv := Lib.hid (fun w => validRune r w h0 h1 hs)
  clear hs
  go_enter Try.func104, Try.ntmps104
  go_wp2_with (go_at_call 109; refine (hv.out _).mono ?_; rintro e w1 ⟨rfl, rfl⟩)
  go_step3
  go_wp2_with (go_at_call 109; refine (hv.out _).mono ?_; rintro e w1 ⟨rfl, rfl⟩)
  go_loop [9] (fun i => i = .int .i64 3) (fun _ => 0)
  case atStart => rfl
  case round =>
    obtain rfl := hrel
    have hq : (((c7[3]'(by decide)).toNat : Int) != (((⟨#[a, b, c, d]⟩ : ByteArray)[3]'(by show 3 < 4; decide)).toNat : Int)) = true := by
      show ((32 : Int) != (d.toNat : Int)) = true
      simp; omega
    go_wp2
    go_step3
    go_wp2
    go_quiet (fail)
    go_wp2
    go_quiet ((go_at_call 108; exact quiet_add_same (sIndexByteHigh _ _ _ hbb (by decide))))
    go_wp2
    rw [Exit.noGoto_ret]
    go_wp2
    rw [Exit.noGoto_ret]
    go_wp2
    go_ret
    exact ⟨rfl, ⟨rfl, rfl, rfl, Nat.le_refl _, fun _ _ => rfl⟩⟩
set_option maxHeartbeats 4000000 in
set_option maxRecDepth 100000 in
theorem indexRune7_bad (w : World) :
    Calls Try.prog 104 #[.string c7, .int .i32 65533] w fun e w' => e = .returned (.int .i64 (-1)) ∧ Below w.heap.size w w' := by
  go_enter Try.func104, Try.ntmps104
  go_wp2
  go_loopw [] (fun wr => ∃ p : Nat, p ≤ 7 ∧ wr.heap[w.heap.size]? = some (.stringIter c7 p) ∧ Below w.heap.size w wr) (fun wr => 7 - wr.iterPos w.heap.size)
  case atStart => exact ⟨0, by omega, World.iter_heap w c7 0, (Below.refl _ w).alloc (Nat.le_refl _) _⟩
  case round =>
    obtain ⟨p, hpl, hit, hbw⟩ := hrel
    have hsz : w.heap.size < wr.heap.size := (Array.getElem?_eq_some_iff.1 hit).1
    by_cases hp : p < 7
    · have hnx := next_dec (P := Try.prog) wr w.heap.size c7 p hit hp
      have hd : ∃ x : Nat, M1.dec (c7.data.toList.drop p) = (x, 1) ∧ x < 128 := by
        have : p = 0 ∨ p = 1 ∨ p = 2 ∨ p = 3 ∨ p = 4 ∨ p = 5 ∨ p = 6 := by omega
        rcases this with rfl | rfl | rfl | rfl | rfl | rfl | rfl <;> exact ⟨_, M2.dec_lo _ _ (by decide), by decide⟩
      obtain ⟨x, hx, hx2⟩ := hd
      rw [hx] at hnx
      have hbw1 := Lib.below_iterAt hbw (Nat.le_refl _) c7 (p + 1)
      have hit1 := Lib.iterAt_heap wr w.heap.size c7 p (p + 1) hit
      simp only at hnx
      generalize wr.iterAt w.heap.size c7 (p + 1) = w1 at *
      have hne : ((x : Int) == 65533) = false := by simp; omega
      clear hx
      go_wp2
      go_roundw
      case rel => exact ⟨p + 1, by omega, hit1, hbw1⟩
      case measure => rw [iterPos_of hit1, iterPos_of hit]; omega
    · have hnx := fun ty => Lib.run_next_end_at (P := Try.prog) wr w.heap.size c7 p ty hit (by show ¬ p < 7; omega)
      go_wp2
      try rw [Exit.noGoto_ret]
      go_wp2
      go_ret
      exact ⟨rfl, hbw⟩

/-- strings.IndexRune at the seven signs: any character. -/
theorem indexRune7 (r : Int) (w : World) (h0 : 0 ≤ r) (hs : r < 55296 ∨ 57343 < r) (h1 : r ≤ 1114111) :
    Calls Try.prog 104 #[.string c7, .int .i32 r] w fun e w' => ∃ z : Int, e = .returned (.int .i64 z) ∧ decide (0 ≤ z) = (decide (r < 128) && M3.badB r.toNat.toUInt8) ∧ Below w.heap.size w w' := by
  by_cases h128 : r < 128
  · refine (Try.strings_IndexRune_ascii c7 r w h0 h128).mono fun e w' ⟨h2, h3⟩ => ⟨_, h2, ?_, by rw [h3]; exact Below.refl _ _⟩
    rw [M3.badB_eq, Lib.contains_iff_indexByte, decide_eq_true h128, Bool.true_and]
  · have hd : (decide (r < 128) && M3.badB r.toNat.toUInt8) = false := by rw [decide_eq_false h128]; rfl
    rw [hd]
    by_cases hb : r = 65533
    · subst hb
      exact (indexRune7_bad w).mono fun e w' ⟨h2, h3⟩ => ⟨_, h2, rfl, h3⟩
    · have hbb : (r == 65533) = false := by simpa using hb
      rcases encode_high r (by omega) h1 hs with ⟨a, b, he, h⟩ | ⟨a, b, c, he, h⟩ | ⟨a, b, c, d, he, h⟩
      · exact (indexRune7_two r a b w (by omega) h1 hbb hs he h).mono fun e w' ⟨h2, h3⟩ => ⟨_, h2, rfl, h3⟩
      · exact (indexRune7_three r a b c w (by omega) h1 hbb hs he h).mono fun e w' ⟨h2, h3⟩ => ⟨_, h2, rfl, h3⟩
      · exact (indexRune7_four r a b c d w (by omega) h1 hbb hs he h).mono fun e w' ⟨h2, h3⟩ => ⟨_, h2, rfl, h3⟩
end Go.Proofs.Ytjelmpajphajfaa

/- strings.ContainsAny at the seven signs; attributes' names; the reference's names. -/
namespace Go.Proofs.Ytjelmpajphajfaa
open Go.RowKit

def AnyPost (l : List UInt8) (w : World) (e : Ending) (w' : World) : Prop := ∃ z : Int, e = .returned (.int .i64 z) ∧ decide (0 ≤ z) = l.any M3.badB ∧ Below w.heap.size w w'

theorem zero86 : ∀ w, (zeroValue 104).run Try.prog w = .ok (.agg (Array.replicate 256 (.bool false))) w := by
  intro w; kernel_rfl

set_option maxHeartbeats 1000000 in
theorem useASCII (n : Nat) (w : World) (h : n ≤ 8) : Calls Try.prog 105 #[.int .i64 (n : Int)] w fun e w' => e = .returned (.bool false) ∧ w = w' := by
  have hd : decide (8 < (n : Int)) = false := decide_eq_false (by omega)
  go_enter Try.func105, Try.ntmps105
  go_wp2
  go_ret
  exact ⟨rfl, rfl⟩

set_option maxHeartbeats 2000000 in
set_option maxRecDepth 100000 in
theorem indexAny7_short (s : ByteArray) (w : World) (hs : s.size ≤ 8) :
    Calls Try.prog 103 #[.string s, .string c7] w (AnyPost s.data.toList w) := by
  have hsz : s.size = s.data.toList.length := rfl
  generalize hl : s.data.toList = l at *
  go_enter Try.func103, Try.ntmps103
  go_wp2_with (go_at_call 105; refine (useASCII _ _ (by omega)).mono ?_; rintro e w1 ⟨rfl, rfl⟩)
  go_loopw [] (fun wr => ∃ p : Nat, p ≤ l.length ∧ wr.heap[w.heap.size]? = some (.stringIter s p) ∧ Below w.heap.size w wr ∧ Hid (l.any M3.badB = (l.drop p).any M3.badB)) (fun wr => l.length - wr.iterPos w.heap.size)
  case atStart => exact ⟨0, by omega, World.iter_heap w s 0, (Below.refl _ w).alloc (Nat.le_refl _) _, rfl⟩
  case round =>
    obtain ⟨p, hpl, hit, hbw, hB⟩ := hrel
    have hsz0 : w.heap.size < wr.heap.size := (Array.getElem?_eq_some_iff.1 hit).1
    by_cases hp : p < l.length
    · have hdr : l.drop p = l[p] :: l.drop (p + 1) := List.drop_eq_getElem_cons hp
      have hnx := next_dec (P := Try.prog) wr w.heap.size s p hit (by omega)
      have hle := M1.dec_le (l.drop p) (drop_ne hp)
      have hpos := M1.dec_pos (l.drop p) (drop_ne hp)
      rw [List.length_drop] at hle
      have hok := M1.runes_ok _ (l.drop p) (Nat.le_refl _) _ (by rw [M1.runes_step _ (drop_ne hp)]; exact List.mem_cons_self)
      unfold M1.okRune at hok
      have hskip := M3.any_skip l[p] (l.drop (p + 1))
      have hlo := M2.dec_lo l[p] (l.drop (p + 1))
      have hhi := M2.dec_hi l[p] (l.drop (p + 1))
      have hst : (l.drop p).any M3.badB = (M3.badB l[p] || (l.drop (p + 1)).any M3.badB) := by rw [hdr]; rfl
      rw [← hdr] at hskip hlo hhi
      rw [hl] at hnx
      generalize l[p] = c at *
      have hd2 := fun n => List.drop_drop (i := n) (j := p) (l := l)
      replace hd2 := Lib.hid hd2
      generalize M1.dec (l.drop p) = rw_ at *
      obtain ⟨r, wd⟩ := rw_
      simp only at hnx hhi hle hpos hok hskip
      have hbw1 := Lib.below_iterAt hbw (Nat.le_refl _) s (p + wd)
      have hit1 := Lib.iterAt_heap wr w.heap.size s p (p + wd) hit
      generalize wr.iterAt w.heap.size s (p + wd) = w1 at *
      have hsz1 : w.heap.size < w1.heap.size := (Array.getElem?_eq_some_iff.1 hit1).1
      clear hdr hl
      replace hst := Lib.hid (hB.out.trans hst)
      have hir := Lib.hid (fun W => indexRune7 (r : Int) W (by omega) (by omega) (by omega))
      rcases Nat.lt_or_ge c.toNat 128 with h1 | h1
      · have hrw := hlo h1
        simp only [Prod.mk.injEq] at hrw
        obtain ⟨rfl, rfl⟩ := hrw
        have hcc : (decide ((c.toNat : Int) < 128) && M3.badB (c.toNat : Int).toNat.toUInt8) = M3.badB c := by
          rw [decide_eq_true (by omega), Bool.true_and]; simp
        replace hcc := Lib.hid hcc
        clear hlo hhi hskip
        cases hbad : M3.badB c
        · rw [hbad, Bool.false_or] at hst
          rw [hbad] at hcc
          go_wp2_with fail
          refine (hir.out _).mono ?_
          rintro e w2 ⟨z, rfl, hz, hb2⟩
          rw [hcc.out] at hz
          have hz2 : z < 0 := by have := of_decide_eq_false hz; omega
          clear hz
          have hit2 := (hb2.block w.heap.size hsz1).trans hit1
          have hbw2 := hbw1.trans (hb2.mono (by omega))
          go_wp2
          go_roundw
          case rel => exact ⟨p + 1, by omega, hit2, hbw2, hst⟩
          case measure => rw [iterPos_of hit2, iterPos_of hit]; omega
        · rw [hbad, Bool.true_or] at hst
          rw [hbad] at hcc
          go_wp2_with fail
          refine (hir.out _).mono ?_
          rintro e w2 ⟨z, rfl, hz, hb2⟩
          rw [hcc.out] at hz
          have hz2 : 0 ≤ z := of_decide_eq_true hz
          clear hz
          have hbw2 := hbw1.trans (hb2.mono (by omega))
          go_wp2
          go_ret
          exact ⟨_, rfl, by rw [hst.out]; exact decide_eq_true (by omega), hbw2⟩
      · replace hhi := hhi h1
        replace hskip := Lib.hid ((hB.out.trans (hskip h1)).trans (by rw [hd2.out]))
        clear hlo hst hB
        go_wp2_with fail
        refine (hir.out _).mono ?_
        rintro e w2 ⟨z, rfl, hz, hb2⟩
        rw [decide_eq_false (by omega : ¬ (r : Int) < 128), Bool.false_and] at hz
        have hz2 : z < 0 := by have := of_decide_eq_false hz; omega
        clear hz
        have hit2 := (hb2.block w.heap.size hsz1).trans hit1
        have hbw2 := hbw1.trans (hb2.mono (by omega))
        go_wp2
        go_roundw
        case rel => exact ⟨p + wd, by omega, hit2, hbw2, hskip⟩
        case measure => rw [iterPos_of hit2, iterPos_of hit]; omega
    · have hnx := fun ty => Lib.run_next_end_at (P := Try.prog) wr w.heap.size s p ty hit (by omega)
      go_wp2
      go_ret
      exact ⟨_, rfl, by rw [hB.out, List.drop_of_length_le (by omega)]; rfl, hbw⟩

theorem indexAny7 (s : ByteArray) (w : World) (hs : s.size < 4294967281) :
    Calls Try.prog 103 #[.string s, .string c7] w (AnyPost s.data.toList w) := by
  by_cases h : s.size ≤ 8
  · exact indexAny7_short s w h
  · exact (Try.strings_IndexAny_long zero86 s c7 w (by decide) (by omega) hs (by decide) (by intro j b hb; match j, hb with | 0, hb | 1, hb | 2, hb | 3, hb | 4, hb | 5, hb | 6, hb => cases hb; decide)).mono fun e w' ⟨h1, h2⟩ =>
      ⟨_, h1, M3.indexAny_bad _, by rw [h2]; exact ((Below.refl _ w).alloc (Nat.le_refl _) _).alloc (by simp) _⟩

set_option maxHeartbeats 1000000 in
theorem containsAny7 (s : ByteArray) (w : World) (hs : s.size < 4294967281) :
    Calls Try.prog 100 #[.string s, .string c7] w fun e w' => e = .returned (.bool (s.data.toList.any M3.badB)) ∧ Below w.heap.size w w' := by
  have h := Lib.hid (fun W => indexAny7 s W hs)
  go_enter Try.func100, Try.ntmps100
  go_wp2_with fail
  refine (h.out _).mono ?_
  rintro e w1 ⟨z, rfl, hz, hb⟩
  replace hz := Lib.hid hz
  go_wp2
  go_ret
  exact ⟨by rw [← hz.out]; rfl, hb⟩

set_option maxHeartbeats 2000000 in
set_option maxRecDepth 100000 in
theorem domAttributed (s : ByteArray) (w : World) (hs : s.size ≤ 268435456) :
    Calls Try.prog 95 #[.string s] w fun e w' => e = .returned (.bool (M3.attributedB s.data.toList)) ∧ Below w.heap.size w w' := by
  have hS := Lib.hid hs
  have hI := Lib.hid (fun W => utfIs s W (by omega))
  have hF := Lib.hid (fun W => utfFold s W (by omega))
  have hC := Lib.hid (fun W => containsAny7 s W (by omega))
  have hf : ((⟨(M1.fold s.data.toList).toArray⟩ : ByteArray).toList == s.toList) = !(s.data.toList.any M3.capB) := by
    rw [← M3.fold_same, Lib.toList_data, Lib.toList_data]
  have hr : Hid (M3.attributedB s.data.toList = (!s.toList.isEmpty && (M1.isB s.data.toList && !(s.data.toList.any M3.capB) && !(s.data.toList.any M3.badB)))) := by
    show _ = _
    rw [Lib.toList_data]; rfl
  generalize (⟨(M1.fold s.data.toList).toArray⟩ : ByteArray) = F at *
  generalize M1.isB s.data.toList = b1 at *
  generalize s.data.toList.any M3.capB = b2 at *
  generalize s.data.toList.any M3.badB = b3 at *
  clear hs
  by_cases he : s.toList = []
  · have he2 : s.toList.isEmpty = true := by rw [he]; rfl
    have hr2 : Hid (M3.attributedB s.data.toList = false) := by
      show _ = _
      rw [hr.out, he2]; rfl
    clear hr hf
    go_enter Try.func95, Try.ntmps95
    go_wp2
    go_ret
    exact ⟨by rw [hr2.out]; rfl, Below.refl _ _⟩
  have he2 : s.toList.isEmpty = false := by cases h : s.toList with | nil => exact absurd h he | cons _ _ => rfl
  rw [he2] at hr
  cases b1
  · go_enter Try.func95, Try.ntmps95
    go_wp2_with fail
    refine (hI.out _).mono ?_
    rintro e w1 ⟨rfl, hb1⟩
    go_wp2
    go_ret
    exact ⟨by rw [hr.out]; rfl, hb1⟩
  cases b2
  · go_enter Try.func95, Try.ntmps95
    go_wp2_with fail
    refine (hI.out _).mono ?_
    rintro e w1 ⟨rfl, hb1⟩
    go_wp2_with fail
    refine (hF.out _).mono ?_
    rintro e w2 ⟨rfl, hb2⟩
    go_wp2_with fail
    refine (hC.out _).mono ?_
    rintro e w3 ⟨rfl, hb3⟩
    go_wp2
    go_ret
    exact ⟨by rw [hr.out]; cases b3 <;> rfl, bt (bt hb1 hb2) hb3⟩
  · go_enter Try.func95, Try.ntmps95
    go_wp2_with fail
    refine (hI.out _).mono ?_
    rintro e w1 ⟨rfl, hb1⟩
    go_wp2_with fail
    refine (hF.out _).mono ?_
    rintro e w2 ⟨rfl, hb2⟩
    go_wp2
    go_ret
    exact ⟨by rw [hr.out]; rfl, bt hb1 hb2⟩

def restB (l : List UInt8) : Bool := !(l.any M3.capB) && !(l.any M3.badB)
theorem restB_drop (s : ByteArray) (i : Nat) (h : i < s.size) : restB (s.data.toList.drop i) = (!(M3.capB s[i]) && !(M3.badB s[i]) && restB (s.data.toList.drop (i + 1))) := by
  have hsz : s.size = s.data.toList.length := rfl
  unfold restB
  rw [List.drop_eq_getElem_cons (show i < s.data.toList.length by omega), List.any_cons, List.any_cons]
  show (!(M3.capB s[i] || _) && !(M3.badB s[i] || _)) = _
  cases M3.capB s[i] <;> cases M3.badB s[i] <;> simp

set_option maxHeartbeats 4000000 in
set_option maxRecDepth 100000 in
theorem ref03Attributed (s : ByteArray) (w : World) (hs : s.size ≤ 268435456) :
    Calls Try.prog 91 #[.string s] w fun e w' => e = .returned (.bool (M3.attributedB s.data.toList)) ∧ Below w.heap.size w w' := by
  have hsz : Hid (s.size = s.data.toList.length) := rfl
  have hr : Hid (M3.attributedB s.data.toList = (!s.data.toList.isEmpty && (M1.isB s.data.toList && restB s.data.toList))) := by
    show _ = _
    unfold M3.attributedB restB
    rw [Bool.and_assoc]
  have hI := ref01Is s w hs
  generalize M1.isB s.data.toList = b1 at *
  go_enter Try.func91, Try.ntmps91
  go_wp2_with fail
  refine hI.mono ?_
  rintro e w1 ⟨rfl, hb1⟩
  go_wp2
  go_loopw [4] (fun u4 wr => ∃ i : Nat, i ≤ s.size ∧ u4 = .int .i64 (i : Int) ∧ w1 = wr ∧ Hid (restB s.data.toList = restB (s.data.toList.drop i))) (fun u4 _ => s.size - (intOf u4).toNat)
  case atStart => exact ⟨0, by omega, rfl, rfl, rfl⟩
  case round =>
    obtain ⟨i, hi, rfl, rfl, hB⟩ := hrel
    by_cases hlt : i < s.size
    · have hst := Lib.hid (hB.out.trans (restB_drop s i hlt))
      clear hB
      have hcap : Hid (M3.capB s[i] = decide (65 ≤ s[i].toNat ∧ s[i].toNat ≤ 90)) := rfl
      have hbad : Hid (M3.badB s[i] = (s[i].toNat == 9 || s[i].toNat == 10 || s[i].toNat == 12 || s[i].toNat == 32 || s[i].toNat == 47 || s[i].toNat == 62 || s[i].toNat == 61)) := rfl
      have hc := s[i].toNat_lt
      generalize hn : s[i].toNat = n at *
      generalize M3.capB s[i] = p at *
      generalize M3.badB s[i] = q at *
      have hno : (p || q) = true → Hid (M3.attributedB s.data.toList = false) := by
        intro h
        show _ = _
        rw [hr.out, hst.out]
        cases p <;> cases q <;> simp_all
      by_cases h1 : 65 ≤ n ∧ n ≤ 90
      · replace hno := hno (by rw [hcap.out, decide_eq_true h1]; rfl)
        clear hcap hbad hst
        obtain ⟨h1, h2⟩ := h1
        go_wp2
        go_ret
        exact ⟨by rw [hno.out]; rfl, hb1⟩
      by_cases h2 : n = 9 ∨ n = 10 ∨ n = 12 ∨ n = 32 ∨ n = 47 ∨ n = 62 ∨ n = 61
      · replace hno := hno (by rw [hbad.out]; simp; omega)
        clear hcap hbad hst h1
        rcases h2 with rfl | rfl | rfl | rfl | rfl | rfl | rfl <;> (go_wp2; go_ret; exact ⟨by rw [hno.out]; rfl, hb1⟩)
      · have hp : p = false := by rw [hcap.out]; exact decide_eq_false h1
        have hq : q = false := by rw [hbad.out]; simp; omega
        clear hno hcap hbad
        subst hp
        subst hq
        have e1 : ((n : Int) == 9) = false := by simp; omega
        have e2 : ((n : Int) == 10) = false := by simp; omega
        have e3 : ((n : Int) == 12) = false := by simp; omega
        have e4 : ((n : Int) == 32) = false := by simp; omega
        have e5 : ((n : Int) == 47) = false := by simp; omega
        have e6 : ((n : Int) == 62) = false := by simp; omega
        have e7 : ((n : Int) == 61) = false := by simp; omega
        clear h2
        by_cases h3 : 65 ≤ n
        · have hd : decide ((n : Int) ≤ 90) = false := decide_eq_false (by omega)
          go_wp2
          go_roundw
          case rel => exact ⟨i + 1, by omega, by go_num, by trivial, by rw [hst.out]; rfl⟩
          case measure => simp [intOf]; omega
        · go_wp2
          go_roundw
          case rel => exact ⟨i + 1, by omega, by go_num, by trivial, by rw [hst.out]; rfl⟩
          case measure => simp [intOf]; omega
    · have h0 : restB (s.data.toList.drop i) = true := by rw [List.drop_of_length_le (by have := hsz.out; omega)]; rfl
      replace hr := Lib.hid ((hr.out).trans (by rw [hB.out, h0]))
      clear h0 hB
      cases b1
      · go_wp2
        go_ret
        exact ⟨by rw [hr.out]; simp, hb1⟩
      · by_cases h0 : 0 < s.size
        · go_wp2
          go_ret
          refine ⟨?_, hb1⟩
          rw [hr.out]
          have : s.data.toList.isEmpty = false := by rw [← Bool.not_eq_true, List.isEmpty_iff]; intro h; have := hsz.out; rw [h, List.length_nil] at this; omega
          rw [this]; simp
        · have h00 : s.size = 0 := by omega
          have : s.data.toList.isEmpty = true := by rw [List.isEmpty_iff]; exact List.eq_nil_of_length_eq_zero (by rw [← hsz.out]; exact h00)
          rw [this] at hr
          clear this h00
          go_wp2
          go_ret
          exact ⟨by rw [hr.out]; rfl, hb1⟩

set_option maxHeartbeats 4000000 in
set_option maxRecDepth 100000 in
theorem ref03Named (s : ByteArray) (w : World) (hs : s.size ≤ 9223372036854775807) :
    Calls Try.prog 90 #[.string s] w fun e w' => e = .returned (.bool (M3.namedB s.data.toList)) ∧ w = w' := by
  have hsz : Hid (s.size = s.data.toList.length) := rfl
  by_cases h0 : s.size = 0
  · have : s.data.toList = [] := List.eq_nil_of_length_eq_zero (by rw [← hsz.out]; exact h0)
    have hr : Hid (M3.namedB s.data.toList = false) := by show _ = _; rw [this]; rfl
    clear this
    go_enter Try.func90, Try.ntmps90
    go_wp2
    go_ret
    exact ⟨by rw [hr.out]; rfl, rfl⟩
  have hz : ((s.size : Int) == 0) = false := by simpa using h0
  have hpos : 0 < s.size := by omega
  have hr : Hid (M3.namedB s.data.toList = (M3.smallB s[0] && (s.data.toList.drop 0).all M3.nameB)) := by
    show _ = _
    have hl := hsz.out
    obtain ⟨c, r, hd⟩ := List.exists_cons_of_ne_nil (show s.data.toList ≠ [] by intro h; rw [h, List.length_nil] at hl; omega)
    have h1 : s[0] = c := by
      show s.data.toList[0]'(by omega) = c
      simp [hd]
    rw [h1, List.drop_zero, hd]
    show (M3.smallB c && r.all M3.nameB) = (M3.smallB c && (M3.nameB c && r.all M3.nameB))
    unfold M3.nameB
    cases M3.smallB c <;> simp
  have hs0 := Lib.hid (fun W => ref03Small s[0] W)
  generalize M3.smallB s[0] = f at *
  go_enter Try.func90, Try.ntmps90
  go_wp2_with fail
  refine (hs0.out _).mono ?_
  rintro e w1 ⟨rfl, hw⟩
  rw [hw]
  clear hw w1
  go_wp2
  go_loopw [4] (fun u4 wr => ∃ i : Nat, i ≤ s.size ∧ u4 = .int .i64 (i : Int) ∧ w = wr ∧ Hid (M3.namedB s.data.toList = (f && (s.data.toList.drop i).all M3.nameB))) (fun u4 _ => s.size - (intOf u4).toNat)
  case atStart => exact ⟨0, by omega, rfl, rfl, hr.out⟩
  case round =>
    obtain ⟨i, hi, rfl, rfl, hB⟩ := hrel
    by_cases hlt : i < s.size
    · have hst : (s.data.toList.drop i).all M3.nameB = (M3.nameB s[i] && (s.data.toList.drop (i + 1)).all M3.nameB) := by
        rw [List.drop_eq_getElem_cons (show i < s.data.toList.length by have := hsz.out; omega), List.all_cons]; rfl
      replace hst := Lib.hid (hB.out.trans (by rw [hst]))
      have hsi := Lib.hid (fun W => ref03Small s[i] W)
      have hnm : Hid (M3.nameB s[i] = (M3.smallB s[i] || decide (s[i].toNat = 45 ∨ (48 ≤ s[i].toNat ∧ s[i].toNat ≤ 57)))) := rfl
      clear hB hr
      generalize M3.smallB s[i] = p at *
      generalize M3.nameB s[i] = q at *
      have hc := s[i].toNat_lt
      cases p
      · by_cases h1 : s[i].toNat = 45 ∨ (48 ≤ s[i].toNat ∧ s[i].toNat ≤ 57)
        · have hq : q = true := by rw [hnm.out, decide_eq_true h1]; rfl
          subst hq
          clear hnm
          rcases h1 with h1 | ⟨h1, h2⟩
          · have e1 : ((s[i].toNat : Int) != 45) = false := by rw [h1]; rfl
            have e2 : decide ((s[i].toNat : Int) < 48) = true := decide_eq_true (by omega)
            clear h1
            go_wp2_with fail
            refine (hsi.out _).mono ?_
            rintro e w1 ⟨rfl, hw⟩
            rw [hw]
            clear hw w1
            go_wp2
            go_roundw
            case rel => exact ⟨i + 1, by omega, by go_num, by trivial, by show _ = _; rw [hst.out]; simp⟩
            case measure => simp [intOf]; omega
          · go_wp2_with fail
            refine (hsi.out _).mono ?_
            rintro e w1 ⟨rfl, hw⟩
            rw [hw]
            clear hw w1
            go_wp2
            go_roundw
            case rel => exact ⟨i + 1, by omega, by go_num, by trivial, by show _ = _; rw [hst.out]; simp⟩
            case measure => simp [intOf]; omega
        · have hq : q = false := by rw [hnm.out, decide_eq_false h1]; rfl
          subst hq
          clear hnm
          have e1 : ((s[i].toNat : Int) != 45) = true := by simp; omega
          have hno : Hid (M3.namedB s.data.toList = false) := by show _ = _; rw [hst.out]; simp
          clear hst
          by_cases h2 : s[i].toNat < 48
          · go_wp2_with fail
            refine (hsi.out _).mono ?_
            rintro e w1 ⟨rfl, hw⟩
            rw [hw]
            clear hw w1
            go_wp2
            go_ret
            exact ⟨by rw [hno.out]; rfl, by trivial⟩
          · have e2 : decide ((s[i].toNat : Int) < 48) = false := decide_eq_false (by omega)
            have e3 : decide (57 < (s[i].toNat : Int)) = true := decide_eq_true (by omega)
            clear h1
            go_wp2_with fail
            refine (hsi.out _).mono ?_
            rintro e w1 ⟨rfl, hw⟩
            rw [hw]
            clear hw w1
            go_wp2
            go_ret
            exact ⟨by rw [hno.out]; rfl, by trivial⟩
      · have hq : q = true := by rw [hnm.out]; rfl
        subst hq
        clear hnm
        go_wp2_with fail
        refine (hsi.out _).mono ?_
        rintro e w1 ⟨rfl, hw⟩
        rw [hw]
        clear hw w1
        go_wp2
        go_roundw
        case rel => exact ⟨i + 1, by omega, by go_num, by trivial, by show _ = _; rw [hst.out]; simp⟩
        case measure => simp [intOf]; omega
    · have h0 : (s.data.toList.drop i).all M3.nameB = true := by rw [List.drop_of_length_le (by have := hsz.out; omega)]; rfl
      have hB2 := Lib.hid (hB.out.trans (by rw [h0, Bool.and_true]))
      clear h0 hB hr
      go_wp2
      go_ret
      exact ⟨by rw [hB2.out]; rfl, by trivial⟩
end Go.Proofs.Ytjelmpajphajfaa

/- A node's own error by its fields; more plain facts on nodes. -/
namespace Go.Proofs.Ytjelmpajphajfaa
namespace M3
/-! ### The fields, one by one -/
def plainF (n : ByteArray) (ats : List Att) (ks : List Nd) : Bool := nilB n && ats.isEmpty && ks.isEmpty
def kindlyF (k : Int) (n : ByteArray) (ats : List Att) (t : ByteArray) (ks : List Nd) : Bool := if k = 1 then nilB t else if k = 2 ∨ k = 3 then plainF n ats ks else false
def elemF (n : ByteArray) (ats : List Att) : Int := if namedB n.data.toList then (if namesE [] ats = 0 then valuesE ats else namesE [] ats) else 4
def oneF (k : Int) (n : ByteArray) (ats : List Att) (t : ByteArray) (ks : List Nd) (p : Bool) : Int :=
  if kindlyF k n ats t ks then (if k = 1 then elemF n ats else if M1.isB t.data.toList && !(decide (k = 2) && (nilB t || p)) then 0 else 2) else 7
theorem oneE_mk (k : Int) (n : ByteArray) (ats : List Att) (t : ByteArray) (ks : List Nd) (p : Bool) : oneE (.mk k n ats t ks) p = oneF k n ats t ks p := by
  unfold oneE oneF kindlyF
  show (if k = 1 then elemE _ else if k = 2 then (if plainF n ats ks then (if M1.isB t.data.toList && !(nilB t || p) then 0 else 2) else 7) else if k = 3 then (if plainF n ats ks then (if M1.isB t.data.toList then 0 else 2) else 7) else 7) = _
  by_cases h1 : k = 1
  · rw [if_pos h1, if_pos h1, if_pos h1]
    rfl
  by_cases h2 : k = 2
  · rw [if_neg h1, if_pos h2, if_neg h1, if_pos (Or.inl h2), if_neg h1, decide_eq_true h2, Bool.true_and]
  by_cases h3 : k = 3
  · rw [if_neg h1, if_neg h2, if_pos h3, if_neg h1, if_pos (Or.inr h3), if_neg h1, decide_eq_false h2, Bool.false_and, Bool.not_false, Bool.and_true]
  · have hno : ¬ (k = 2 ∨ k = 3) := fun h => h.elim h2 h3
    rw [if_neg h1, if_neg h2, if_neg h3, if_neg h1, if_neg hno]
    rfl
end M3
end Go.Proofs.Ytjelmpajphajfaa

/- A map that a call makes by a literal: the insertion at the operation; a look-up with 'ok'; what a row of insertions holds. -/
namespace Go.Proofs.Ytjelmpajphajfaa
open Go.RowKit Go.Maps Go.WideShapes

/-- A map literal's next entry, at the operation. -/
theorem wpList_insert_own {H : Type} {P : Program} (w : World) {ops : Array Oper} {rest : List Oper} {o : Oper} {a : Act} {Q : Exit → Act → World → Prop}
    (hg : o.guard = none) (m x v : Operand) (t : TypeId) (hop : o.op = Op.insert t m x v)
    (k e : TypeId) (K : Keyed P k) (ht : P.underlying t = some (.map k e)) (R : Value → Option (DataW H × List MemPlace)) (b n : Nat) (D : DataW H)
    (hm : a.eval m = .map (some b)) (hown : w.ownsMap P k R b n D) (hn : n < maxLen) (key val : Value) (kl : Lit) (hx : a.eval x = key) (hv : a.eval v = val) (hkey : keyOf P k key = some kl)
    (d : DataW H) (ps : List MemPlace) (hval : R val = some (d, ps))
    (hK : ∀ w', w'.ownsMap P k R b (n + 1) (D.put kl d) → w.grownBy w' (some b) → wpList P ops Q rest (a.put o.dst undef) w') :
    wpList P ops Q (o :: rest) a w := by
  refine wpList_plain hg fun K' hK' => ?_
  obtain ⟨w', hrun, r1, r2⟩ := hown.update K ht hn hkey hval
  unfold Oper.wp
  simp [execOp, hop, hm, hx, hv, hrun, Result.andThen]
  exact hK' _ _ (hK w' r1 r2)

/-- The datum that a row of pairs makes, put in one by one (a later one wins). -/
def rowD (l : List (Lit × DataW Unit)) (D : DataW Unit) : DataW Unit := l.foldl (fun D p => D.put p.1 p.2) D
theorem rowD_isMap : ∀ (l : List (Lit × DataW Unit)) (D : DataW Unit), IsMap D → IsMap (rowD l D)
  | [], _, h => h
  | p :: l, _, h => rowD_isMap l _ (h.put p.1 p.2)
theorem rowD_has : ∀ (l : List (Lit × DataW Unit)) (D : DataW Unit) (k : Lit), IsMap D → (∀ p ∈ l, WideAt.IsKeyLit p.1) → Maps.has (rowD l D) k = (l.any (fun p => p.1.sameKey k) || Maps.has D k)
  | [], _, _, _, _ => by simp [rowD]
  | p :: l, D, k, h, hk => by
    have ih := rowD_has l (D.put p.1 p.2) k (h.put _ _) (fun q hq => hk q (by simp [hq]))
    show Maps.has (rowD l (D.put p.1 p.2)) k = _
    rw [ih, List.any_cons]
    by_cases e : p.1 = k
    · subst e
      rw [has_put_same h (hk p (by simp)), WideAt.sameKey_self (hk p (by simp))]
      simp
    · rw [has_put_other (fun h => e h.symm), sameKey_ne e]
      simp
theorem rowD_other : ∀ (l : List (Lit × DataW Unit)) (D z : DataW Unit) (k : Lit), (∀ p ∈ l, p.1 ≠ k) → (rowD l D).atKey k z = D.atKey k z
  | [], _, _, _, _ => rfl
  | p :: l, D, z, k, h => by
    show (rowD l (D.put p.1 p.2)).atKey k z = _
    rw [rowD_other l _ z k (fun q hq => h q (by simp [hq])), atKey_put_other (fun e => h p (by simp) e.symm)]
theorem rowD_at : ∀ (l : List (Lit × DataW Unit)) (D z : DataW Unit) (p : Lit × DataW Unit), IsMap D → (∀ p ∈ l, WideAt.IsKeyLit p.1) → l.Pairwise (fun p q => p.1 ≠ q.1) → p ∈ l → (rowD l D).atKey p.1 z = p.2
  | [], _, _, _, _, _, _, hp => by simp at hp
  | q :: l, D, z, p, h, hk, hd, hp => by
    obtain ⟨h1, h2⟩ := List.pairwise_cons.1 hd
    show (rowD l (D.put q.1 q.2)).atKey p.1 z = _
    rcases List.mem_cons.1 hp with rfl | hp
    · rw [rowD_other l _ z _ (fun q hq e => h1 q hq e.symm), atKey_put_same h (hk _ (by simp))]
    · exact rowD_at l _ z p (h.put _ _) (fun q hq => hk q (by simp [hq])) h2 hp
theorem ownsMap_below {P : Program} {k : TypeId} {R : Value → Option (DataW Unit × List MemPlace)} {w w' : World} {b n : Nat} {D : DataW Unit} (h : w.ownsMap P k R b n D) (hb : Below w.heap.size w w') : w'.ownsMap P k R b n D :=
  h.kept (row := none) ⟨hb.os, hb.tape, hb.output, hb.size, fun k hk _ => hb.block k hk⟩ (by simp)

/-- 'v, ok := m[k]' of a map to numbers: an equation for the walk. -/
theorem look_ok_int {P : Program} {w : World} {b n : Nat} {D : DataW Unit} {t k e : TypeId} {q : IntKind} (h : w.ownsMap P k (plainElem P e) b n D) (K : Keyed P k) (ht : P.underlying t = some (.map k e)) (he : P.underlying e = some (.int q))
    (hz : (zeroValue e).run P w = .ok (.int q 0) w) {key : Value} {kl : Lit} (hkey : keyOf P k key = some kl) {c : Int} (hc : D.atKey kl (.lit (.int q 0)) = .lit (.int q c)) :
    (Instr.lookup t (.map (some b)) key true).run P w = .ok (.tuple #[.int q c, .bool (Maps.has D kl)]) w := by
  have hw0 : (Lit.int q 0).wf = true := by cases q <;> decide
  obtain ⟨v, ps, hrun, hv⟩ := h.look_ok K ht hz (plainElem_int he hw0) hkey
  obtain ⟨c', rfl, h2, _⟩ := plainElem_int_inv he hv
  simp only [Prod.mk.injEq] at h2
  rw [h2.1] at hc
  cases hc
  exact hrun
end Go.Proofs.Ytjelmpajphajfaa

/- Package dom: an attribute's value, attributes' names, an element's own error, a node's own error. -/
namespace Go.Proofs.Ytjelmpajphajfaa
open Go.RowKit Go.Maps Go.WideShapes

theorem Row.below {S : Nat → Prop} {w w' : World} {B k n : Nat} {v : Value} {xs : List Value} (h : Row S w k v n xs) (hS : ∀ b, S b → b < B) (hb : Below B w w') : Row S w' k v n xs := h.keep fun b h => hb.block b (hS b h)
theorem RepN.below {S : Nat → Prop} {w w' : World} {B : Nat} {v : Value} {l : List Nd} (h : RepN S w v l) (hS : ∀ b, S b → b < B) (hb : Below B w w') : RepN S w' v l := h.keep fun b h => hb.block b (hS b h)
theorem RepV.below {S : Nat → Prop} {w w' : World} {B : Nat} {x : Nd} {va vk : Value} (h : RepV S w x va vk) (hS : ∀ b, S b → b < B) (hb : Below B w w') : RepV S w' x va vk := h.keep fun b h => hb.block b (hS b h)
theorem run_makeMap_hint {P : Program} (t k e : TypeId) (kd : IntKind) (n : Int) (ht : P.underlying t = some (.map k e)) (w : World) :
    (Instr.makeMap t (some (.int kd n))).run P w = .ok (.map (some w.heap.size)) (w.alloc (.map #[] 0)) := by
  simp [Instr.makeMap, run_underlying ht]; rfl

def valAns (o : Option ByteArray) : Value := .tuple #[.string (o.getD ⟨#[]⟩), .bool o.isSome]

theorem zeroU (w : World) : (zeroValue 94).run Try.prog w = .ok (.agg #[]) w := by kernel_rfl
theorem lawS : Keyed Try.prog 9 := string_keyed Try.underlying9
def keysD (l : List ByteArray) : DataW Unit := Maps.setOf (.agg []) (l.map fun s => Lit.string s.data.toList)
theorem keysD_has (l : List ByteArray) (s : ByteArray) : Maps.has (keysD l) (.string s.data.toList) = l.any (M3.eqB s) := by
  unfold keysD
  rw [Maps.has_setOf _ _ _ (by intro x hx; obtain ⟨y, _, rfl⟩ := List.mem_map.1 hx; trivial), List.any_map]
  congr 1
  funext y
  simp only [Function.comp]
  rw [Bool.eq_iff_iff, M3.eqB_iff]
  constructor
  · intro h
    have := WideAt.sameKey_eq h
    simp only [Lit.string.injEq] at this
    cases s; cases y
    congr 1
    exact (Array.ext' this).symm
  · rintro rfl; exact WideAt.sameKey_self (by trivial)
theorem keysD_snoc (l : List ByteArray) (s : ByteArray) : (keysD l).put (.string s.data.toList) (.agg []) = keysD (l ++ [s]) := by
  unfold keysD
  rw [List.map_append]
  exact (Maps.setOf_snoc _ _ _).symm
abbrev Seen (w : World) (b n : Nat) (l : List ByteArray) : Prop := w.ownsMap Try.prog 9 (unitElem (H := Unit)) b n (keysD l)

set_option maxHeartbeats 4000000 in
set_option maxRecDepth 100000 in
theorem domNames (S : Nat → Prop) (va : Value) (ats : List Att) (w : World) (hS : ∀ b, S b → b < w.heap.size) (hat : Row S w 2 va ats.length (cellsA ats)) (hsz : ∀ a ∈ ats, a.name.size ≤ 268435456) :
    Calls Try.prog 88 #[va] w fun e w' => e = .returned (.int .i64 (M3.namesE [] ats)) ∧ Below w.heap.size w w' := by
  obtain ⟨a, cap, rfl⟩ := hat.slice
  obtain ⟨_, hlc, hcm⟩ := hat.len
  have hmm := fun W => run_makeMap_hint (P := Try.prog) 93 9 94 .i64 (ats.length : Int) Try.underlying93 W
  have ho := World.ownsMap_made w Try.prog 9 (unitElem (H := Unit))
  go_enter Try.func88, Try.ntmps88
  go_wp2
  go_loopw [13] (fun u13 wr => ∃ i : Nat, i ≤ ats.length ∧ u13 = .int .i64 (i : Int) ∧ Below w.heap.size w wr ∧ Seen wr w.heap.size i ((ats.take i).map Att.name) ∧ Hid (M3.namesE [] ats = M3.namesE ((ats.take i).map Att.name) (ats.drop i))) (fun u13 _ => ats.length - (intOf u13).toNat)
  case atStart => exact ⟨0, by omega, rfl, (Below.refl _ _).alloc (Nat.le_refl _) _, ho, rfl⟩
  case round =>
    obtain ⟨i, hi, rfl, hb, hown, hv⟩ := hrel
    have hz := hb.size
    clear hmm ho
    by_cases hlt : i < ats.length
    · obtain ⟨b, off, rfl, hSb, c0, c1⟩ := (hat.below hS hb).atA i hlt
      have hbl := hS b hSb
      have hsn := hsz _ (List.getElem_mem hlt)
      have hdr : ats.drop i = ats[i] :: ats.drop (i + 1) := List.drop_eq_getElem_cons hlt
      have htk : (ats.take (i + 1)).map Att.name = (ats.take i).map Att.name ++ [ats[i].name] := by
        rw [List.take_succ_eq_append_getElem hlt, List.map_append]; rfl
      rw [hdr, M3.namesE, ← htk] at hv
      have hks := keysD_snoc ((ats.take i).map Att.name) ats[i].name
      rw [← htk] at hks
      have hkh := keysD_has ((ats.take i).map Att.name) ats[i].name
      generalize hs2 : (ats.take (i + 1)).map Att.name = seen2 at *
      replace hs2 := Lib.hid hs2
      generalize (ats.take i).map Att.name = seen at *
      generalize ats[i].value = vl at *
      generalize ats[i].name = nm at *
      clear hdr htk
      replace hks := Lib.hid hks
      have hA := Lib.hid (fun W => domAttributed nm W hsn)
      generalize M3.attributedB nm.data.toList = p at *
      generalize seen.any (M3.eqB nm) = q at *
      replace hkh := Lib.hid hkh
      have hsl : w.heap.size < wr.heap.size := by
        obtain ⟨es, clock, h1, _⟩ := hown
        exact (Array.getElem?_eq_some_iff.1 h1).1
      have hkey := WideMaps.keyOf_string_mk Try.underlying9 (s := nm) (by unfold maxLen; omega)
      replace hkey := Lib.hid hkey
      cases p
      · have hv2 : Hid (M3.namesE [] ats = 4) := hv
        clear hv
        go_wp2_with fail
        refine (hA.out _).mono ?_
        rintro e w2 ⟨rfl, hb2⟩
        go_wp2
        go_ret
        exact ⟨by rw [hv2.out]; rfl, (hb.alloc hz _).trans (hb2.mono (by simp; omega))⟩
      · go_wp2_with fail
        refine (hA.out _).mono ?_
        rintro e w2 ⟨rfl, hb2⟩
        have hown2 : Seen w2 w.heap.size i seen := ownsMap_below (hown.alloc _) hb2
        have hsl2 : w.heap.size < w2.heap.size := by have := hb2.size; simp at this; omega
        obtain ⟨v, ps, hrun, hv3⟩ := hown2.look_ok lawS Try.underlying93 (zeroU w2) unitElem_mk hkey.out
        obtain ⟨rfl, _⟩ := unitElem_inv hv3
        clear hv3
        rw [hkh.out] at hrun
        have hbox : Box w2 wr.heap.size 44 [.string nm, .string vl] := (Box.new wr _ _).below hb2 (by simp)
        have hc2 := hbox.cell (i := 0) rfl
        have hbw2 : Below w.heap.size w w2 := (hb.alloc hz _).trans (hb2.mono (by simp; omega))
        replace hbox := Lib.hid hbox
        have hz2 : wr.heap.size < w2.heap.size := by have := hb2.size; simp at this; omega
        cases q
        · obtain ⟨w4, hrun2, hown4, ht4⟩ := (hown2.alloc (.cells #[] 94)).store lawS Try.underlying93 (by unfold maxLen; omega) hkey.out (unitElem_mk (H := Unit))
          have hbw4 : Below w.heap.size w w4 := (hbw2.alloc hbw2.size (.cells #[] 94)).grown ht4.grown (by simp; omega) (fun k hk => by cases hk; exact Nat.le_refl _)
          have hown5 : Seen w4 w.heap.size (i + 1) seen2 := by show World.ownsMap _ _ _ _ _ _ (keysD seen2); rw [← hks.out]; exact hown4
          clear hown4 ht4
          go_wp2
          go_roundw
          case rel => exact ⟨i + 1, by omega, by go_num, hbw4, by rw [hs2.out]; exact hown5, by show _ = _; rw [hs2.out]; exact hv⟩
          case measure => simp [intOf]; omega
        · have hv2 : Hid (M3.namesE [] ats = 5) := hv
          clear hv
          go_wp2
          go_ret
          exact ⟨by rw [hv2.out]; rfl, hbw2.alloc hbw2.size _⟩
    · have hvd : Hid (M3.namesE [] ats = 0) := by show _ = _; rw [hv.out, List.drop_of_length_le (by omega)]; rfl
      go_wp2
      go_ret
      exact ⟨by rw [hvd.out]; rfl, hb⟩

/-! ### A node's own error -/
def Fit1 (x : Nd) : Prop := x.name.size ≤ 268435456 ∧ x.text.size ≤ 268435456 ∧ (∀ a ∈ x.attrs, a.name.size ≤ 268435456 ∧ a.value.size ≤ 268435456) ∧ 1 + x.attrs.length + M3.weight x.kids ≤ 1000000

set_option maxHeartbeats 2000000 in
set_option maxRecDepth 100000 in
theorem domKindly (S : Nat → Prop) (x : Nd) (va vk : Value) (w : World) (hx : RepV S w x va vk) :
    Calls Try.prog 70 #[x.val va vk] w fun e w' => e = .returned (.bool (M3.kindlyF x.kind x.name x.attrs x.text x.kids)) ∧ Below w.heap.size w w' := by
  obtain ⟨hat, hkd⟩ := hx
  obtain ⟨a, cap, rfl⟩ := hat.slice
  obtain ⟨a2, cap2, rfl⟩ := hkd.slice
  cases x with | mk k n ats t ks =>
  have hb0 : ∀ cs, Below w.heap.size w (w.alloc (.cells cs 28)) := fun cs => (Below.refl _ _).alloc (Nat.le_refl _) _
  simp only [Nd.val, Nd.kind, Nd.name, Nd.text, Nd.attrs, Nd.kids] at *
  unfold M3.kindlyF M3.plainF M3.nilB
  by_cases h1 : k = 1
  · subst h1
    rw [if_pos rfl]
    go_enter Try.func70, Try.ntmps70
    go_wp2
    go_ret
    exact ⟨by simp, hb0 _⟩
  have h1b : (k == 1) = false := by simpa using h1
  rw [if_neg h1]
  by_cases h2 : k = 2 ∨ k = 3
  · rw [if_pos h2]
    clear h1
    have hq1 : ((ats.length : Int) == 0) = ats.isEmpty := by cases ats <;> simp; omega
    have hq2 : ((ks.length : Int) == 0) = ks.isEmpty := by cases ks <;> simp; omega
    generalize ats.isEmpty = e1 at *
    generalize ks.isEmpty = e2 at *
    rcases h2 with rfl | rfl
    · go_enter Try.func70, Try.ntmps70
      go_wp2
      all_goals (go_ret; exact ⟨by simp_all, hb0 _⟩)
    · go_enter Try.func70, Try.ntmps70
      go_wp2
      all_goals (go_ret; exact ⟨by simp_all, hb0 _⟩)
  · rw [if_neg h2]
    have h2b : (k == 2) = false := by simp; omega
    have h3b : (k == 3) = false := by simp; omega
    clear h1 h2
    go_enter Try.func70, Try.ntmps70
    go_wp2
    go_ret
    exact ⟨rfl, hb0 _⟩
end Go.Proofs.Ytjelmpajphajfaa

/- Package dom and the reference: an element's error, a node's error. -/
namespace Go.Proofs.Ytjelmpajphajfaa
open Go.RowKit Go.Maps Go.WideShapes

theorem Fit1.attr {x : Nd} (h : Fit1 x) : ∀ a ∈ x.attrs, a.name.size ≤ 268435456 := fun a ha => (h.2.2.1 a ha).1

set_option maxHeartbeats 4000000 in
set_option maxRecDepth 100000 in
theorem domElement (S : Nat → Prop) (x : Nd) (va vk : Value) (w : World) (hS : ∀ b, S b → b < w.heap.size) (hx : RepV S w x va vk) (hf : Fit1 x) :
    Calls Try.prog 71 #[x.val va vk] w fun e w' => e = .returned (.int .i64 (M3.elemF x.name x.attrs)) ∧ Below w.heap.size w w' := by
  obtain ⟨hat, hkd⟩ := hx
  have hN := fun w hS hat => domNames S va x.attrs w hS hat hf.attr
  obtain ⟨a, cap, rfl⟩ := hat.slice
  obtain ⟨_, hlc, hcm⟩ := hat.len
  obtain ⟨a2, cap2, rfl⟩ := hkd.slice
  cases x with | mk k n ats t ks =>
  obtain ⟨hf1, hf2, hf3, _⟩ := hf
  simp only [Nd.val, Nd.kind, Nd.name, Nd.text, Nd.attrs, Nd.kids] at *
  have hb0 := (Below.refl w.heap.size w).alloc (Nat.le_refl _) (.cells #[.int .i64 k, .string n, .slice a ats.length cap, .string t, .slice a2 ks.length cap2] 28)
  have hbx0 := Box.new w 28 [.int .i64 k, .string n, .slice a ats.length cap, .string t, .slice a2 ks.length cap2]
  have hNa := Lib.hid (fun W => domNamed n W (by omega))
  have hr : Hid (M3.elemF n ats = if M3.namedB n.data.toList then (if M3.namesE [] ats = 0 then M3.valuesE ats else M3.namesE [] ats) else 4) := rfl
  generalize M3.namedB n.data.toList = p at *
  cases p
  · replace hr : Hid (M3.elemF n ats = 4) := hr
    clear hN
    go_enter Try.func71, Try.ntmps71
    go_wp2_with fail
    refine (hNa.out _).mono ?_
    rintro e w1 ⟨rfl, hb1⟩
    go_wp2
    go_ret
    exact ⟨by rw [hr.out]; rfl, hb0.trans (hb1.mono (by simp))⟩
  replace hr : Hid (M3.elemF n ats = if M3.namesE [] ats = 0 then M3.valuesE ats else M3.namesE [] ats) := hr
  replace hN := Lib.hid hN
  generalize M3.namesE [] ats = z at *
  go_enter Try.func71, Try.ntmps71
  go_wp2_with fail
  refine (hNa.out _).mono ?_
  rintro e w1 ⟨rfl, hb1⟩
  have hbx1 := hbx0.below hb1 (by simp)
  have hc1 := hbx1.cell (i := 2) rfl
  have hbw1 : Below w.heap.size w w1 := hb0.trans (hb1.mono (by simp))
  have hz1 := hbx1.lt
  have hat1 := hat.below hS hbw1
  clear hbx0
  replace hbx1 := Lib.hid hbx1
  go_wp2_with fail
  refine (hN.out w1 (fun b h => by have := hS b h; omega) hat1).mono ?_
  rintro e w2 ⟨rfl, hb2⟩
  have hbx2 := hbx1.out.below hb2 hz1
  have hc2 := hbx2.cell (i := 2) rfl
  have hbw2 : Below w.heap.size w w2 := hbw1.trans (hb2.mono (by omega))
  have hz2 := hbx2.lt
  clear hc1
  by_cases hz : z = 0
  · rw [if_pos hz] at hr
    subst hz
    go_wp2
    go_loopw [19] (fun u19 wr => ∃ i : Nat, i ≤ ats.length ∧ u19 = .int .i64 (i : Int) ∧ Below w.heap.size w wr ∧ Hid (M3.valuesE ats = M3.valuesE (ats.drop i))) (fun u19 _ => ats.length - (intOf u19).toNat)
    case atStart => exact ⟨0, by omega, rfl, hbw2, rfl⟩
    case round =>
      obtain ⟨i, hi, rfl, hb, hv⟩ := hrel
      have hzz := hb.size
      by_cases hlt : i < ats.length
      · obtain ⟨b, off, rfl, hSb, c0, c1⟩ := (hat.below hS hb).atA i hlt
        have hbl := hS b hSb
        have hsn := (hf3 _ (List.getElem_mem hlt)).2
        have hdr : ats.drop i = ats[i] :: ats.drop (i + 1) := List.drop_eq_getElem_cons hlt
        rw [hdr, M3.valuesE] at hv
        generalize ats[i].value = vl at *
        generalize ats[i].name = nm at *
        clear hdr
        have hI := Lib.hid (fun W => utfIs vl W (by omega))
        generalize M1.isB vl.data.toList = q at *
        go_wp2_with fail
        refine (hI.out _).mono ?_
        rintro e w3 ⟨rfl, hb3⟩
        have hbw3 : Below w.heap.size w w3 := (hb.alloc hzz (.cells #[.string nm, .string vl] 44)).trans (hb3.mono (by simp; omega))
        clear hc2
        cases q
        · have hv2 : Hid (M3.valuesE ats = 2) := hv
          go_wp2
          go_ret
          exact ⟨by rw [hr.out, hv2.out]; rfl, hbw3⟩
        · have hv2 : Hid (M3.valuesE ats = M3.valuesE (ats.drop (i + 1))) := hv
          clear hv
          go_wp2
          go_roundw
          case rel => exact ⟨i + 1, by omega, by go_num, hbw3, hv2⟩
          case measure => simp [intOf]; omega
      · have hvd : Hid (M3.valuesE ats = 0) := by show _ = _; rw [hv.out, List.drop_of_length_le (by omega)]; rfl
        go_wp2
        go_ret
        exact ⟨by rw [hr.out, hvd.out]; rfl, hb⟩
  · rw [if_neg hz] at hr
    have hzb : (z == 0) = false := by simpa using hz
    go_wp2
    go_ret
    exact ⟨by rw [hr.out]; rfl, hbw2⟩

set_option maxHeartbeats 4000000 in
set_option maxRecDepth 100000 in
theorem domFault (S : Nat → Prop) (x : Nd) (va vk : Value) (ah : Int) (w : World) (hS : ∀ b, S b → b < w.heap.size) (hx : RepV S w x va vk) (hf : Fit1 x) :
    Calls Try.prog 44 #[x.val va vk, .int .i64 ah] w fun e w' => e = .returned (.int .i64 (M3.oneE x (ah == 2))) ∧ Below w.heap.size w w' := by
  have hK := Lib.hid (fun W (h : RepV S W x va vk) => domKindly S x va vk W h)
  have hE := Lib.hid (fun W h1 h2 => domElement S x va vk W h1 h2 hf)
  obtain ⟨hf1, hf2, hf3, _⟩ := hf
  have hI := Lib.hid (fun W => utfIs x.text W (by omega))
  have hr : Hid (M3.oneE x (ah == 2) = M3.oneF x.kind x.name x.attrs x.text x.kids (ah == 2)) := by
    cases x; exact M3.oneE_mk _ _ _ _ _ _
  unfold M3.oneF at hr
  have hbx0 := Box.new w 28 (x.cells va vk)
  have hb0 := (Below.refl w.heap.size w).alloc (Nat.le_refl _) (.cells (x.cells va vk).toArray 28)
  have hx0 := hx.below hS hb0
  have hkf : M3.kindlyF x.kind x.name x.attrs x.text x.kids = true → x.kind = 1 ∨ x.kind = 2 ∨ x.kind = 3 := by
    intro h
    unfold M3.kindlyF at h
    by_cases h1 : x.kind = 1
    · exact Or.inl h1
    · rw [if_neg h1] at h
      by_cases h2 : x.kind = 2 ∨ x.kind = 3
      · exact Or.inr h2
      · rw [if_neg h2] at h; cases h
  generalize M3.kindlyF x.kind x.name x.attrs x.text x.kids = p at *
  cases x with | mk k n ats t ks =>
  simp only [Nd.val, Nd.kind, Nd.name, Nd.text, Nd.attrs, Nd.cells] at *
  cases p
  · replace hr : Hid (M3.oneE (.mk k n ats t ks) (ah == 2) = 7) := hr
    clear hE hI hkf
    go_enter Try.func44, Try.ntmps44
    go_wp2_with fail
    refine (hK.out _ hx0).mono ?_
    rintro e w1 ⟨rfl, hb1⟩
    go_wp2
    go_ret
    exact ⟨by rw [hr.out]; rfl, hb0.trans (hb1.mono (by simp))⟩
  replace hkf := hkf rfl
  replace hr : Hid (M3.oneE (.mk k n ats t ks) (ah == 2) = if k = 1 then M3.elemF n ats else if (M1.isB t.data.toList && !(decide (k = 2) && (M3.nilB t || (ah == 2)))) = true then 0 else 2) := hr
  rcases Or.symm hkf with hkf | hkf
  · rw [if_neg (by omega)] at hr
    clear hE
    generalize hq : M1.isB t.data.toList = q at *
    clear hq
    rcases hkf with rfl | rfl
    · replace hr : Hid (M3.oneE (.mk 2 n ats t ks) (ah == 2) = if (q && !(t.toList.isEmpty || (ah == 2))) = true then 0 else 2) := hr
      cases heb : t.toList.isEmpty
      · rw [heb] at hr
        cases hah : (ah == 2)
        · rw [hah] at hr
          go_enter Try.func44, Try.ntmps44
          go_wp2_with fail
          refine (hK.out _ hx0).mono ?_
          rintro e w1 ⟨rfl, hb1⟩
          have hbx1 := hbx0.below hb1 (by simp)
          have c0 := hbx1.cell (i := 0) rfl
          have c3 := hbx1.cell (i := 3) rfl
          have hbw1 : Below w.heap.size w w1 := hb0.trans (hb1.mono (by simp))
          clear hbx0
          replace hbx1 := Lib.hid hbx1
          go_wp2_with fail
          refine (hI.out _).mono ?_
          rintro e w2 ⟨rfl, hb2⟩
          cases q
          · have hr2 : Hid (M3.oneE (.mk 2 n ats t ks) false = 2) := by show _ = _; rw [hr.out]; rfl
            go_wp2
            go_ret
            exact ⟨by rw [hr2.out]; rfl, hbw1.trans (hb2.mono hbw1.size)⟩
          · have hr2 : Hid (M3.oneE (.mk 2 n ats t ks) false = 0) := by show _ = _; rw [hr.out]; rfl
            go_wp2
            go_ret
            exact ⟨by rw [hr2.out]; rfl, hbw1.trans (hb2.mono hbw1.size)⟩
        · rw [hah] at hr
          have hr2 : Hid (M3.oneE (.mk 2 n ats t ks) true = 2) := by show _ = _; rw [hr.out]; cases q <;> rfl
          go_enter Try.func44, Try.ntmps44
          go_wp2_with fail
          refine (hK.out _ hx0).mono ?_
          rintro e w1 ⟨rfl, hb1⟩
          have hbx1 := hbx0.below hb1 (by simp)
          have c0 := hbx1.cell (i := 0) rfl
          have c3 := hbx1.cell (i := 3) rfl
          have hbw1 : Below w.heap.size w w1 := hb0.trans (hb1.mono (by simp))
          clear hbx0
          replace hbx1 := Lib.hid hbx1
          go_wp2
          go_ret
          exact ⟨by rw [hr2.out]; rfl, hbw1⟩
      · rw [heb] at hr
        have hr2 : Hid (M3.oneE (.mk 2 n ats t ks) (ah == 2) = 2) := by show _ = _; rw [hr.out]; cases q <;> rfl
        go_enter Try.func44, Try.ntmps44
        go_wp2_with fail
        refine (hK.out _ hx0).mono ?_
        rintro e w1 ⟨rfl, hb1⟩
        have hbx1 := hbx0.below hb1 (by simp)
        have c0 := hbx1.cell (i := 0) rfl
        have c3 := hbx1.cell (i := 3) rfl
        have hbw1 : Below w.heap.size w w1 := hb0.trans (hb1.mono (by simp))
        clear hbx0
        replace hbx1 := Lib.hid hbx1
        go_wp2
        go_ret
        exact ⟨by rw [hr2.out]; rfl, hbw1⟩
    · replace hr : Hid (M3.oneE (.mk 3 n ats t ks) (ah == 2) = if (q && true) = true then 0 else 2) := hr
      go_enter Try.func44, Try.ntmps44
      go_wp2_with fail
      refine (hK.out _ hx0).mono ?_
      rintro e w1 ⟨rfl, hb1⟩
      have hbx1 := hbx0.below hb1 (by simp)
      have c0 := hbx1.cell (i := 0) rfl
      have c3 := hbx1.cell (i := 3) rfl
      have hbw1 : Below w.heap.size w w1 := hb0.trans (hb1.mono (by simp))
      clear hbx0
      replace hbx1 := Lib.hid hbx1
      go_wp2_with fail
      refine (hI.out _).mono ?_
      rintro e w2 ⟨rfl, hb2⟩
      cases q
      · have hr2 : Hid (M3.oneE (.mk 3 n ats t ks) (ah == 2) = 2) := by show _ = _; rw [hr.out]; rfl
        go_wp2
        go_ret
        exact ⟨by rw [hr2.out]; rfl, hbw1.trans (hb2.mono hbw1.size)⟩
      · have hr2 : Hid (M3.oneE (.mk 3 n ats t ks) (ah == 2) = 0) := by show _ = _; rw [hr.out]; rfl
        go_wp2
        go_ret
        exact ⟨by rw [hr2.out]; rfl, hbw1.trans (hb2.mono hbw1.size)⟩
  · subst hkf
    rw [if_pos rfl] at hr
    clear hI
    go_enter Try.func44, Try.ntmps44
    go_wp2_with fail
    refine (hK.out _ hx0).mono ?_
    rintro e w1 ⟨rfl, hb1⟩
    have hbx1 := hbx0.below hb1 (by simp)
    have c0 := hbx1.cell (i := 0) rfl
    have c1 := hbx1.cell (i := 1) rfl
    have c2 := hbx1.cell (i := 2) rfl
    have c3 := hbx1.cell (i := 3) rfl
    have c4 := hbx1.cell (i := 4) rfl
    have hbw1 : Below w.heap.size w w1 := hb0.trans (hb1.mono (by simp))
    have hx1 := hx.below hS hbw1
    have hz1 := hbx1.lt
    clear hbx0
    replace hbx1 := Lib.hid hbx1
    go_wp2_with fail
    refine (hE.out w1 (fun b h => by have := hS b h; omega) hx1).mono ?_
    rintro e w2 ⟨rfl, hb2⟩
    go_wp2
    go_ret
    exact ⟨by rw [hr.out]; rfl, hbw1.trans (hb2.mono (by omega))⟩
end Go.Proofs.Ytjelmpajphajfaa

/- Package dom: all nodes told one by one: 'tell' hands its yield down; 'each' is what a loop ranges over. -/
namespace Go.Proofs.Ytjelmpajphajfaa
open Go.RowKit Go.Shelf

attribute [local go_sem] Oper.semAt_some

/-- What a round is handed: a node as it lies in memory, and the Kind of the one ahead of it. -/
structure It (S : Nat → Prop) (w0 : World) where
  x : Nd
  ah : Int
  va : Value
  vk : Value
  rep : RepV S w0 x va vk
  fit : Fit1 x
def It.args {S : Nat → Prop} {w0 : World} (t : It S w0) : Array Value := #[t.x.val t.va t.vk, .int .i64 t.ah]
abbrev It.pair {S : Nat → Prop} {w0 : World} (t : It S w0) : Nd × Int := (t.x, t.ah)

/-- T is the row of all nodes of l, whose cells are xs. -/
def Tells (S : Nat → Prop) (w0 : World) : Int → List Value → List Nd → List (It S w0) → Prop
  | _, xs, [], T => xs = [] ∧ T = []
  | a, xs, .mk k n ats t ks :: r, T => ∃ (i : It S w0) (zs ys : List Value) (T1 T2 : List (It S w0)), i.x = .mk k n ats t ks ∧ i.ah = a ∧ xs = i.x.cells i.va i.vk ++ ys ∧ Row S w0 5 i.vk ks.length zs ∧ T = i :: (T1 ++ T2) ∧ Tells S w0 0 zs ks T1 ∧ Tells S w0 k ys r T2
termination_by _ _ l _ => SizeOf.sizeOf l
theorem Tells.cons_iff {S : Nat → Prop} {w0 : World} {a : Int} {xs : List Value} {x : Nd} {r : List Nd} {T : List (It S w0)} :
    Tells S w0 a xs (x :: r) T ↔ ∃ (i : It S w0) (zs ys : List Value) (T1 T2 : List (It S w0)), i.x = x ∧ i.ah = a ∧ xs = i.x.cells i.va i.vk ++ ys ∧ Row S w0 5 i.vk x.kids.length zs ∧ T = i :: (T1 ++ T2) ∧ Tells S w0 0 zs x.kids T1 ∧ Tells S w0 x.kind ys r T2 := by
  cases x; rw [Tells]; rfl

/-- All nodes may be handed on. -/
def FitN : List Nd → Prop
  | [] => True
  | .mk k n a t ks :: r => Fit1 (.mk k n a t ks) ∧ FitN ks ∧ FitN r
termination_by l => SizeOf.sizeOf l
theorem fitN_nil : FitN [] := by rw [FitN]; trivial
theorem fitN_cons {x : Nd} {r : List Nd} : FitN (x :: r) ↔ Fit1 x ∧ FitN x.kids ∧ FitN r := by cases x; rw [FitN]; rfl

theorem tells_of {S : Nat → Prop} {w0 : World} (l : List Nd) : ∀ (a : Int) (xs : List Value), RepC S w0 xs l → FitN l → ∃ T, Tells S w0 a xs l T ∧ T.map It.pair = M3.seqN a l := by
  induction l using Nd.ind with
  | h0 => intro a xs h _; rw [RepC] at h; exact ⟨[], by rw [Tells]; exact ⟨h, rfl⟩, by rw [M3.seqN_nil]; rfl⟩
  | h1 k n ats t ks r ih1 ih2 =>
    intro a xs h hf
    obtain ⟨va, vk, ys, h1, h2, ⟨zs, h3, h4⟩, h5⟩ := RepC.cons_iff.1 h
    obtain ⟨f1, f2, f3⟩ := fitN_cons.1 hf
    obtain ⟨T1, t1, e1⟩ := ih1 0 zs h4 f2
    obtain ⟨T2, t2, e2⟩ := ih2 k ys h5 f3
    refine ⟨⟨.mk k n ats t ks, a, va, vk, ⟨h2, ⟨zs, h3, h4⟩⟩, f1⟩ :: (T1 ++ T2), Tells.cons_iff.2 ⟨_, zs, ys, T1, T2, rfl, rfl, by rw [h1]; rfl, h3, rfl, t1, t2⟩, ?_⟩
    rw [M3.seqN_cons, List.map_cons, List.map_append, e1, e2]
    rfl

theorem room_none {F : Fence} (hd : F.depth = none) (k : Nat) : F.room k := fun d h => by rw [hd] at h; cases h
theorem yield_deep {F : Fence} (hd : F.depth = none) {m : Nat} (m' : Nat) {P : Program} {l : Nat} {args : Array Value} {W : World} {R : Ending → World → Prop} (h : YieldAt F m P l args W R) : YieldAt F m' P l args W R := by
  obtain ⟨fn, tmps, assign, body, hy, hR⟩ := h
  exact ⟨fn, tmps, assign, body, hy, hR.1, fun c cs _ => hR.2 c cs (room_none hd _)⟩
theorem weight_mem {x : Nd} {l : List Nd} (h : x ∈ l) : M3.weight x.kids < M3.weight l := by
  induction l with
  | nil => cases h
  | cons y r ih =>
    rw [M3.weight_cons]
    rcases List.mem_cons.1 h with rfl | h
    · omega
    · have := ih h; omega

/-- What a round keeps: all that lay below n₀, and each variable of five cells laid from n₁ on. -/
structure Kp5 (n₀ n₁ : Nat) (W W' : World) : Prop where
  low : Below n₀ W W'
  five : ∀ (b : Nat) (cs : Array Value) (t : TypeId), n₁ ≤ b → cs.size = 5 → W.heap[b]? = some (.cells cs t (0, 0)) → W'.heap[b]? = some (.cells cs t (0, 0))
section
variable {n₀ n₁ : Nat} {A B C : World}
theorem Kp5.refl (A : World) : Kp5 n₀ n₁ A A := ⟨Below.refl _ _, fun _ _ _ _ _ h => h⟩
theorem Kp5.trans (h : Kp5 n₀ n₁ A B) (k : Kp5 n₀ n₁ B C) : Kp5 n₀ n₁ A C := ⟨h.low.trans k.low, fun b cs t hb hc h1 => k.five b cs t hb hc (h.five b cs t hb hc h1)⟩
theorem Kp5.of_below (h : Below A.heap.size A B) (hn : n₀ ≤ A.heap.size) : Kp5 n₀ n₁ A B := ⟨h.mono hn, fun b _ _ _ _ h1 => (h.block b (Array.getElem?_eq_some_iff.1 h1).1).trans h1⟩
theorem Kp5.box (h : Kp5 n₀ n₁ A B) {g : Nat} {t : TypeId} {x : Nd} {va vk : Value} (hb : Box A g t (x.cells va vk)) (hg : n₁ ≤ g) : Box B g t (x.cells va vk) := h.five g _ t hg rfl hb
theorem kp5_b {w : World} (hn : n₀ ≤ w.heap.size) (W : World) (l : Nat) (o o' : Obj) (hl : w.heap.size ≤ l) (h : W.heap[l]? = some o) (hc : o.isCells = false) (hw : o.isWalk = false) : Kp5 n₀ n₁ W (W.putObj l o') :=
  ⟨belowK_b hn W l o o' hl h hc hw, fun b _ _ _ _ h1 => ((grownBy_putObj' W l o').block b (Array.getElem?_eq_some_iff.1 h1).1 (fun e => by cases e; rw [h1] at h; cases h; cases hc)).trans h1⟩
end

set_option maxRecDepth 100000 in
set_option maxHeartbeats 4000000 in
theorem domTell (F : Fence) (hd : F.depth = none) (h6 : F.fn 69) (hro : F.round = none) (S : Nat → Prop) (w0 : World) (l0 n₀ n₁ N : Nat) (hS : ∀ b, S b → b < n₀) (J Jx : List (It S w0) → World → Prop) (B0 : Nat) (hJ : AbidesFrom B0 J)
    (hY : ∀ m pre x W, J pre W → pre.length < N → YieldAt F m Try.prog l0 x.args W fun e W' =>
      (e = .returned (.bool true) ∧ J (pre ++ [x]) W' ∧ Kp5 n₀ n₁ W W') ∨ (e = .returned (.bool false) ∧ Jx (pre ++ [x]) W')) (wt : Nat) :
    ∀ (l : List Nd), M3.weight l < wt → ∀ (n : Nat) (v : Value) (zs : List Value) (T : List (It S w0)) (pre : List (It S w0)) (W : World), Row S w0 5 v l.length zs → Tells S w0 0 zs l T → Below n₀ w0 W → n₀ ≤ n₁ → n₁ ≤ W.heap.size → J pre W → pre.length + T.length ≤ N →
      CallsIn F n Try.prog 69 #[v, .func (.yield l0) #[] #[]] W fun e W' =>
        (e = .returned (.bool true) ∧ J (pre ++ T) W' ∧ Kp5 n₀ n₁ W W') ∨ (e = .returned (.bool false) ∧ ∃ q, q <+: T ∧ Jx (pre ++ q) W') := by
  induction wt with
  | zero => intro l h; omega
  | succ wt ih =>
    intro l hwt n v zs T pre W hrow ht hb hn0 hn1 hj hN
    obtain ⟨a, cap, rfl⟩ := hrow.slice
    obtain ⟨_, hlc, hcm⟩ := hrow.len
    have hdd : ∀ k : Nat, (F.depth.isSome = true → 1 ≤ k) := fun k h => by rw [hd] at h; cases h
    refine callsIn_of_wp Try.func69 rfl h6 ?_ hro
    simp only [Try.ntmps69, List.size_toArray, List.length_cons, List.length_nil, Nat.reduceAdd, Nat.reduceSub, Array.replicate_succ, Array.replicate_zero, List.push_toArray, List.append_toArray, List.nil_append, List.cons_append]
    gi_wp2
    gi_loopw [5, 10] (fun u5 u10 wr => ∃ (i : Nat) (ah : Int) (T1 T2 : List (It S w0)), i ≤ l.length ∧ u10 = .int .i64 (i : Int) ∧ u5 = .int .i64 ah ∧ T = T1 ++ T2 ∧ Tells S w0 ah (zs.drop (i * 5)) (l.drop i) T2 ∧ J (pre ++ T1) wr ∧ Kp5 n₀ n₁ W wr) (fun _ u10 _ => l.length - (intOf u10).toNat)
    case atStart => exact ⟨0, 0, [], T, by omega, rfl, rfl, rfl, ht, by simpa using hj, Kp5.refl _⟩
    case round =>
      obtain ⟨i, ah, T1, T2, hi, rfl, rfl, hT, htl, hJ1, hk1⟩ := hrel
      have hz1 := hk1.low.size
      by_cases hlt : i < l.length
      · have hdr : l.drop i = l[i] :: l.drop (i + 1) := List.drop_eq_getElem_cons hlt
        rw [hdr] at htl
        obtain ⟨it, zs', ys, Ta, Tb, e1, rfl, e2, hrk, rfl, hta, htb⟩ := Tells.cons_iff.1 htl
        have hwk := weight_mem (List.getElem_mem hlt)
        rw [← e1] at hwk hrk hta htb
        have hys : ys = zs.drop ((i + 1) * 5) := by
          rw [show (i + 1) * 5 = i * 5 + 5 by omega, ← List.drop_drop, e2]; rfl
        subst hys
        clear htl hdr e1
        rcases it with ⟨x, ah, va, vk, hrep, hfit⟩
        obtain ⟨a2, cap2, rfl⟩ := hrep.at_.slice
        obtain ⟨a3, cap3, rfl⟩ := hrep.kids.slice
        dsimp only at *
        have hbw := hb.trans hk1.low
        obtain ⟨_, a', cap', hsl, _, _, _, hcl⟩ := hrow.keep (w' := wr) (fun b h => (hb.trans hk1.low).block b (hS b h))
        cases hsl
        obtain ⟨b, off, rfl, hSb, hcl⟩ := hcl (by omega)
        have hz5 : ∀ j u, (x.cells (.slice a2 x.attrs.length cap2) (.slice a3 x.kids.length cap3))[j]? = some u → wr.cell? ⟨b, off + i * 5 + j, none⟩ = some u := by
          intro j u hu
          rw [Nat.add_assoc]
          refine hcl _ u ?_
          rw [← List.getElem?_drop, e2, List.getElem?_append_left (by have := (List.getElem?_eq_some_iff.1 hu).1; exact this)]
          exact hu
        have c0 := hz5 0 _ rfl
        have c1 := hz5 1 _ rfl
        have c2 := hz5 2 _ rfl
        have c3 := hz5 3 _ rfl
        have c4 := hz5 4 _ rfl
        simp only [Nat.add_zero] at c0
        have hbl := hS b hSb
        have hJa : J (pre ++ T1) (wr.alloc (.cells (x.cells (.slice a2 x.attrs.length cap2) (.slice a3 x.kids.length cap3)).toArray 28)) := hJ _ wr _ none hJ1 (World.grownBy_alloc _ _ _) (fun r e => by cases e)
        have hbx := Box.new wr 28 (x.cells (.slice a2 x.attrs.length cap2) (.slice a3 x.kids.length cap3))
        have hlen : (pre ++ T1).length < N := by rw [hT] at hN; simp at hN ⊢; omega
        have hyy := fun m => yield_deep hd m (hY m _ ⟨x, ah, _, _, hrep, hfit⟩ _ hJa hlen)
        obtain ⟨fn, tmps, assign, body, hy, hR⟩ := hyy (n - 1)
        dsimp only [It.args, Nd.val] at hy
        have hihk := ih x.kids (by omega) (n - 1) (.slice a3 x.kids.length cap3) zs' Ta
        have hkc : Kp5 n₀ n₁ W (wr.alloc (.cells (x.cells (.slice a2 x.attrs.length cap2) (.slice a3 x.kids.length cap3)).toArray 28)) := hk1.trans (Kp5.of_below ((Below.refl _ _).alloc (Nat.le_refl _) _) (by omega))
        replace hihk := Lib.hid hihk
        replace hz5 := Lib.hid hz5
        replace hcl := Lib.hid hcl
        replace hT := Lib.hid hT
        replace e2 := Lib.hid e2
        clear hyy
        gi_wp2_with (fail)
        refine hR.mono ?_
        clear hR
        rintro e W2 (⟨rfl, hJ2, hk2⟩ | ⟨rfl, hx2⟩)
        · have hb2 := hk2.box hbx (by omega)
          have d4 := hb2.cell (i := 4) rfl
          have hJ2' := hJ2
          have hz2 := hk2.low.size
          simp only [World.size_alloc] at hz2
          have hih2 := hihk.out (pre ++ T1 ++ [⟨x, ah, _, _, hrep, hfit⟩]) W2 hrk hta (hb.trans (hkc.trans hk2).low) hn0 (by omega) hJ2 (by have := hT.out; rw [this] at hN; simp at hN ⊢; omega)
          replace hih2 := Lib.hid hih2
          clear hihk
          gi_wp2_with (fail)
          refine hih2.out.mono ?_
          rintro e W3 (⟨rfl, hJ3, hk3⟩ | ⟨rfl, q, hq, hx3⟩)
          · have hb3 := hk3.box hb2 (by omega)
            have f0 := hb3.cell (i := 0) rfl
            clear hih2 d4
            gi_wp2_with (fail)
            go_roundw
            case rel => exact ⟨i + 1, x.kind, T1 ++ (⟨x, ah, _, _, hrep, hfit⟩ :: Ta), Tb, by omega, by go_num, rfl, by rw [hT.out]; simp, htb, by simpa [List.append_assoc] using hJ3, (hkc.trans hk2).trans hk3⟩
            case measure => simp [intOf]; omega
          · gi_wp2_with (fail)
            go_ret
            refine .inr ⟨rfl, T1 ++ ⟨x, ah, _, _, hrep, hfit⟩ :: q, ?_, by simpa [List.append_assoc] using hx3⟩
            obtain ⟨q2, rfl⟩ := hq
            exact ⟨q2 ++ Tb, by rw [hT.out]; simp⟩
        · first
          | (refine ⟨fun _ h => (by cases h), ?_⟩; gi_wp2_with (fail))
          | gi_wp2_with (fail)
          go_ret
          refine .inr ⟨rfl, T1 ++ [⟨x, ah, _, _, hrep, hfit⟩], ?_, by simpa [List.append_assoc] using hx2⟩
          exact ⟨Ta ++ Tb, by rw [hT.out]; simp⟩
      · have hil : i = l.length := by omega
        subst hil
        rw [List.drop_length, Tells] at htl
        obtain ⟨_, rfl⟩ := htl
        have hT2 : T = T1 := by rw [hT]; simp
        clear hT
        replace hT2 := Lib.hid hT2
        gi_wp2_with (fail)
        go_ret
        exact .inl ⟨rfl, by rw [hT2.out]; exact hJ1, hk1⟩

set_option maxHeartbeats 1000000 in
theorem domEach1 (F : Fence) (hd : F.depth = none) (n : Nat) (h5 : F.fn 68) (h6 : F.fn 69) (hro : F.round = none) (S : Nat → Prop) (w0 : World) (l0 Bt n₀ n₁ : Nat) (hS : ∀ b, S b → b < n₀) (v : Value) (l : List Nd) (zs : List Value) (T : List (It S w0)) (J Jx : List (It S w0) → World → Prop) (B0 : Nat) (hJ : AbidesFrom B0 J)
    (hY : ∀ pre x W, J pre W → pre.length < T.length → YieldAt F (n - 1) Try.prog l0 x.args W fun e W' =>
      (e = .returned (.bool true) ∧ J (pre ++ [x]) W' ∧ Kp5 n₀ n₁ W W') ∨ (e = .returned (.bool false) ∧ Jx (pre ++ [x]) W'))
    (W : World) (hBt : W.cell? ⟨Bt, 0, none⟩ = some v) (hrow : Row S w0 5 v l.length zs) (ht : Tells S w0 0 zs l T) (hb : Below n₀ w0 W) (hn0 : n₀ ≤ n₁) (hn1 : n₁ ≤ W.heap.size) (h0 : J [] W) :
    CallsIn F n Try.prog 68 #[.func (.yield l0) #[] #[], .pointer (some ⟨Bt, 0, none⟩)] W fun e W' => (∃ v, e = .returned v) ∧
      ((∃ ys, ys = T ∧ J ys W') ∨ (∃ pre, pre <+: T ∧ Jx pre W')) := by
  have hdd : ∀ k : Nat, (F.depth.isSome = true → 1 ≤ k) := fun k h => by rw [hd] at h; cases h
  have hp := domTell F hd h6 hro S w0 l0 n₀ n₁ T.length hS J Jx B0 hJ (fun m pre x W hj hl => yield_deep hd m (hY pre x W hj hl)) (M3.weight l + 1) l (by omega) (n - 1) v zs T [] W hrow ht hb hn0 hn1 h0 (by simp)
  refine callsIn_of_wp Try.func68 rfl h5 ?_ hro
  simp only [Try.ntmps68, List.size_toArray, List.length_cons, List.length_nil, Nat.reduceAdd, Nat.reduceSub, Array.replicate_succ, Array.replicate_zero, List.push_toArray, List.append_toArray, List.nil_append, List.cons_append]
  replace hp := Lib.hid hp
  gi_wp2_with (fail)
  refine hp.out.mono ?_
  rintro e W1 (⟨rfl, hJ1, _⟩ | ⟨rfl, q, hq, hx⟩)
  · gi_wp2_with (fail)
    go_end0
    exact ⟨⟨_, rfl⟩, .inl ⟨_, rfl, by simpa using hJ1⟩⟩
  · gi_wp2_with (fail)
    go_end0
    exact ⟨⟨_, rfl⟩, .inr ⟨q, hq, by simpa using hx⟩⟩

set_option maxHeartbeats 1000000 in
theorem domEach (F : Fence) (n : Nat) (h4 : F.fn 43) (hro : F.round = none) (a : Option Addr) (len cap : Nat) (w : World) :
    CallsIn F n Try.prog 43 #[.slice a len cap] w fun e w' => e = .returned (.func (.func 68) #[] #[.pointer (some ⟨w.heap.size, 0, none⟩)]) ∧ w.alloc (.cells #[.slice a len cap] 22) = w' := by
  refine callsIn_of_wp Try.func43 rfl h4 ?_ hro
  simp only [Try.ntmps43, List.size_toArray, List.length_cons, List.length_nil, Nat.reduceAdd, Nat.reduceSub, Array.replicate_succ, Array.replicate_zero, List.push_toArray, List.append_toArray, List.nil_append, List.cons_append]
  gi_wp2
  go_ret
  exact ⟨rfl, rfl⟩

theorem eachStops (F : Fence) (hd : F.depth = none) (n : Nat) (h5 : F.fn 68) (h6 : F.fn 69) (hro : F.round = none) (S : Nat → Prop) (w0 : World) (Bt n₀ n₁ : Nat) (hS : ∀ b, S b → b < n₀) (v : Value) (l : List Nd) (zs : List Value) (T : List (It S w0)) (w : World)
    (hBt : w.cell? ⟨Bt, 0, none⟩ = some v) (hrow : Row S w0 5 v l.length zs) (ht : Tells S w0 0 zs l T) (hb : Below n₀ w0 w) (hn0 : n₀ ≤ n₁) (hn1 : n₁ ≤ w.heap.size) :
    SeqStopsK F n Try.prog 68 #[.pointer (some ⟨Bt, 0, none⟩)] (It.args (S := S) (w0 := w0)) (Kp5 n₀ n₁) (fun ys => ys = T) (fun pre => pre <+: T) T.length w := fun l0 J Jx W hW hJ _ hY h0 =>
  domEach1 F hd n h5 h6 hro S w0 l0 Bt n₀ n₁ hS v l zs T J Jx W.heap.size hJ hY W ((hW.cell (p := ⟨Bt, 0, none⟩) (World.block_lt_of_cell? w _ hBt)).trans hBt) hrow ht (hb.trans (hW.mono (by omega))) hn0 (Nat.le_trans hn1 hW.size) h0
end Go.Proofs.Ytjelmpajphajfaa

/- Package refs' functions: what each call gives, for any text. -/
namespace Go.Proofs.Ytjelmpajphajfaa
open Go.RowKit Go.Maps Go.WideShapes

theorem zero32 (w : World) : (zeroValue 21).run Try.prog w = .ok (.int .i32 0) w := by kernel_rfl

/-! ### The map of names -/
/-- The names' map as it reads. -/
def namesL : List (Lit × DataW Unit) := M2.tbl.map fun p => (.string p.1, .lit (.int .i32 (p.2 : Int)))
def namesD : DataW Unit := rowD namesL (.map [])
theorem namesL_keys : ∀ p ∈ namesL, WideAt.IsKeyLit p.1 := by
  intro p hp
  obtain ⟨q, _, rfl⟩ := List.mem_map.1 hp
  trivial
theorem namesL_apart : namesL.Pairwise (fun p q => p.1 ≠ q.1) := by
  rw [namesL, List.pairwise_map]
  exact M2.tbl_apart.imp (fun h e => h (by simpa using e))
theorem names_has (s : List UInt8) : Maps.has namesD (.string s) = (M2.nm s).isSome := by
  unfold namesD
  rw [rowD_has _ _ _ isMap_empty namesL_keys, has_eq, List.any_nil, Bool.or_false]
  rw [Bool.eq_iff_iff, List.any_eq_true]
  constructor
  · rintro ⟨p, hp, h⟩
    obtain ⟨q, hq, rfl⟩ := List.mem_map.1 hp
    have h := WideAt.sameKey_eq h
    simp only [Lit.string.injEq] at h
    rw [← h, M2.nm_of_mem hq]
    rfl
  · intro h
    obtain ⟨n, hn⟩ := Option.isSome_iff_exists.1 h
    exact ⟨_, List.mem_map.2 ⟨_, M2.nm_mem hn, rfl⟩, WideAt.sameKey_self (by trivial)⟩
theorem names_at (s : List UInt8) : namesD.atKey (.string s) (.lit (.int .i32 0)) = .lit (.int .i32 (((M2.nm s).getD 0 : Nat) : Int)) := by
  cases h : M2.nm s with
  | none =>
    refine atKey_of_not_has ?_ _
    rw [names_has, h]
    rfl
  | some n => exact rowD_at namesL _ _ (.string s, .lit (.int .i32 (n : Int))) isMap_empty namesL_keys namesL_apart (List.mem_map.2 ⟨_, M2.nm_mem h, rfl⟩)
abbrev Names (w : World) (b : Nat) : Prop := w.ownsMap Try.prog 9 (plainElem Try.prog 21) b 15 namesD

/-- 'next' on a text, by lists. -/
theorem nextDec {P : Program} (w : World) (k : Nat) (s : ByteArray) (pos : Nat) (hk : w.heap[k]? = some (.stringIter s pos)) (h : pos < s.size) : ∀ ty,
    (Instr.next (.pointer (some ⟨k, 0, none⟩)) true ty).run P w =
      .ok (.tuple #[.bool true, .int .i64 pos, .int .i32 (M1.dec (s.data.toList.drop pos)).1]) (w.iterAt k s (pos + (M1.dec (s.data.toList.drop pos)).2)) := fun ty => by
  rw [Lib.run_next_any_at w k s pos ty hk h, M1.decode_eq]

/-! ### References -/
/-- What a call answers of a reference. -/
def ans (o : Option (Int × Nat)) : Value := .tuple #[.int .i32 ((o.map (·.1)).getD 0), .int .i64 (((o.map (·.2)).getD 0 : Nat) : Int)]
theorem ans_mk (o : Option (Int × Nat)) : ∃ x y, ans o = .tuple #[.int .i32 x, .int .i64 y] := ⟨_, _, rfl⟩
theorem ans_none : ans none = .tuple #[.int .i32 0, .int .i64 0] := rfl
theorem ans_some (r : Int) (n : Nat) : ans (some (r, n)) = .tuple #[.int .i32 r, .int .i64 (n : Int)] := rfl

theorem hp_of {s : ByteArray} (p : List UInt8) (q : Bool) (h : decide (s.data.toList.take p.length = p) = q) : Lib.hasPrefix s.data.toList p = q := by
  rw [← h, Bool.eq_iff_iff, decide_eq_true_iff, Lib.hasPrefix, List.isPrefixOf_iff_prefix, List.prefix_iff_eq_take]
  exact eq_comm


end Go.Proofs.Ytjelmpajphajfaa

/- Package refs' Decode and Escape: what each call gives, for any text. -/
namespace Go.Proofs.Ytjelmpajphajfaa
open Go.RowKit Go.Maps Go.WideShapes

theorem names_keep {w w' : World} {b B : Nat} (h : Names w b) (hb : Below B w w') (hlt : b < B) : Names w' b := by
  obtain ⟨es, clock, h1, h2⟩ := h
  exact ⟨es, clock, by rw [hb.block b hlt]; exact h1, h2⟩
theorem grown_below {w w' : World} (hb : Below w.heap.size w w') : w.grownBy w' none := ⟨hb.os, hb.tape, hb.output, hb.size, fun k hk _ => hb.block k hk⟩
theorem bldrAt_below {T e : TypeId} {B b : Nat} {p : Value} {bs : List Value} {w w' : World} (h : Lib.BuilderAtF T e B b p bs w) (hb : Below w.heap.size w w') : Lib.BuilderAtF T e B b p bs w' := by
  have hlt := h.lt
  obtain ⟨hB, v, hbk, hown, hne⟩ := h
  refine ⟨hB, v, by rw [hb.block b hlt]; exact hbk, hown.kept (grown_below hb) (by cases v.ownBlock <;> simp), hne⟩
theorem bldr_below {T e : TypeId} {B b : Nat} {bs : List Value} {w w' : World} (h : Lib.IsBuilderF T e B b bs w) (hb : Below w.heap.size w w') : Lib.IsBuilderF T e B b bs w' :=
  h.imp (fun h => bldrAt_below h hb) (fun h => bldrAt_below h hb)
theorem bldr_lt {T e : TypeId} {B b : Nat} {bs : List Value} {w : World} (h : Lib.IsBuilderF T e B b bs w) : b < w.heap.size := by
  rcases h with h | h <;> exact h.lt

/-- How long a text in a slot is. -/
def strSz : Value → Nat
  | .string s => s.size
  | _ => 0

set_option maxHeartbeats 4000000 in
set_option maxRecDepth 100000 in
theorem refsEscape (s : ByteArray) (v : Bool) (w : World) (hs : s.size ≤ 1073741824) :
    Calls Try.prog 86 #[.string s, .bool v] w fun e w' => e = .returned (.string ⟨(M2.escape v s.data.toList).toArray⟩) ∧ Below w.heap.size w w' := by
  go_enter Try.func86, Try.ntmps86
  go_wp2
  go_loopw [10] (fun i wr => ∃ k : Nat, k ≤ s.size ∧ i = .int .i64 k ∧ Lib.IsBuilderF 79 5 w.heap.size w.heap.size (u8s (M2.escape v (s.data.toList.take k))) wr ∧ Below w.heap.size w wr) (fun i _ => s.size - (intOf i).toNat)
  case atStart =>
    exact ⟨0, by omega, rfl, Lib.IsBuilderF.of (Lib.fresh_isBuilder 79 5 w), (Below.refl _ w).alloc (Nat.le_refl _) _⟩
  case round =>
    obtain ⟨k, hk, rfl, hI, hbw⟩ := hrel
    have hle := M2.escape_len v (s.data.toList.take k)
    have hlt1 : (s.data.toList.take k).length ≤ k := List.length_take_le _ _
    have hB := hbw.size
    by_cases hlt : k < s.size
    · have htk : M2.escape v (s.data.toList.take (k + 1)) = M2.escape v (s.data.toList.take k) ++ M2.esc v s[k] := by
        rw [show s.data.toList.take (k + 1) = s.data.toList.take k ++ [s[k]] from List.take_succ_eq_append_getElem (l := s.data.toList) hlt, M2.escape_append]
        simp [M2.escape]
      have fin : ∀ (add : List UInt8) w2, M2.esc v s[k] = add → Lib.BuilderAtF 79 5 w.heap.size w.heap.size (.pointer (some ⟨w.heap.size, 0, none⟩)) (u8s (M2.escape v (s.data.toList.take k)) ++ u8s add) w2 → Below w.heap.size wr w2 →
          ∃ j : Nat, j ≤ s.size ∧ Value.int .i64 ((k : Int) + 1) = .int .i64 j ∧ Lib.IsBuilderF 79 5 w.heap.size w.heap.size (u8s (M2.escape v (s.data.toList.take j))) w2 ∧ Below w.heap.size w w2 := by
        intro add w2 h1 h2 h3
        refine ⟨k + 1, by omega, by go_num, ?_, hbw.trans h3⟩
        rw [htk, u8s_append, h1]
        exact Or.inr h2
      replace fin := Lib.hid fin
      have hWS := fun (x : List UInt8) (h : x.length ≤ 6) => bWriteString w.heap.size w.heap.size (u8s (M2.escape v (s.data.toList.take k))) ⟨x.toArray⟩ wr hI (by rw [u8s_length]; show _ + x.length ≤ _; omega) hB
      have hWB := fun (x : Int) => bWriteByte w.heap.size w.heap.size (u8s (M2.escape v (s.data.toList.take k))) x wr hI (by rw [u8s_length]; omega) hB
      replace hWS := Lib.hid hWS
      replace hWB := Lib.hid hWB
      clear htk hI hle hlt1
      by_cases h38 : s[k] = 38
      · have F := Lib.hid (fin.out [38, 97, 109, 112, 59] · (by rw [h38]; rfl))
        clear fin hWB
        go_wp2_with fail
        refine (hWS.out [38, 97, 109, 112, 59] (by decide)).mono ?_
        rintro e w2 ⟨rfl, hI2, b2, k2⟩
        replace F := Lib.hid (F.out w2 hI2 b2)
        go_wp2
        go_roundw
        case rel => exact F.out
        case measure => simp [intOf]; omega
      have h38b : ((s[k].toNat : Int) == 38) = false := by simp; intro e; exact h38 (UInt8.toNat_inj.1 (by simpa using (by omega : s[k].toNat = 38)))
      by_cases h60 : s[k] = 60
      · have F := Lib.hid (fin.out [38, 108, 116, 59] · (by rw [h60]; rfl))
        clear fin hWB h38
        go_wp2_with fail
        refine (hWS.out [38, 108, 116, 59] (by decide)).mono ?_
        rintro e w2 ⟨rfl, hI2, b2, k2⟩
        replace F := Lib.hid (F.out w2 hI2 b2)
        go_wp2
        go_roundw
        case rel => exact F.out
        case measure => simp [intOf]; omega
      have h60b : ((s[k].toNat : Int) == 60) = false := by simp; intro e; exact h60 (UInt8.toNat_inj.1 (by simpa using (by omega : s[k].toNat = 60)))
      by_cases h62 : s[k] = 62
      · have F := Lib.hid (fin.out [38, 103, 116, 59] · (by rw [h62]; rfl))
        clear fin hWB h38 h60
        go_wp2_with fail
        refine (hWS.out [38, 103, 116, 59] (by decide)).mono ?_
        rintro e w2 ⟨rfl, hI2, b2, k2⟩
        replace F := Lib.hid (F.out w2 hI2 b2)
        go_wp2
        go_roundw
        case rel => exact F.out
        case measure => simp [intOf]; omega
      have h62b : ((s[k].toNat : Int) == 62) = false := by simp; intro e; exact h62 (UInt8.toNat_inj.1 (by simpa using (by omega : s[k].toNat = 62)))
      by_cases h34 : s[k] = 34
      · cases v
        · have F := Lib.hid (fin.out [34] · (by rw [h34]; rfl))
          clear fin hWS h38 h60 h62
          go_wp2_with fail
          refine (hWB.out 34).mono ?_
          rintro e w2 ⟨rfl, hI2, b2, k2⟩
          replace F := Lib.hid (F.out w2 hI2 b2)
          go_wp2
          go_roundw
          case rel => exact F.out
          case measure => simp [intOf]; omega
        · have F := Lib.hid (fin.out [38, 113, 117, 111, 116, 59] · (by rw [h34]; rfl))
          clear fin hWB h38 h60 h62
          go_wp2_with fail
          refine (hWS.out [38, 113, 117, 111, 116, 59] (by decide)).mono ?_
          rintro e w2 ⟨rfl, hI2, b2, k2⟩
          replace F := Lib.hid (F.out w2 hI2 b2)
          go_wp2
          go_roundw
          case rel => exact F.out
          case measure => simp [intOf]; omega
      have h34b : ((s[k].toNat : Int) == 34) = false := by simp; intro e; exact h34 (UInt8.toNat_inj.1 (by simpa using (by omega : s[k].toNat = 34)))
      have F := Lib.hid (fin.out [s[k]] · (by rw [M2.esc, if_neg h38, if_neg h60, if_neg h62, if_neg (fun e => h34 e.1)]))
      clear fin hWS h38 h60 h62 h34
      go_wp2_with fail
      refine (hWB.out (s[k].toNat : Int)).mono ?_
      rintro e w2 ⟨rfl, hI2, b2, k2⟩
      replace F := Lib.hid (F.out w2 hI2 b2)
      go_wp2
      go_roundw
      case rel => exact F.out
      case measure => simp [intOf]; omega
    · go_wp2_with fail
      refine (bString w.heap.size w.heap.size _ _ hI hB).mono ?_
      rintro e W1 ⟨rfl, _, b1, _⟩
      go_wp2
      go_ret
      rw [List.take_of_length_le (show s.data.toList.length ≤ k from by have : s.data.toList.length = s.size := rfl; omega)]
      exact ⟨rfl, hbw.trans b1⟩
end Go.Proofs.Ytjelmpajphajfaa

/- Layer 4 by plain definitions: nodes' text. No program in it. -/
namespace Go.Proofs.Ytjelmpajphajfaa

namespace M4
def attB (a : Att) : List UInt8 := 32 :: (a.name.data.toList ++ ([61, 34] ++ (M2.escape true a.value.data.toList ++ [34])))
def attsB (l : List Att) : List UInt8 := l.flatMap attB
def headB (n : ByteArray) (l : List Att) : List UInt8 := 60 :: (n.data.toList ++ (attsB l ++ [62]))
def endB (n : ByteArray) : List UInt8 := if M3.voidB n.data.toList then [] else [60, 47] ++ (n.data.toList ++ [62])
def openB (x : Nd) : List UInt8 := if x.kind = 1 then headB x.name x.attrs else []
def closeB (x : Nd) : List UInt8 := if x.kind = 1 then endB x.name else []
def charsB (raw : Bool) (t : ByteArray) : List UInt8 := if raw then t.data.toList else M2.escape false t.data.toList
def commB (t : ByteArray) : List UInt8 := [60, 33, 45, 45] ++ (t.data.toList ++ [45, 45, 62])
def textB : Bool → List Nd → List UInt8
  | _, [] => []
  | raw, .mk k n a t ks :: r =>
    (if k = 1 then headB n a ++ ((if M3.voidB n.data.toList then [] else textB (M3.rawB n.data.toList) ks) ++ endB n)
     else if k = 2 then charsB raw t else if k = 3 then commB t else []) ++ textB raw r
termination_by _ l => SizeOf.sizeOf l
def oneB (raw : Bool) (x : Nd) : List UInt8 :=
  if x.kind = 1 then headB x.name x.attrs ++ ((if M3.voidB x.name.data.toList then [] else textB (M3.rawB x.name.data.toList) x.kids) ++ endB x.name)
  else if x.kind = 2 then charsB raw x.text else if x.kind = 3 then commB x.text else []
def innerB (v raw : Bool) (ks : List Nd) : List UInt8 := if v then [] else textB raw ks
theorem oneB_1 {raw : Bool} {x : Nd} (h : x.kind = 1) : oneB raw x = headB x.name x.attrs ++ (innerB (M3.voidB x.name.data.toList) (M3.rawB x.name.data.toList) x.kids ++ endB x.name) := by unfold oneB innerB; rw [if_pos h]
theorem innerB_no (raw : Bool) (ks : List Nd) : innerB false raw ks = textB raw ks := rfl
theorem innerB_yes (raw : Bool) (ks : List Nd) : innerB true raw ks = [] := rfl
theorem innerB_len (v raw : Bool) (ks : List Nd) : (innerB v raw ks).length ≤ (textB raw ks).length := by cases v <;> simp [innerB]
theorem oneB_2 {raw : Bool} {x : Nd} (h : x.kind = 2) : oneB raw x = charsB raw x.text := by unfold oneB; rw [if_neg (by omega), if_pos h]
theorem oneB_3 {raw : Bool} {x : Nd} (h : x.kind = 3) : oneB raw x = commB x.text := by unfold oneB; rw [if_neg (by omega), if_neg (by omega), if_pos h]
theorem oneB_4 {raw : Bool} {x : Nd} (h1 : x.kind ≠ 1) (h2 : x.kind ≠ 2) (h3 : x.kind ≠ 3) : oneB raw x = [] := by unfold oneB; rw [if_neg h1, if_neg h2, if_neg h3]
theorem textB_nil (raw : Bool) : textB raw [] = [] := by rw [textB]
theorem textB_cons (raw : Bool) (x : Nd) (r : List Nd) : textB raw (x :: r) = oneB raw x ++ textB raw r := by cases x; rw [textB]; rfl
theorem textB_append (raw : Bool) (a b : List Nd) : textB raw (a ++ b) = textB raw a ++ textB raw b := by
  induction a with
  | nil => rw [textB_nil]; rfl
  | cons x r ih => rw [List.cons_append, textB_cons, textB_cons, ih, List.append_assoc]
theorem textB_snoc (raw : Bool) (a : List Nd) (x : Nd) : textB raw (a ++ [x]) = textB raw a ++ oneB raw x := by
  rw [textB_append, textB_cons, textB_nil, List.append_nil]
theorem textB_take (raw : Bool) (l : List Nd) (i : Nat) (h : i < l.length) : textB raw (l.take (i + 1)) = textB raw (l.take i) ++ oneB raw l[i] := by
  rw [List.take_succ_eq_append_getElem h, textB_snoc]
theorem textB_prefix (raw : Bool) (l : List Nd) (i : Nat) : (textB raw (l.take i)).length ≤ (textB raw l).length := by
  have : textB raw l = textB raw (l.take i) ++ textB raw (l.drop i) := by rw [← textB_append, List.take_append_drop]
  rw [this, List.length_append]; omega
def plainT : List Nd → List UInt8
  | [] => []
  | .mk k _ _ t ks :: r => (if k = 2 then t.data.toList else []) ++ (plainT ks ++ plainT r)
termination_by l => SizeOf.sizeOf l
def plain1 (x : Nd) : List UInt8 := (if x.kind = 2 then x.text.data.toList else []) ++ plainT x.kids
theorem plainT_nil : plainT [] = [] := by rw [plainT]
theorem plainT_cons (x : Nd) (r : List Nd) : plainT (x :: r) = plain1 x ++ plainT r := by cases x; rw [plainT, ← List.append_assoc]; rfl
theorem plainT_append (a b : List Nd) : plainT (a ++ b) = plainT a ++ plainT b := by
  induction a with
  | nil => rw [plainT_nil]; rfl
  | cons x r ih => rw [List.cons_append, plainT_cons, plainT_cons, ih, List.append_assoc]
theorem plainT_take (l : List Nd) (i : Nat) (h : i < l.length) : plainT (l.take (i + 1)) = plainT (l.take i) ++ plain1 l[i] := by
  rw [List.take_succ_eq_append_getElem h, plainT_append, plainT_cons, plainT_nil, List.append_nil]
theorem plainT_prefix (l : List Nd) (i : Nat) : (plainT (l.take i)).length ≤ (plainT l).length := by
  have : plainT l = plainT (l.take i) ++ plainT (l.drop i) := by rw [← plainT_append, List.take_append_drop]
  rw [this, List.length_append]; omega
theorem attsB_take (l : List Att) (i : Nat) (h : i < l.length) : attsB (l.take (i + 1)) = attsB (l.take i) ++ attB l[i] := by
  unfold attsB
  rw [List.take_succ_eq_append_getElem h, List.flatMap_append, List.flatMap_cons, List.flatMap_nil, List.append_nil]
theorem attsB_prefix (l : List Att) (i : Nat) : (attsB (l.take i)).length ≤ (attsB l).length := by
  have : attsB l = attsB (l.take i) ++ attsB (l.drop i) := by rw [attsB, attsB, attsB, ← List.flatMap_append, List.take_append_drop]
  rw [this, List.length_append]; omega

/-! ### How long -/
theorem attsB_len (l : List Att) (h : ∀ a ∈ l, a.name.size ≤ 268435456 ∧ a.value.size ≤ 268435456) : (attsB l).length ≤ l.length * 4294967296 := by
  induction l with
  | nil => simp [attsB]
  | cons a r ih =>
    have h1 := ih (fun b hb => h b (by simp [hb]))
    obtain ⟨h2, h3⟩ := h a (by simp)
    have h4 := M2.escape_len true a.value.data.toList
    have e : (attsB (a :: r)).length = (attB a).length + (attsB r).length := by simp [attsB]
    have e2 : (attB a).length = a.name.size + (M2.escape true a.value.data.toList).length + 4 := by
      simp only [attB, List.length_cons, List.length_append, List.length_nil]
      show a.name.size + _ + 1 = _
      omega
    have h5 : a.value.data.toList.length = a.value.size := rfl
    rw [e, List.length_cons]
    omega
theorem headB_len (n : ByteArray) (l : List Att) : (headB n l).length = n.size + (attsB l).length + 2 := by
  simp only [headB, List.length_cons, List.length_append, List.length_nil]
  show n.size + _ + 1 = _
  omega
theorem endB_len (n : ByteArray) : (endB n).length ≤ n.size + 3 := by
  unfold endB
  split
  · simp
  · simp only [List.length_cons, List.length_append, List.length_nil]; show _ + (n.size + _) ≤ _; omega
theorem charsB_len (raw : Bool) (t : ByteArray) : t.size ≤ (charsB raw t).length ∧ (charsB raw t).length ≤ 6 * t.size := by
  have h := M2.escape_len false t.data.toList
  have h5 : t.data.toList.length = t.size := rfl
  unfold charsB
  split
  · omega
  · refine ⟨?_, by omega⟩
    rw [← h5]
    generalize t.data.toList = l
    induction l with
    | nil => simp
    | cons c r ih =>
      rw [M2.escape_cons, List.length_append, List.length_cons]
      have : 1 ≤ (M2.esc false c).length := by unfold M2.esc; (repeat' split) <;> simp
      omega
theorem commB_len (t : ByteArray) : (commB t).length = t.size + 7 := by
  simp only [commB, List.length_cons, List.length_append, List.length_nil]; show _ + (t.size + _) = _; omega
end M4
end Go.Proofs.Ytjelmpajphajfaa
